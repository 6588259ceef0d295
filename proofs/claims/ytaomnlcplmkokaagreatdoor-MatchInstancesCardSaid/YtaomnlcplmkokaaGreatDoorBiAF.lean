import Derived.Test.YtaomnlcplmkokaaGreatDoorBiAE
import Derived.Test.YtaomnlcplmkokaaGreatDoorBiAD
set_option maxHeartbeats 12800000
namespace Go.Proofs.YtaomnlcplmkokaaGreatDoor
open Go.RowKit Lx Tx Go.Maps Go.WideMaps Go.Shelf
set_option maxRecDepth 100000
def za2(q:List (Name × TV)):List Value:=q.flatMap λp=>[.string ⟨p.1.toArray⟩,.int .i64 p.2.k,.string p.2.x,.int .i64 p.2.z,.slice p.2.a p.2.m p.2.p]
def BindR(S:Nat->Prop)(B:Nat)(w:World)(v:Value)(n:Nat)(l:List (Name × Ty)):Prop:=∃q,RelV S w l q/\q.length=n/\w.ownsRow B 56 5 v n (za2 q)
def MPst(vars:List Name)(p t:Ty)(St:Nat->Prop)(w:World)(e:Ending)(w':World):Prop :=
 Below w.heap.size w w'/\((zca vars p t/\∃A n c,e=.returned (.tuple #[.slice A n c,.bool true])/\BindR St w.heap.size w' (.slice A n c) n (za7 (zau vars p t) (zam p))) \/
  (¬zca vars p t/\e=.returned (.tuple #[.slice none 0 0,.bool false])))
theorem zmt {q:List (Name × TV)} {x:Name} {y:DataW Unit}(h:∀z,(envD mkVal.enc q).atKey (.string x) z=y):∃v,look x q=some v/\y=v.enc:=by
 cases hl:look x q with
 |some v =>
  have:=h .nil;rw[zdf,hl]at this
  exact⟨v,rfl,this.symm⟩
 |none =>
  have h1:=h .nil;have h2:=h (.lit (.int .i64 0));rw[zdf,hl]at h1 h2
  have h1:(DataW.nil:DataW Unit)=y:=h1;have h2:(.lit (.int .i64 0):DataW Unit)=y:=h2;rw[<-h1]at h2
  cases h2
theorem zle(x y:Name)(h:(Lit.string x).sameKey (.string y)=true):x=y:=by
 have:=WideAt.sameKey_eq h;injection this
theorem zrm:(Tryz.prog.info? 56).map (λi=>(i.zero,i.size,i.bytes))=some (some (.agg #[.string ⟨#[]⟩,.int .i64 0,.string ⟨#[]⟩,.int .i64 0,.slice none 0 0]),5,72):=by kernel_rfl
theorem zhn(r:List (Name × Ty))(x:Name):(l:List Name)->za7 r (l++[x])=za7 r l++(match look x r with|some u=>[(x,u)]|none=>[])
 |[]=>by
  rw[List.nil_append,za7,za7,za7,List.nil_append]
  cases look x r <;> rfl
 |y::l=>by
  rw[List.cons_append,za7,za7,zhn r x l]
  cases look y r <;> rfl
theorem zmu(r:List (Name × Ty))(l:List Name)(i:Nat)(hi:i<l.length):za7 r (l.take (i+1))=za7 r (l.take i)++(match look l[i] r with|some u=>[(l[i],u)]|none=>[]):=by
 rw[List.take_succ_eq_append_getElem hi,zhn]
theorem RelV.snoc {S:Nat->Prop} {w:World} {x:Name} {t:Ty} {v:TV}(hv:RdV S w t v.val):∀(r:List (Name × Ty))(q:List (Name × TV)),RelV S w r q->RelV S w (r++[(x,t)]) (q++[(x,v)])
 |[],[],_=>⟨rfl,hv,trivial⟩
 |(y,t)::r,(z,v)::q,h=>by
  rw[RelV]at h
  exact⟨h.1,h.2.1,RelV.snoc hv r q h.2.2⟩
 |[],_::_,h=>h.elim
 |_::_,[],h=>h.elim
theorem zho(q:List (Name × TV))(x:Name)(v:TV):za2 (q++[(x,v)])=za2 q++[.string ⟨x.toArray⟩,.int .i64 v.k,.string v.x,.int .i64 v.z,.slice v.a v.m v.p]:=by
 unfold za2;rw[List.flatMap_append]
 rfl
def HeadBd(St:Nat->Prop)(r:List (Name × Ty))(l:List Name)(n:Nat)(w8:World)(gg:Nat)(vl vi:Value)(wr:World):Prop :=
 ∃(i:Nat) (qs:List (Name × TV)),gg=n-i/\vi=.int .i64 (i:Nat)/\i<=n/\RelV St wr (za7 r (l.take i)) qs/\qs.length<=i/\wr.ownsRow w8.heap.size 56 5 vl qs.length (za2 qs)/\Below w8.heap.size w8 wr
def HeadPo(b B ns:Nat)(q:List (Name × TV))(found:List (Name × Ty))(w2:World)(wr:World):Prop :=
 ∃(left:Lit->Bool) (cnt:Nat),wr.ranges Tryz.prog 9 mkVal.R b B ns (envD mkVal.enc q) left cnt/\Below w2.heap.size w2 wr/\w2.heap.size<wr.heap.size /\
  ∀x u,look x found=some u->left (.string x)=true\/u.poly=false
theorem zmv {w w':World}(h:w.grownBy w' none):Below w.heap.size w w':=⟨h.os,h.tape,h.output,h.size,λg hg=>h.block g hg (λe=>by cases e)⟩
theorem ziB(p t:Ty)(vars:List Name)(S St:Nat->Prop)(v u:Value)(A1:Option Addr)(nv cv:Nat)(w:World)(ht:Tab w)(hv:RdV S w p v)(hu:RdV St w t u)(hS:∀g,S g->g<w.heap.size)(hSt:∀g,St g->g<w.heap.size)(hvs:RowA w (.slice A1 nv cv) (strV vars))(hnv:vars.length=nv)(hl:∀x∈vars,x.length<=maxLen)(hvl:nv<=10000000)(hnm:Nm p)(hnt:Nm t)(hsz:p.size<=1000)(hst:t.size<=1000):Calls Tryz.prog 11 #[v,u,.slice A1 nv cv] w (MPst vars p t St w):=by
 obtain⟨K,X,Z,A,m,cp,rfl,-,-,-,-,-⟩:=hv.parts;obtain⟨K2,X2,Z2,A2,m2,cp2,rfl,-,-,-,-,-⟩:=hu.parts;obtain⟨l0,l1,ls,lb⟩:=za8 w (.cells #[.int .i64 K,.string X,.int .i64 Z,.slice A m cp] 26) (.cells #[.int .i64 K2,.string X2,.int .i64 Z2,.slice A2 m2 cp2] 26);obtain⟨W2,hW2⟩:∃W,(w.alloc (.cells #[.int .i64 K,.string X,.int .i64 Z,.slice A m cp] 26)).alloc (.cells #[.int .i64 K2,.string X2,.int .i64 Z2,.slice A2 m2 cp2] 26)=W:=⟨_,rfl⟩;rw[hW2]at l0 l1 ls lb
 obtain⟨p0,p1,p2,p3,-⟩:=zaa (show Blk W2 w.heap.size 26 _ from l0);obtain⟨q0,q1,q2,q3,-⟩:=zaa (show Blk W2 (w.heap.size+1) 26 _ from l1);have hv2:=hv.keep (S':=S) (w':=W2) (λ_ h=>h) (λg hg=>lb.block g (hS g hg));have hu2:=hu.keep (S':=St) (w':=W2) (λ_ h=>h) (λg hg=>lb.block g (hSt g hg));have hfind:=zpO p t vars S St _ _ A1 nv cv W2 hv2 hu2 (λg hg=>by have:=hS g hg;omega) (λg hg=>by have:=hSt g hg;omega) (hvs.below lb) hnv hl hvl hnm (by omega);have L0:Hid (Blk W2 w.heap.size 26 #[.int .i64 K,.string X,.int .i64 Z,.slice A m cp]):=hidE l0;have L1:Hid (Blk W2 (w.heap.size+1) 26 #[.int .i64 K2,.string X2,.int .i64 Z2,.slice A2 m2 cp2]):=hidE l1;have LS:=hidE ls;have LB:=hidE lb;have HFIND:=hidE hfind;have HW2:=hidE hW2;have HV:=hidE hv2;have HU:=hidE hu2;have HS:=hidE hS;have HST:=hidE hSt;have HNM:=hidE hnm;have HNT:=hidE hnt;have HT:=hidE ht;clear hv hu hv2 hu2 hS hSt hvs hnv hl hnm hnt l0 l1 ls lb hfind hW2 ht;go_enter Tryz.func11,Tryz.ntmps11
 go_upto_region 1 with fail
 rw[HW2.out]
 go_wp2_with fail
 refine HFIND.out.mono ?_;rintro e w2 ⟨mb,q,rfl,hmb,hm2,hrel2,hql,b2⟩;have hs2:=b2.size;obtain⟨ns,hns,hown⟩:=hm2;have HREL:=hidE hrel2;have HMAP:Hid (MapE mkVal w2 mb q):=hidE ⟨ns,hns,hown⟩;have HOWN:=hidE hown;have B2:=hidE b2;have HQL:=hidE hql;have hml:=hown.lt;clear hrel2 hown b2 HFIND p0 p1 p2 p3 q0 q1 q2 q3 hql hns;go_wp2_with (first
  |(at_range;refine wpList_range_own _ rfl _ 65 rfl 9 26 strKeyed mkVal.hT mkVal.R mb ns _ rfl HOWN.out ?_;intro w0 hrg0 hg0 hs0)
  |go_in)
 have HRG0:=hidE hrg0;have HG0:=hidE hg0;have HS0:=hidE hs0;clear hrg0 hg0 hs0;go_frame
 go_loopw [10] (λ_ wr=>HeadPo mb w2.heap.size ns q (zau vars p t) w2 wr) (λ_ wr=>wr.rangeLeft mb w2.heap.size)
 case atStart =>
  refine⟨_,_,HRG0.out,⟨HG0.out.os,HG0.out.tape,HG0.out.output,HG0.out.size,λg hg=>HG0.out.block g hg (λe=>by cases e)⟩,by have:=HS0.out;omega,λx u hx=>.inl ?_⟩;rw[zde]
  rcases RelV.found x _ q HREL.out with⟨h1,-⟩|⟨t',v',-,h2,-⟩
  ·have hx:look x (zaN vars [] p t [])=some u:=hx
   rw[h1]at hx;cases hx
  ·rw[h2];rfl
 case round =>
  obtain⟨left,cnt,hrg,hbw,hlt,hall⟩:=hrel;have HRG:=hidE hrg;have HBW:=hidE hbw;have HALL:=hidE hall;have hszw:=hbw.size;clear hbw hall;go_wp2_with (first
   |(at_next;refine wpList_next_ranges _ rfl _ rfl 9 strKeyed mkVal.R id (λv:TV=>v.val) (λkey _ _=>⟨key,rfl⟩) (λv y hv=>by obtain⟨c,h,-⟩:=zld hv;exact⟨c,h⟩) mb w2.heap.size ns _ _ _ rfl HRG.out ?_ ?_)
   |go_in)
  ·intro hc0 hl0
   have hnp:¬zq3 (zau vars p t):=λ⟨x,u,h1,h2⟩=>by
    rcases HALL.out x u h1 with h|h
    ·rw[hl0]at h;cases h
    ·rw[h]at h2;cases h2
   have HNP:=hidE hnp;have hpl:∀t' u,zay (zau vars p t) t'=some u->Nm u/\u.size<=1000:=zfX (zdq vars 1000 p t HNT.out hst);have hroom:(freeIn (zay (zau vars p t)) p).length<=90000000:=by
    have h1:=zdC (zau vars p t) p 1000 (λt' u h=>(hpl t' u h).2);omega
   have hlsz:=LS.out;have hwr:Below W2.heap.size W2 wr:=B2.out.trans (HBW.out.mono (by omega));have hwr0:Below w.heap.size w wr:=LB.out.trans (hwr.mono (by omega));have hfe:FndE St wr.drew mb (zau vars p t):=⟨q,HMAP.out.keep (HBW.out.block _ hml),RelV.keep (S:=St) (S':=St) (w:=w2) (w':=wr.drew) (λ_ h=>h) (λg hg=>HBW.out.block g (by have:=HST.out g hg;omega)) _ _ HREL.out⟩;have hput:=zlL mb (zau vars p t) St (λt' u h=>⟨(hpl t' u h).1,by have:=(hpl t' u h).2;omega⟩) p S _ wr.drew hfe (λg hg=>by have:=HST.out g hg;show g<wr.heap.size;omega) (HV.out.keep (S':=S) (w':=wr.drew) (λ_ h=>h) (λg hg=>hwr.block g (by have:=HS.out g hg;omega))) (λg hg=>by have:=HS.out g hg;show g<wr.heap.size;omega) HNM.out (by omega) hroom ((HT.out.below hwr0).keep rfl);have hnR:=zlR (zay (zau vars p t)) p (by omega) hroom HNM.out (λt' u h=>(hpl t' u h).1);have hsR:=ziJ (zay (zau vars p t)) p 1000 (by omega) (λt' u h=>(hpl t' u h).2);have hmi:((smT [] [] (putP (zay (zau vars p t)) p) t 0).1=true↔db [] (putP (zay (zau vars p t)) p)=db [] t):=same_iff _ _;have hmb':zca vars p t↔db [] (putP (zay (zau vars p t)) p)=db [] t:=⟨λh=>h.2,λh=>⟨hnp,h⟩⟩;obtain⟨R,hR⟩:∃R,putP (zay (zau vars p t)) p=R:=⟨_,rfl⟩;rw[hR]at hput hnR hsR hmi hmb'
   obtain⟨qs,hqs⟩:∃qs,(smT [] [] R t 0).1=qs:=⟨_,rfl⟩;have HMB:Hid (zca vars p t↔qs=true):=hidE (by rw[hmb',<-hmi,hqs]);have SAME:Hid (∀(S1:Nat->Prop) (va:Value) (W:World),RdV S1 W R va->(∀g,S1 g->g<W.heap.size)->Below wr.heap.size wr W->Calls Tryz.prog 23 #[va,.agg #[.int .i64 K2,.string X2,.int .i64 Z2,.slice A2 m2 cp2]] W λe w'=>e=.returned (.bool qs)/\Below W.heap.size W w'):=hidE λS1 va W h1 h2 h3=>by
    have h:=zr7 R t S1 St va _ W h1 (HU.out.keep (S':=St) (w':=W) (λ_ h=>h) (λg hg=>(h3.block g (by have:=HST.out g hg;omega)).trans (hwr.block g (by have:=HST.out g hg;omega)))) h2 (λg hg=>by have:=HST.out g hg;have:=h3.size;omega) hnR HNT.out (by omega);rw[hqs]at h
    exact h
   have B1w:Blk wr w.heap.size 26 #[.int .i64 K,.string X,.int .i64 Z,.slice A m cp]:=Blk.below (w:=W2) L0.out hwr (by omega);have B2w:Blk wr (w.heap.size+1) 26 #[.int .i64 K2,.string X2,.int .i64 Z2,.slice A2 m2 cp2]:=Blk.below (w:=W2) L1.out hwr (by omega);have SOF:Hid (∀W:World,Below wr.heap.size wr W->(λW:World=>W.cell? ⟨w.heap.size,0,none⟩=some (.int .i64 K)/\W.cell? ⟨w.heap.size,1,none⟩=some (.string X)/\W.cell? ⟨w.heap.size,2,none⟩=some (.int .i64 Z)/\W.cell? ⟨w.heap.size,3,none⟩=some (.slice A m cp)/\W.cell? ⟨w.heap.size+1,0,none⟩=some (.int .i64 K2)/\W.cell? ⟨w.heap.size+1,1,none⟩=some (.string X2)/\W.cell? ⟨w.heap.size+1,2,none⟩=some (.int .i64 Z2)/\W.cell? ⟨w.heap.size+1,3,none⟩=some (.slice A2 m2 cp2)) W):=hidE λW hW=>by
    have y1:Blk W w.heap.size 26 #[.int .i64 K,.string X,.int .i64 Z,.slice A m cp]:=B1w.below hW (by omega);have y2:Blk W (w.heap.size+1) 26 #[.int .i64 K2,.string X2,.int .i64 Z2,.slice A2 m2 cp2]:=B2w.below hW (by omega);exact⟨y1.cell 0,y1.cell 1,y1.cell 2,y1.cell 3,y2.cell 0,y2.cell 1,y2.cell 2,y2.cell 3⟩
   have HPUT:=hidE hput;have HWR:=hidE hwr;have HWR0:=hidE hwr0;have BB0:Hid (Below wr.heap.size wr wr.drew):=hidE (Below.refl _ wr).drew;clear hl0 hrg hc0 hnp hpl hroom hwr hwr0 hfe hput hnR hsR hmi hmb' hR hqs B1w B2w HALL HRG;go_upto_region 7 with fail
   go_region_held3 (λW:World=>W.cell? ⟨w.heap.size,0,none⟩=some (.int .i64 K)/\W.cell? ⟨w.heap.size,1,none⟩=some (.string X)/\W.cell? ⟨w.heap.size,2,none⟩=some (.int .i64 Z)/\W.cell? ⟨w.heap.size,3,none⟩=some (.slice A m cp)/\W.cell? ⟨w.heap.size+1,0,none⟩=some (.int .i64 K2)/\W.cell? ⟨w.heap.size+1,1,none⟩=some (.string X2)/\W.cell? ⟨w.heap.size+1,2,none⟩=some (.int .i64 Z2)/\W.cell? ⟨w.heap.size+1,3,none⟩=some (.slice A2 m2 cp2)) (first|(with_reducible exact SOF.out _ BB0.out)|(with_reducible exact SOF.out _ BB1.out)|(with_reducible exact SOF.out _ BB2.out))
    ((first
     |((with_reducible refine HPUT.out.mono ?_);rintro e w6 ⟨k6,x6,z6,a6,m6,p6,rfl,hr6,b6⟩;have BB1:Hid (Below wr.heap.size wr w6):=hidE (BB0.out.trans b6);have R6:=hidE hr6;clear hr6 b6)
     |((with_reducible refine(SAME.out _ _ _ R6.out (λg hg=>by rcases hg with hg|hg;(have:=HST.out g hg;have:=BB1.out.size;omega);exact hg.2) BB1.out).mono ?_);rintro e w7 ⟨rfl,b7⟩;have BB2:Hid (Below wr.heap.size wr w7):=hidE (BB1.out.trans (b7.mono BB1.out.size));clear b7)))
   all_goals
    clear HPUT SAME SOF R6;have hlsz:=LS.out;have hw7:=HWR.out.trans (BB2.out.mono (HWR.out.size));have h27:Below w2.heap.size w2 w7:=HBW.out.trans (BB2.out.mono (by omega));cases qs with
    |false =>
     have HW7:Hid (Below w.heap.size w w7):=hidE (LB.out.trans (hw7.mono (by omega)));clear hw7 h27;go_wp2_with fail
     go_ret2
     exact⟨HW7.out,.inr ⟨(λh=>by have:=HMB.out.1 h;cases this),rfl⟩⟩
    |true =>
     have hfree:=zdg p S _ w7 (HV.out.keep (S':=S) (w':=w7) (λ_ h=>h) (λg hg=>hw7.block g (by have:=HS.out g hg;omega))) (λg hg=>by have:=HS.out g hg;have:=hw7.size;omega) HNM.out (by omega);have hb1:Blk w7 w.heap.size 26 #[.int .i64 K,.string X,.int .i64 Z,.slice A m cp]:=Blk.below (w:=W2) L0.out hw7 (by omega);obtain⟨e0,e1,e2,e3,-⟩:=zaa hb1;obtain⟨n,hn⟩:∃n,(zam p).length=n:=⟨_,rfl⟩;have hn6:n<=1000:=by have:=za4 p;omega
     rw[hn]at hfree
     have HFREE:=hidE hfree;have HN:=hidE hn;have HW7:Hid (Below w.heap.size w w7):=hidE (LB.out.trans (hw7.mono (by omega)));have MAP7:Hid (MapE mkVal w7 mb q):=hidE (HMAP.out.keep (h27.block _ hml));have REL7:Hid (RelV St w7 (zau vars p t) q):=hidE (RelV.keep (S:=St) (S':=St) (w:=w2) (w':=w7) (λ_ h=>h) (λg hg=>h27.block g (by have:=HST.out g hg;omega)) _ _ HREL.out);have ST7:Hid (∀g,St g->g<w7.heap.size):=hidE (λg hg=>by have:=HST.out g hg;have:=hw7.size;omega);have LT7:Hid (mb<w7.heap.size):=hidE (by have:=h27.size;omega);clear hw7 h27 hfree hn hb1 HBW HWR HWR0 BB0 BB1 BB2 HREL HMAP;obtain⟨i0,hi0,hz0,hz1,hz2⟩:=info_parts zrm;go_wp2_with fail
     refine HFREE.out.mono ?_;rintro e w8 ⟨A8,c8,rfl,ho8,-,b8⟩;have HO8:=hidE ho8;have MAP8:Hid (MapE mkVal w8 mb q):=hidE (MAP7.out.keep (b8.block _ LT7.out));have REL8:Hid (RelV St w8 (zau vars p t) q):=hidE (RelV.keep (S:=St) (S':=St) (w:=w7) (w':=w8) (λ_ h=>h) (λg hg=>b8.block g (ST7.out g hg)) _ _ REL7.out);have ST8:Hid (∀g,St g->g<w8.heap.size):=hidE (λg hg=>Nat.lt_of_lt_of_le (ST7.out g hg) b8.size);have HW8:Hid (Below w.heap.size w w8):=hidE (HW7.out.trans (b8.mono HW7.out.size));have LT8:Hid (mb<w8.heap.size):=hidE (Nat.lt_of_lt_of_le LT7.out b8.size);clear ho8 b8 HFREE MAP7 REL7 ST7 LT7 HW7 e0 e1 e2 e3;obtain⟨wo,rfl⟩:∃wo:World,wo=wr:=⟨_,rfl⟩;go_wp2_with fail
     go_loopg [11,37] n (λgg vl vi wr=>HeadBd St (zau vars p t) (zam p) n w8 gg vl vi wr)
     case atStart =>
      exact⟨0,[],rfl,rfl,Nat.zero_le _,by rw[List.take_zero];trivial,Nat.le_refl _,World.ownsRow_nil _ _ _ _,Below.refl _ _⟩
     case round =>
      obtain⟨i,qs,rfl,rfl,hin,hrl,hql,hown,hbw⟩:=hrel;obtain⟨Al,cl,rfl⟩:=zaz hown;have HRL:=hidE hrl;have HOWN:=hidE hown;have HBW:=hidE hbw;have hszr:=hbw.size;clear hrl hown hbw;by_cases hlt:i<n
      ·have hlt':i<(zam p).length:=by rw[HN.out];exact hlt
       obtain⟨g,rfl,hg1,hg2,hg3⟩:=zgY HO8.out (zcq (zam p) i hlt');have e0:=hg3 wr (HBW.out.block g hg2);have hnmx:=zlJ p HNM.out _ (List.getElem_mem hlt');have hls:=zmu (zau vars p t) (zam p) i hlt';obtain⟨x,hx⟩:∃x,(zam p)[i]=x:=⟨_,rfl⟩;rw[hx]at e0 hnmx hls
       obtain⟨Xk,hXk⟩:∃X:ByteArray,(⟨x.toArray⟩:ByteArray)=X:=⟨_,rfl⟩;have hxl:Xk.data.toList=x:=by rw[<-hXk]
       have hX24:Xk.size<=maxLen:=by have:=zc4 hnmx;rw[<-hXk];show x.toArray.size<=maxLen;have h:x.toArray.size<=24:=this;unfold maxLen;omega
       rw[hXk]at e0
       have hlk:=(MAP8.out.keep (w':=wr) (HBW.out.block _ LT8.out)).getOk Xk hX24;rw[hxl]at hlk
       have hrel8:=RelV.keep (S:=St) (S':=St) (w:=w8) (w':=wr) (λ_ h=>h) (λg hg=>HBW.out.block g (ST8.out g hg)) _ _ REL8.out;rcases RelV.found x _ q hrel8 with⟨h1,h2⟩|⟨u',c',h1,h2,h3⟩
       ·rw[h2]at hlk
        replace hlk:(Instr.lookup 65 (.map (some mb)) (.string Xk) true).run Tryz.prog wr=.ok (.tuple #[.agg #[.int .i64 0,.string ⟨#[]⟩,.int .i64 0,.slice none 0 0],.bool false]) wr:=hlk;rw[h1]at hls
        have HLS:=hidE hls;clear hg3 hnmx hls hX24 hx hXk hxl hrel8 h1 h2 hlt';go_wp2_with fail
        go_roundg (n-(i+1))
        case measure=>omega
        case rel =>
         refine⟨i+1,qs,rfl,by go_num,by omega,?_,by omega,HOWN.out.alloc _,HBW.out.alloc hszr _⟩;rw[HLS.out,List.append_nil]
         exact RelV.keep (S:=St) (S':=St) (λ_ h=>h) (λg hg=>Below.heap_alloc _ _ _ (by have:=ST8.out g hg;omega)) _ _ HRL.out
       ·rw[h2]at hlk
        obtain⟨k5,x5,z5,a5,m5,p5⟩:=c';replace hlk:(Instr.lookup 65 (.map (some mb)) (.string Xk) true).run Tryz.prog wr=.ok (.tuple #[.agg #[.int .i64 k5,.string x5,.int .i64 z5,.slice a5 m5 p5],.bool true]) wr:=hlk;rw[h1]at hls
        have HLS:=hidE hls;have H3:=hidE h3;have HXK:=hidE hXk;have HLT:=hidE HOWN.out.lt;have HO2:=hidE ((HOWN.out.alloc (.cells #[.int .i64 k5,.string x5,.int .i64 z5,.slice a5 m5 p5] 26)).alloc (.cells #[.string Xk,.int .i64 k5,.string x5,.int .i64 z5,.slice a5 m5 p5] 56));clear hg3 hnmx hls hX24 hx hXk hxl hrel8 h1 h2 h3 hlt';go_wp2_with (at_builtin;refine wpList_append_own_at _ rfl (.tmp 48) (.tmp 52) 32 rfl w8.heap.size 56 i0 _ 5 72 Tryz.underlying32 hi0 hz0 hz1 hz2 rfl (by decide) _ qs.length (za2 qs) rfl HO2.out ⟨wr.heap.size+1,0,none⟩ 1 1 [.string Xk,.int .i64 k5,.string x5,.int .i64 z5,.slice a5 m5 p5] rfl rfl (zaK _ _ _ _ (by simp)) (by intro u hu;simp at hu;rcases hu with rfl|rfl|rfl|rfl|rfl <;> rfl) (by unfold maxLen;omega) (by omega) (by simp;omega) ?_;intro v2 w5 hown3 hgrow _ hat3;obtain⟨A2',c2',rfl⟩:=zaz hown3;have HO3:=hidE hown3;have HG3:=hidE hgrow;clear hown3 hgrow hat3)
        have hk5:∀q,q<w8.heap.size->w5.heap[q]?=wr.heap[q]?:=λq hq=>(HG3.out.block q (by simp;omega) (λe=>by have:=HLT.out _ e.symm;omega)).trans ((Below.heap_alloc _ _ _ (by simp;omega)).trans (Below.heap_alloc _ _ _ (by omega)));have hb5:Below w8.heap.size w8 w5:=HBW.out.trans ⟨HG3.out.os,HG3.out.tape,HG3.out.output,by have:=HG3.out.size;simp at this;omega,hk5⟩;have HK5:=hidE hk5;have HB5:=hidE hb5;clear hk5 hb5;go_roundg (n-(i+1))
        case measure=>omega
        case rel =>
         refine⟨i+1,qs++[(x,⟨k5,x5,z5,a5,m5,p5⟩)],rfl,by go_num,by omega,?_,by rw[List.length_append];simp;omega,?_,HB5.out⟩
         ·rw[HLS.out]
          have hkS:∀g,St g->w5.heap[g]?=wr.heap[g]?:=λg hg=>HK5.out g (ST8.out g hg);exact RelV.snoc (H3.out.keep (S':=St) (w':=w5) (λ_ h=>h) hkS) _ _ (RelV.keep (S:=St) (S':=St) (w:=wr) (w':=w5) (λ_ h=>h) hkS _ _ HRL.out)
         ·rw[zho,List.length_append,HXK.out]
          exact HO3.out
      ·have hend:(zam p).take i=zam p:=List.take_of_length_le (by rw[HN.out];omega)
       have HE:=hidE hend;clear hend;go_wp2_with fail
       go_ret2
       refine⟨HW8.out.trans (HBW.out.mono HW8.out.size),.inl ⟨HMB.out.2 (by first|rfl|trivial),Al,qs.length,cl,rfl,qs,?_,rfl,zea HOWN.out HW8.out.size⟩⟩;rw[<-HE.out]
       exact HRL.out
  ·intro x c kl yd yp w1 cnt1 hkey hlx hv hat hrg1 hlt1 hg1 hs1 hen
   obtain⟨Xk,rfl,rfl,hXk⟩:=keyStr hkey;obtain⟨c',hc',hy⟩:=zmt hat;have hyc:(yd,yp)=(c.enc,[]):=Option.some.inj (hv.symm.trans (zeD c));obtain rfl:c=c':=TV.enc_inj (by rw[<-hy];exact(Prod.mk.inj hyc).1.symm);rcases RelV.found Xk.data.toList _ q HREL.out with⟨-,h2⟩|⟨u',v',h1,h2,h3⟩
   ·rw[hc']at h2;cases h2
   rw[hc']at h2
   injection h2 with h2;subst h2;obtain⟨hnu,hsu⟩:=zdq vars 1000 p t HNT.out hst _ _ h1;obtain⟨k5,x5,z5,a5,m5,p5⟩:=c;have hk1:∀g,g<w2.heap.size->w1.heap[g]?=w2.heap[g]?:=λg hg=>(hg1.block g (by omega) (λe=>by injection e with e;omega)).trans (HBW.out.block g hg);replace hen:(Instr.entry (.pointer (some ⟨w2.heap.size,0,none⟩))).run Tryz.prog w1=.ok (.tuple #[.string Xk,.agg #[.int .i64 k5,.string x5,.int .i64 z5,.slice a5 m5 p5]]) w1:=hen;obtain⟨V1,hV1⟩:∃V,w1.alloc (.cells #[.int .i64 k5,.string x5,.int .i64 z5,.slice a5 m5 p5] 26)=V:=⟨_,rfl⟩;have hbV:Blk V1 w1.heap.size 26 #[.int .i64 k5,.string x5,.int .i64 z5,.slice a5 m5 p5]:=hV1▸heap_alloc_new _ _;have hgV:w1.grownBy V1 none:=hV1▸World.grownBy_alloc w1 _ none;have hsV:V1.heap.size=w1.heap.size+1:=by rw[<-hV1];simp
   have hlsz:=LS.out;have hkS:∀g,St g->V1.heap[g]?=w2.heap[g]?:=λg hg=>(hgV.block g (by have:=HST.out g hg;omega) (λe=>by cases e)).trans (hk1 g (by have:=HST.out g hg;omega));have hpol:=zmb u' St _ V1 (by omega) (h3.keep (S':=St) (w':=V1) (λ_ h=>h) hkS) (λg hg=>by have:=HST.out g hg;omega);obtain⟨e0,e1,e2,e3,-⟩:=zaa hbV;have hb1:Below w2.heap.size w2 w1:=HBW.out.trans ⟨hg1.os,hg1.tape,hg1.output,hg1.size,λg hg=>hg1.block g (by omega) (λe=>by injection e with e;omega)⟩;obtain⟨qp,hqp⟩:∃qp,u'.poly=qp:=⟨_,rfl⟩;rw[hqp]at hpol
   have HPOL:=hidE hpol;have HV1:=hidE hV1;have HGV:=hidE hgV;have HSV:=hidE hsV;have HB1:=hidE hb1;have HRG1:=hidE hrg1;have H1:=hidE h1;have HQP:=hidE hqp;have HS1:=hidE hs1;clear hpol hV1 hgV hsV hb1 hrg1 h1 hqp hs1 hlsz hkS hk1 hbV hg1 hat hv hkey hc' h3 hy hyc hlx hnu hsu;go_upto_region 4 with fail
   go_upto_region 5 with fail
   rw[HV1.out]
   go_wp2_with fail
   refine HPOL.out.mono ?_;rintro e w5 ⟨rfl,b5⟩;have hsV:=HSV.out;have hs1:=HS1.out;have hb5:Below w2.heap.size w2 w5:=HB1.out.trans (((zmv HGV.out).mono (by omega)).trans (b5.mono (by omega)));have hs5:=b5.size;cases qp with
   |true =>
    have HW5:=hidE hb5;clear hb5 b5 HPOL;go_wp2_with fail
    go_ret2
    exact⟨LB.out.trans ((B2.out.mono (by have:=LS.out;omega)).trans (HW5.out.mono (by have:=LS.out;omega))),.inr ⟨λh=>h.1 ⟨_,_,H1.out,HQP.out⟩,rfl⟩⟩
   |false =>
    have hrg2:=(HRG1.out.kept HGV.out (by simp) (by simp)).kept (zeZ b5) (by simp) (by simp);have HRG2:=hidE hrg2;have HW5:=hidE hb5;clear hrg2 hb5 b5 HPOL;go_wp2_with fail
    go_roundw
    case rel =>
     refine⟨_,cnt1,HRG2.out,HW5.out,by omega,λx u hx=>?_⟩;show(left (.string x) && !(Lit.string x).sameKey (.string Xk.data.toList))=true\/u.poly=false;rcases HALL.out x u hx with h|h
     ·cases hk:(Lit.string x).sameKey (.string Xk.data.toList) with
      |false=>rw[h];exact .inl rfl
      |true =>
       have e:=zle _ _ hk;subst e;have h1:=H1.out;have hx:look Xk.data.toList (zau vars p t)=some u:=hx;have h1:look Xk.data.toList (zau vars p t)=some u':=h1;rw[h1]at hx
       injection hx with hx;subst hx;exact .inr HQP.out
     ·exact .inr h
    case measure=>rw[HRG2.out.left_eq,HRG.out.left_eq];exact hlt1
theorem zgZ(p t:Ty)(vars:List Name)(S St:Nat->Prop)(v u:Value)(A1:Option Addr)(nv cv:Nat)(w:World)(ht:Tab w)(hv:RdV S w p v)(hu:RdV St w t u)(hS:∀g,S g->g<w.heap.size)(hSt:∀g,St g->g<w.heap.size)(hvs:RowV w (.slice A1 nv cv) (strV vars))(hnv:vars.length=nv)(hl:∀x∈vars,x.length<=maxLen)(hvl:nv<=10000000)(hnm:Nm p)(hnt:Nm t)(hsz:p.size<=1000)(hst:t.size<=1000):Calls Tryz.prog 11 #[v,u,.slice A1 nv cv] w (MPst vars p t St w) :=
 ziB p t vars S St v u A1 nv cv w ht hv hu hS hSt hvs.toA hnv hl hvl hnm hnt hsz hst
end Go.Proofs.YtaomnlcplmkokaaGreatDoor
namespace Go.Proofs.YtaomnlcplmkokaaGreatDoor
open Go.RowKit Lx Tx Go.Maps Go.WideMaps Go.Shelf
set_option maxRecDepth 100000
theorem znW(L1 L2:List Name)(A1:Option Addr)(n1 c1:Nat)(A2:Option Addr)(n2 c2:Nat)(w1:World)(hr1:RowV w1 (.slice A1 n1 c1) (strV L1))(hr2:RowV w1 (.slice A2 n2 c2) (strV L2))(hn1:L1.length=n1)(hn2:L2.length=n2)(hl:∀x∈L1++L2,x.length<=24)(hs:(L1++L2).length<=10000000):Calls Tryz.prog 39 #[.slice (some ⟨w1.heap.size,0,none⟩) 2 2] (w1.alloc (.cells #[.slice A1 n1 c1,.slice A2 n2 c2] 22)) λe w'=>e=.returned (.map (some (w1.heap.size+1)))/\MapE mkSet w' (w1.heap.size+1) (units (L1++L2))/\Below (w1.heap.size+1) (w1.alloc (.cells #[.slice A1 n1 c1,.slice A2 n2 c2] 22)) w':=by
 have hb:=heap_alloc_new w1 (.cells #[.slice A1 n1 c1,.slice A2 n2 c2] 22);have hbe:Below w1.heap.size w1 (w1.alloc (.cells #[.slice A1 n1 c1,.slice A2 n2 c2] 22)):=(Below.refl _ w1).alloc (Nat.le_refl _) _;have h:=zkT [L1,L2] w1.heap.size 2 (w1.alloc (.cells #[.slice A1 n1 c1,.slice A2 n2 c2] 22)) (λj hj=>by
  rcases j with - | - | j
  ·refine⟨A1,c1,?_,?_⟩
   ·show _=some (Value.slice A1 L1.length c1)
    rw[hn1];exact Blk.cell hb 0
   ·show RowV _ (.slice A1 L1.length c1) _
    rw[hn1];exact hr1.below hbe
  ·refine⟨A2,c2,?_,?_⟩
   ·show _=some (Value.slice A2 L2.length c2)
    rw[hn2];exact Blk.cell hb 1
   ·show RowV _ (.slice A2 L2.length c2) _
    rw[hn2];exact hr2.below hbe
  ·simp at hj;omega) (by simp) (by intro x hx;exact hl x (by simpa using hx)) (by simpa using hs) (by simp)
 simp only[List.flatten_cons,List.flatten_nil,List.append_nil,size_alloc]at h;exact h
def zaE(g s:Ty):List Name:=zam g++zam s
def zdH(g s:Ty):Prop:=zca (zaG 113 (zaE g s) g 0) (zaV 113 (zaE g s) g 0) (zaV 112 (zaE g s) s 0)
def PeOut(W0 W:World)(nb:Nat)(ns:List Name)(t:Ty)(e:Ending)(w':World):Prop :=
 ∃A n cp k x z a m q,e=.returned (.tuple #[.slice A n cp,.agg #[.int .i64 k,.string x,.int .i64 z,.slice a m q]])/\ns.length=n/\n<=1000000/\w'.ownsRow W.heap.size 9 1 (.slice A n cp) n (strV ns) /\
  RdV (λg=>W.heap.size<=g/\g<w'.heap.size) w' t (.agg #[.int .i64 k,.string x,.int .i64 z,.slice a m q])/\Below W0.heap.size W0 w'/\W.heap.size<=w'.heap.size/\∀g,g<W.heap.size->g≠nb->w'.heap[g]?=W.heap[g]?
theorem zjX(c:UInt8)(hcc:c=112\/c=113)(tk:List Name)(t:Ty)(S:Nat->Prop)(v:Value)(W0 W:World)(mb lb nb sb:Nat)(hW:Below W0.heap.size W0 W)(hn:NewI c lb nb sb mb tk 0 W)(hlo:W0.heap.size<=lb/\W0.heap.size<=nb/\W0.heap.size<=sb)(hne:nb≠lb/\nb≠sb)(hmb:mb<W0.heap.size)
  (ht:Tab W0)(hv:RdV S W0 t v)(hS:∀g,S g->g<W0.heap.size)(hnm:Nm t)(hsz:t.size<=1000000)(hl:tk.length<=10000000):Calls Tryz.prog 40 #[v,newV lb nb sb] W (PeOut W0 W nb (zaG c tk t 0) (zaV c tk t 0)):=by
 have hs:=hW.size;have htl:=ht.lt;have hnl:=hn.num.lt;refine(zlM c hcc lb nb sb mb tk 0 t S v W hn (ht.below hW) hne.1 hne.2 (by omega) (by omega) (hv.keep (S':=S) (w':=W) (λ_ h=>h) (λg hg=>hW.block g (hS g hg))) (λg hg=>by have:=hS g hg;omega) hnm hsz (ziy t hsz tk hl)).mono ?_;rintro e w5 ⟨A5,n5,c5,k5,x5,z5,a5,m5,q5,rfl,h5a,h5b,h5c,h5d,c5'⟩;have hs5:=c5'.size;exact⟨A5,n5,c5,k5,x5,z5,a5,m5,q5,rfl,h5a,by omega,h5c,h5d,hW.trans (c5'.toBelow (B:=W0.heap.size) (by omega) (λk hk h=>by have h:k=nb:=h;omega)),hs5,λg hg hne=>c5'.block g hg hne⟩
def Peeled(W0:World)(ns:List Name)(t:Ty)(v6 v7:Value)(wx:World):Prop :=
 ∃A n cp k x z a m q b,v6=.slice A n cp/\v7=.pointer (some ⟨b,0,none⟩)/\Blk wx b 26 #[.int .i64 k,.string x,.int .i64 z,.slice a m q]/\ns.length=n/\n<=1000000/\RowV wx (.slice A n cp) (strV ns)/\RdV (λg=>g<wx.heap.size) wx t (.agg #[.int .i64 k,.string x,.int .i64 z,.slice a m q])/\Below W0.heap.size W0 wx
theorem zjY(c:UInt8)(hc:c=112\/c=113)(but:List Name):(t:Ty)->∀k,k+t.size*(but.length+1)<10 ^ 15->∀x∈zaG c but t k,Gd 1 x
 |.all x t,k,hb=>by
  rw[Ty.size,Nat.add_mul,Nat.one_mul]at hb
  obtain⟨n0,n1,n2⟩:=zaw c but k (by omega);rw[zaG]
  intro y hy;rcases List.mem_cons.1 hy with rfl|hy
  ·exact zjT c hc _ (by omega)
  ·exact zjY c hc but t _ (by omega) y hy
 |.var x,k,_=>λy hy=>(List.not_mem_nil hy).elim
 |.mt n,k,_=>λy hy=>(List.not_mem_nil hy).elim
 |.con c l,k,_=>λy hy=>(List.not_mem_nil hy).elim
 |.fn a b,k,_=>λy hy=>(List.not_mem_nil hy).elim
theorem zlf(c:UInt8)(hc:c=112\/c=113)(but:List Name)(t:Ty)(hb:t.size*(but.length+1)<10 ^ 15):∀x∈zaG c but t 0,x.length<=maxLen:=λx hx=>by
 have h:=zc4 (Nm.var x (zjY c hc but t 0 (by omega) x hx));have h:x.toArray.size<=24:=h;rw[List.size_toArray]at h
 unfold maxLen;omega
theorem zjZ:(t:Ty)->Nm t->Nm (zbA t)
 |.all x t,h=>by rw[zbA];cases h;exact zjZ t ‹_›
 |.var x,h=>h
 |.mt n,h=>h
 |.con c l,h=>h
 |.fn a b,h=>h
theorem zcC(c:UInt8)(hc:c=112\/c=113)(but:List Name)(t:Ty)(ht:t.size<=1000000)(hb:t.size*(but.length+1)<10 ^ 15)(hn:Nm t):Nm (zaV c but t 0):=by
 have hgd:=ze9 c hc but t 0 [] (λ_ h=>(List.not_mem_nil h).elim) (by omega);have hsz:=zdG t;unfold zaV;exact zlR _ _ (by omega) (zeF hgd _ (by omega)) (zjZ t hn) (λt u h=>(zix hgd t u h).1)
theorem zcn(c:UInt8)(hc:c=112\/c=113)(but:List Name)(t:Ty)(hb:t.size*(but.length+1)<10 ^ 15):(zaV c but t 0).size<=t.size:=by
 have hgd:=ze9 c hc but t 0 [] (λ_ h=>(List.not_mem_nil h).elim) (by omega);have hsz:=zdG t;have h:=ziJ (zay (asVars (zcm c but t 0 []))) (zbA t) 1 (Nat.le_refl _) (λt u h=>by
  obtain⟨y,rfl,-⟩:=zeE hgd t u h;rw[Ty.size]
  exact Nat.le_refl _)
 unfold zaV;omega
theorem zhp {W0 w5 F:World} {N:Nat} {ns:List Name} {t:Ty} {A:Option Addr} {n cp:Nat} {k:Int} {x:ByteArray} {z:Int} {a:Option Addr} {m q b:Nat}(h5a:ns.length=n)(h5b:n<=1000000)(h5c:w5.ownsRow N 9 1 (.slice A n cp) n (strV ns))
  (h5d:RdV (λg=>N<=g/\g<w5.heap.size) w5 t (.agg #[.int .i64 k,.string x,.int .i64 z,.slice a m q]))(h5e:Below W0.heap.size W0 w5)(hb:Blk w5 b 26 #[.int .i64 0,.string ⟨#[]⟩,.int .i64 0,.slice none 0 0])(hbl:b<N)(hb0:W0.heap.size<=b)
  (hF:(((w5.setCell ⟨b,0,none⟩ (.int .i64 k)).setCell ⟨b,1,none⟩ (.string x)).setCell ⟨b,2,none⟩ (.int .i64 z)).setCell ⟨b,3,none⟩ (.slice a m q)=F):Peeled W0 ns t (.slice A n cp) (.pointer (some ⟨b,0,none⟩)) F:=by
 rw[<-hF]
 have hk:∀g,g≠b->((((w5.setCell ⟨b,0,none⟩ (.int .i64 k)).setCell ⟨b,1,none⟩ (.string x)).setCell ⟨b,2,none⟩ (.int .i64 z)).setCell ⟨b,3,none⟩ (.slice a m q)).heap[g]?=w5.heap[g]?:=λg hg=>zaj _ _ _ _ _ _ _ hg;refine⟨A,n,cp,k,x,z,a,m,q,b,rfl,rfl,zad _ _ _ _ hb,h5a,h5b,RowV.of_own (zbD h5c (λad had=>hk _ (by have:=(h5c.lt ad.block (by rw[had];rfl)).1;omega))),h5d.keep (λg hg=>by have:=hg.2;show g<_;simp;omega) (λg hg=>hk g (by have:=hg.1;omega)),zaf h5e _ _ _ _ hb0⟩
theorem zhq {W0 w5:World} {N:Nat} {ns:List Name} {t:Ty} {A:Option Addr} {n cp:Nat} {k:Int} {x:ByteArray} {z:Int} {a:Option Addr} {m q:Nat}(h5a:ns.length=n)(h5b:n<=1000000)(h5c:w5.ownsRow N 9 1 (.slice A n cp) n (strV ns))
  (h5d:RdV (λg=>N<=g/\g<w5.heap.size) w5 t (.agg #[.int .i64 k,.string x,.int .i64 z,.slice a m q]))(h5e:Below W0.heap.size W0 w5):Peeled W0 ns t (.slice A n cp) (.pointer (some ⟨w5.heap.size,0,none⟩)) (w5.alloc (.cells #[.int .i64 k,.string x,.int .i64 z,.slice a m q] 26)) :=
 ⟨A,n,cp,k,x,z,a,m,q,w5.heap.size,rfl,rfl,heap_alloc_new _ _,h5a,h5b,RowV.of_own (h5c.alloc _),h5d.keep (λg hg=>by have:=hg.2;show g<_;simp;omega) (λg hg=>Below.heap_alloc _ _ _ hg.2),h5e.alloc h5e.size _⟩
theorem zeG(g0 s0:Ty)(S St:Nat->Prop)(v u:Value)(w:World)(ht:Tab w)(hv:RdV S w g0 v)(hu:RdV St w s0 u)(hS:∀g,S g->g<w.heap.size)(hSt:∀g,St g->g<w.heap.size)(hnm:Nm g0)(hnt:Nm s0)(hsz:g0.size<=1000)(hst:s0.size<=1000):Calls Tryz.prog 15 #[v,u] w λe w'=>(∃q:Bool,e=.returned (.bool q)/\(q=true↔zdH g0 s0))/\Below w.heap.size w w':=by
 obtain⟨K,X,Z,A,m,cp,rfl,-,-,-,-,-⟩:=hv.parts;obtain⟨K2,X2,Z2,A2,m2,cp2,rfl,-,-,-,-,-⟩:=hu.parts;obtain⟨l0,l1,ls,lb⟩:=za8 w (.cells #[.int .i64 K,.string X,.int .i64 Z,.slice A m cp] 26) (.cells #[.int .i64 K2,.string X2,.int .i64 Z2,.slice A2 m2 cp2] 26);obtain⟨W2,hW2⟩:∃W,(w.alloc (.cells #[.int .i64 K,.string X,.int .i64 Z,.slice A m cp] 26)).alloc (.cells #[.int .i64 K2,.string X2,.int .i64 Z2,.slice A2 m2 cp2] 26)=W:=⟨_,rfl⟩;rw[hW2]at l0 l1 ls lb
 have L0:Hid (Blk W2 w.heap.size 26 #[.int .i64 K,.string X,.int .i64 Z,.slice A m cp]):=hidE l0;have L1:Hid (Blk W2 (w.heap.size+1) 26 #[.int .i64 K2,.string X2,.int .i64 Z2,.slice A2 m2 cp2]):=hidE l1;have hv2:=hv.keep (S':=S) (w':=W2) (λ_ h=>h) (λg hg=>lb.block g (hS g hg));have hu2:=hu.keep (S':=St) (w':=W2) (λ_ h=>h) (λg hg=>lb.block g (hSt g hg));have hS2:∀g,S g->g<W2.heap.size:=λg hg=>by have:=hS g hg;omega
 have hSt2:∀g,St g->g<W2.heap.size:=λg hg=>by have:=hSt g hg;omega
 obtain⟨n1,hn1⟩:∃n,(zam g0).length=n:=⟨_,rfl⟩;obtain⟨n2,hn2⟩:∃n,(zam s0).length=n:=⟨_,rfl⟩;have hf1:=za4 g0;have hf2:=za4 s0;have F1:Hid (∀W,Below W2.heap.size W2 W->Calls Tryz.prog 25 #[.agg #[.int .i64 K,.string X,.int .i64 Z,.slice A m cp]] W λe w'=>∃A cp,e=.returned (.slice A n1 cp)/\RowV w' (.slice A n1 cp) (strV (zam g0))/\Below W.heap.size W w'):=hidE λW hW=>by
  have h:=zdg g0 S _ W (hv2.keep (S':=S) (w':=W) (λ_ h=>h) (λg hg=>hW.block g (hS2 g hg))) (λg hg=>by have:=hS2 g hg;have:=hW.size;omega) hnm (by omega);rw[hn1]at h
  exact h.mono λe w' ⟨A,cp,he,ho,_,hb⟩=>⟨A,cp,he,RowV.of_own ho,hb⟩
 have F2:Hid (∀W,Below W2.heap.size W2 W->Calls Tryz.prog 25 #[.agg #[.int .i64 K2,.string X2,.int .i64 Z2,.slice A2 m2 cp2]] W λe w'=>∃A cp,e=.returned (.slice A n2 cp)/\RowV w' (.slice A n2 cp) (strV (zam s0))/\Below W.heap.size W w'):=hidE λW hW=>by
  have h:=zdg s0 St _ W (hu2.keep (S':=St) (w':=W) (λ_ h=>h) (λg hg=>hW.block g (hSt2 g hg))) (λg hg=>by have:=hSt2 g hg;have:=hW.size;omega) hnt (by omega);rw[hn2]at h
  exact h.mono λe w' ⟨A,cp,he,ho,_,hb⟩=>⟨A,cp,he,RowV.of_own ho,hb⟩
 have SET:Hid (∀(A1:Option Addr) (c1:Nat) (A2:Option Addr) (c2:Nat) (w1:World),RowV w1 (.slice A1 n1 c1) (strV (zam g0))->RowV w1 (.slice A2 n2 c2) (strV (zam s0))->Calls Tryz.prog 39 #[.slice (some ⟨w1.heap.size,0,none⟩) 2 2] (w1.alloc (.cells #[.slice A1 n1 c1,.slice A2 n2 c2] 22)) λe w'=>e=.returned (.map (some (w1.heap.size+1)))/\MapE mkSet w' (w1.heap.size+1) (units (zaE g0 s0))/\Below w1.heap.size w1 w'):=hidE λA1 c1 A2 c2 w1 h1 h2=>by
  refine(znW (zam g0) (zam s0) A1 n1 c1 A2 n2 c2 w1 h1 h2 hn1 hn2 (λx hx=>(List.mem_append.1 hx).elim (zcv g0 hnm x) (zcv s0 hnt x)) (by rw[List.length_append];omega)).mono ?_;rintro e w' ⟨he,hm,hb⟩;exact⟨he,hm,((Below.refl _ w1).alloc (Nat.le_refl _) _).trans (hb.mono (Nat.le_succ _))⟩
 have SOF:Hid (∀W:World,Below W2.heap.size W2 W->(λW:World=>W.cell? ⟨w.heap.size,0,none⟩=some (.int .i64 K)/\W.cell? ⟨w.heap.size,1,none⟩=some (.string X)/\W.cell? ⟨w.heap.size,2,none⟩=some (.int .i64 Z)/\W.cell? ⟨w.heap.size,3,none⟩=some (.slice A m cp)/\W.cell? ⟨w.heap.size+1,0,none⟩=some (.int .i64 K2)/\W.cell? ⟨w.heap.size+1,1,none⟩=some (.string X2)/\W.cell? ⟨w.heap.size+1,2,none⟩=some (.int .i64 Z2)/\W.cell? ⟨w.heap.size+1,3,none⟩=some (.slice A2 m2 cp2)) W):=hidE λW hW=>by
  have y1:Blk W w.heap.size 26 #[.int .i64 K,.string X,.int .i64 Z,.slice A m cp]:=L0.out.below hW (by omega);have y2:Blk W (w.heap.size+1) 26 #[.int .i64 K2,.string X2,.int .i64 Z2,.slice A2 m2 cp2]:=L1.out.below hW (by omega);exact⟨y1.cell 0,y1.cell 1,y1.cell 2,y1.cell 3,y2.cell 0,y2.cell 1,y2.cell 2,y2.cell 3⟩
 have LS:=hidE ls;have LB:=hidE lb;have HW2:=hidE hW2;have HV:=hidE hv2;have HU:=hidE hu2;have HS:=hidE hS2;have HST:=hidE hSt2;have HNM:=hidE hnm;have HNT:=hidE hnt;have HT:=hidE (ht.below lb);have HF:=hidE (And.intro hf1 hf2);have hls:w.heap.size+2<=W2.heap.size:=Nat.le_of_eq ls.symm;clear hv hu hv2 hu2 hS hSt hS2 hSt2 hnm hnt l0 l1 ls lb hW2 ht hn1 hn2 hf1 hf2;go_enter Tryz.func15,Tryz.ntmps15
 go_upto_region 1 with fail
 rw[HW2.out]
 go_cut [5] from 12 (λv5 wx=>Hid (∃mb,v5=.map (some mb)/\MapE mkSet wx mb (units (zaE g0 s0))/\Below W2.heap.size W2 wx))
 case first =>
  have B0:Hid (Below W2.heap.size W2 W2.drew):=hidE (Below.refl _ W2).drew;go_region_held3 (λW:World=>W.cell? ⟨w.heap.size,0,none⟩=some (.int .i64 K)/\W.cell? ⟨w.heap.size,1,none⟩=some (.string X)/\W.cell? ⟨w.heap.size,2,none⟩=some (.int .i64 Z)/\W.cell? ⟨w.heap.size,3,none⟩=some (.slice A m cp)/\W.cell? ⟨w.heap.size+1,0,none⟩=some (.int .i64 K2)/\W.cell? ⟨w.heap.size+1,1,none⟩=some (.string X2)/\W.cell? ⟨w.heap.size+1,2,none⟩=some (.int .i64 Z2)/\W.cell? ⟨w.heap.size+1,3,none⟩=some (.slice A2 m2 cp2)) (first|(with_reducible exact SOF.out _ B0.out)|(exact SOF.out _ (B0.out.alloc (by have:=B0.out.size;omega) _)))
   ((first
    |((with_reducible refine(F1.out _ B0.out).mono ?_);rintro e w9 ⟨A9,c9,rfl,hr9,b9⟩;(try replace R2:=hidE (R2.out.below b9));have R1:=hidE hr9;replace B0:=hidE (B0.out.trans (b9.mono B0.out.size));clear hr9 b9)
    |((with_reducible refine(F2.out _ B0.out).mono ?_);rintro e w9 ⟨A9',c9',rfl,hr9,b9⟩;(try replace R1:=hidE (R1.out.below b9));have R2:=hidE hr9;replace B0:=hidE (B0.out.trans (b9.mono B0.out.size));clear hr9 b9)
    |((with_reducible refine(SET.out _ _ _ _ _ R1.out R2.out).mono ?_);rintro e w10 ⟨rfl,hm10,b10⟩;have HM10:=hidE hm10;replace B0:=hidE (B0.out.trans (b10.mono B0.out.size));clear hm10 b10)))
  all_goals
   go_wp2_with fail
   go_meet
   case rel=>exact hidE ⟨_,rfl,HM10.out,B0.out⟩
 case rest =>
  obtain⟨mb,rfl,hm1,hb1⟩:=hcut.out;obtain⟨W3,rfl⟩:∃W3:World,W3=wc:=⟨_,rfl⟩;have hs3:=hb1.size;have hmbl:=hm1.lt;have HM1:=hidE hm1;have HB1:=hidE hb1;have htkl:(zaE g0 s0).length<=10000000:=by unfold zaE;rw[List.length_append];have:=HF.out;omega
  have ht3:=HT.out.below hb1;have hv3:=HV.out.keep (S':=S) (w':=W3) (λ_ h=>h) (λg hg=>hb1.block g (HS.out g hg));have hu3:=HU.out.keep (S':=St) (w':=W3) (λ_ h=>h) (λg hg=>hb1.block g (HST.out g hg));have SOF3:Hid (∀W:World,Below W3.heap.size W3 W->(λW:World=>W.cell? ⟨w.heap.size,0,none⟩=some (.int .i64 K)/\W.cell? ⟨w.heap.size,1,none⟩=some (.string X)/\W.cell? ⟨w.heap.size,2,none⟩=some (.int .i64 Z)/\W.cell? ⟨w.heap.size,3,none⟩=some (.slice A m cp)/\W.cell? ⟨w.heap.size+1,0,none⟩=some (.int .i64 K2)/\W.cell? ⟨w.heap.size+1,1,none⟩=some (.string X2)/\W.cell? ⟨w.heap.size+1,2,none⟩=some (.int .i64 Z2)/\W.cell? ⟨w.heap.size+1,3,none⟩=some (.slice A2 m2 cp2)) W):=hidE λW hW=>SOF.out W (hb1.trans (hW.mono hs3));have NEW:=hidE (λ(c:UInt8) (X:ByteArray) (hX:X=⟨#[c]⟩) (W:World) (hW:Below W3.heap.size W3 W)=>zcx c X hX mb (zaE g0 s0) W (hm1.keep (hW.block _ hmbl)));have PEEL:=hidE (λ(W:World) lb nb sb (hW:Below W3.heap.size W3 W) hn hlo hne=>zjX 113 (.inr rfl) (zaE g0 s0) g0 S _ W3 W mb lb nb sb hW hn hlo hne hmbl ht3 hv3 (λg hg=>by have:=HS.out g hg;omega) HNM.out (by omega) htkl);clear hcut hm1 hb1 ht3 hv3 hu3;go_upto_region 2 with fail
  go_cut [6,7] from 18 (λv6 v7 wx=>Hid (Peeled W3 (zaG 113 (zaE g0 s0) g0 0) (zaV 113 (zaE g0 s0) g0 0) v6 v7 wx))
  case first =>
   have B0:Hid (Below W3.heap.size W3 W3.drew):=hidE (Below.refl _ W3).drew;have BA0:Hid (Below W3.heap.size W3 (W3.alloc (.cells #[.int .i64 0,.string ⟨#[]⟩,.int .i64 0,.slice none 0 0] 26)).drew):=hidE ((Below.refl _ W3).alloc (Nat.le_refl _) _).drew;have BKA0:Hid (Blk (W3.alloc (.cells #[.int .i64 0,.string ⟨#[]⟩,.int .i64 0,.slice none 0 0] 26)).drew W3.heap.size 26 #[.int .i64 0,.string ⟨#[]⟩,.int .i64 0,.slice none 0 0]):=hidE (heap_alloc_new W3 _);go_region_held3 (λW:World=>W.cell? ⟨w.heap.size,0,none⟩=some (.int .i64 K)/\W.cell? ⟨w.heap.size,1,none⟩=some (.string X)/\W.cell? ⟨w.heap.size,2,none⟩=some (.int .i64 Z)/\W.cell? ⟨w.heap.size,3,none⟩=some (.slice A m cp)/\W.cell? ⟨w.heap.size+1,0,none⟩=some (.int .i64 K2)/\W.cell? ⟨w.heap.size+1,1,none⟩=some (.string X2)/\W.cell? ⟨w.heap.size+1,2,none⟩=some (.int .i64 Z2)/\W.cell? ⟨w.heap.size+1,3,none⟩=some (.slice A2 m2 cp2)) (first|(with_reducible exact SOF3.out _ B0.out)|(with_reducible exact SOF3.out _ BA0.out)|(with_reducible exact SOF3.out _ (B0.out.alloc B0.out.size _))|(with_reducible exact SOF3.out _ (zaf B0.out _ _ _ _ (by omega))))
    ((first
     |((with_reducible refine(NEW.out 113 _ rfl _ B0.out).mono ?_);rintro e w4 ⟨rfl,hn4,b4⟩;have hle4:W3.heap.size<=w4.heap.size:=Nat.le_trans B0.out.size b4.size;have HN4:Hid (NewI 113 W3.heap.size (W3.heap.size+2) (W3.heap.size+1) mb (zaE g0 s0) 0 w4):=hidE hn4;replace B0:Hid (Below W3.heap.size W3 w4):=hidE (B0.out.trans (b4.mono B0.out.size));clear hn4 b4)
     |((with_reducible refine(NEW.out 113 _ rfl _ BA0.out).mono ?_);rintro e w4 ⟨rfl,hn4,b4⟩;have hle4:W3.heap.size+1<=w4.heap.size:=(by have h:(W3.alloc (.cells #[.int .i64 0,.string ⟨#[]⟩,.int .i64 0,.slice none 0 0] 26)).heap.size<=w4.heap.size:=b4.size;rw[size_alloc]at h;exact h);have HN4:Hid (NewI 113 (W3.heap.size+1) (W3.heap.size+1+2) (W3.heap.size+1+1) mb (zaE g0 s0) 0 w4):=hidE (by simpa using hn4);have BKA:=hidE (BKA0.out.below b4 BKA0.out.lt);replace B0:Hid (Below W3.heap.size W3 w4):=hidE (BA0.out.trans (b4.mono BA0.out.size));clear hn4 b4)
     |((with_reducible refine(PEEL.out _ _ _ _ B0.out HN4.out ⟨by omega,by omega,by omega⟩ ⟨by omega,by omega⟩).mono ?_);rintro e w5 ⟨A5,n5,c5,k5,x5,z5,a5,m5,q5,rfl,h5a,h5b,h5c,h5d,h5e,h5f,h5g⟩;have H5A:=hidE h5a;have H5B:=hidE h5b;have H5C:=hidE h5c;have H5D:=hidE h5d;have H5E:=hidE h5e;replace B0:=hidE h5e;have hle5:w4.heap.size<=w5.heap.size:=h5f;(try (have HB5:=hidE (BKA.out.same (h5g W3.heap.size (by omega) (by omega)));obtain⟨y0,y1,y2,y3,y4,y5,y6,y7,y8⟩:=zaa HB5.out));clear h5a h5b h5c h5d h5e h5f h5g)
     |((with_reducible refine(PEEL.out _ _ _ _ (B0.out.alloc B0.out.size (.cells #[.int .i64 0,.string ⟨#[]⟩,.int .i64 0,.slice none 0 0] 26)) (HN4.out.below ((Below.refl _ w4).alloc (Nat.le_refl _) _)) ⟨by omega,by omega,by omega⟩ ⟨by omega,by omega⟩).mono ?_);rintro e w5 ⟨A5,n5,c5,k5,x5,z5,a5,m5,q5,rfl,h5a,h5b,h5c,h5d,h5e,h5f,h5g⟩;have H5A:=hidE h5a;have H5B:=hidE h5b;have H5C:=hidE h5c;have H5D:=hidE h5d;have H5E:=hidE h5e;replace B0:=hidE h5e;have hle5:w4.heap.size+1<=w5.heap.size:=(by have h:=h5f;rw[size_alloc]at h;exact h);have HB5:=hidE (Blk.same (heap_alloc_new w4 (.cells #[.int .i64 0,.string ⟨#[]⟩,.int .i64 0,.slice none 0 0] 26)) (h5g w4.heap.size (by simp) (by have:=HN4.out.num.lt;omega)));obtain⟨y0,y1,y2,y3,y4,y5,y6,y7,y8⟩:=zaa HB5.out;clear h5a h5b h5c h5d h5e h5f h5g)))
   all_goals
    go_wp2_with fail
    go_meet
    case rel =>
     first
     |with_reducible exact hidE (zhq H5A.out H5B.out H5C.out H5D.out H5E.out)
     |with_reducible exact hidE (zhp H5A.out H5B.out H5C.out H5D.out H5E.out HB5.out (by first|omega|(rw[size_alloc];omega)) (by omega) rfl)
  case rest =>
   obtain⟨A6,n6,c6,k6,x6,z6,a6,m6,q6,b6,rfl,rfl,hbk6,hn6,hn6',hrv6,hrd6,hb6⟩:=hcut.out;obtain⟨W5,rfl⟩:∃W5:World,W5=wc:=⟨_,rfl⟩;have hs5:=hb6.size;have hb5:=HB1.out.trans (hb6.mono hs3);have hm5:=HM1.out.keep (hb6.block _ hmbl);have hmbl5:mb<W5.heap.size:=by omega
   have ht5:=HT.out.below hb5;have hu5:=HU.out.keep (S':=St) (w':=W5) (λ_ h=>h) (λg hg=>hb5.block g (HST.out g hg));have SOF5:Hid (∀W:World,Below W5.heap.size W5 W->(λW:World=>W.cell? ⟨w.heap.size,0,none⟩=some (.int .i64 K)/\W.cell? ⟨w.heap.size,1,none⟩=some (.string X)/\W.cell? ⟨w.heap.size,2,none⟩=some (.int .i64 Z)/\W.cell? ⟨w.heap.size,3,none⟩=some (.slice A m cp)/\W.cell? ⟨w.heap.size+1,0,none⟩=some (.int .i64 K2)/\W.cell? ⟨w.heap.size+1,1,none⟩=some (.string X2)/\W.cell? ⟨w.heap.size+1,2,none⟩=some (.int .i64 Z2)/\W.cell? ⟨w.heap.size+1,3,none⟩=some (.slice A2 m2 cp2)) W):=hidE λW hW=>SOF.out W (hb5.trans (hW.mono (by omega)));have NEW5:=hidE (λ(c:UInt8) (X:ByteArray) (hX:X=⟨#[c]⟩) (W:World) (hW:Below W5.heap.size W5 W)=>zcx c X hX mb (zaE g0 s0) W (hm5.keep (hW.block _ hmbl5)));have PEEL5:=hidE (λ(W:World) lb nb sb (hW:Below W5.heap.size W5 W) hn hlo hne=>zjX 112 (.inl rfl) (zaE g0 s0) s0 St _ W5 W mb lb nb sb hW hn hlo hne hmbl5 ht5 hu5 (λg hg=>by have:=HST.out g hg;omega) HNT.out (by omega) htkl);have BK6:=hidE hbk6;have N6:=hidE hn6;have N6':=hidE hn6';have RV6:=hidE hrv6;have RD6:=hidE hrd6;have HB5:=hidE hb5;clear hcut hbk6 hn6 hn6' hrv6 hrd6 hb6 hb5 hm5 ht5 hu5 NEW PEEL SOF3 HM1;go_upto_region 3 with fail
   go_cut [8,9] from 25 (λv8 v9 wx=>Hid (Peeled W5 (zaG 112 (zaE g0 s0) s0 0) (zaV 112 (zaE g0 s0) s0 0) v8 v9 wx))
   case first =>
    have B0:Hid (Below W5.heap.size W5 W5.drew):=hidE (Below.refl _ W5).drew;have BA0:Hid (Below W5.heap.size W5 (W5.alloc (.cells #[.int .i64 0,.string ⟨#[]⟩,.int .i64 0,.slice none 0 0] 26)).drew):=hidE ((Below.refl _ W5).alloc (Nat.le_refl _) _).drew;have BKA0:Hid (Blk (W5.alloc (.cells #[.int .i64 0,.string ⟨#[]⟩,.int .i64 0,.slice none 0 0] 26)).drew W5.heap.size 26 #[.int .i64 0,.string ⟨#[]⟩,.int .i64 0,.slice none 0 0]):=hidE (heap_alloc_new W5 _);go_region_held3 (λW:World=>W.cell? ⟨w.heap.size,0,none⟩=some (.int .i64 K)/\W.cell? ⟨w.heap.size,1,none⟩=some (.string X)/\W.cell? ⟨w.heap.size,2,none⟩=some (.int .i64 Z)/\W.cell? ⟨w.heap.size,3,none⟩=some (.slice A m cp)/\W.cell? ⟨w.heap.size+1,0,none⟩=some (.int .i64 K2)/\W.cell? ⟨w.heap.size+1,1,none⟩=some (.string X2)/\W.cell? ⟨w.heap.size+1,2,none⟩=some (.int .i64 Z2)/\W.cell? ⟨w.heap.size+1,3,none⟩=some (.slice A2 m2 cp2)) (first|(with_reducible exact SOF5.out _ B0.out)|(with_reducible exact SOF5.out _ BA0.out)|(with_reducible exact SOF5.out _ (B0.out.alloc B0.out.size _))|(with_reducible exact SOF5.out _ (zaf B0.out _ _ _ _ (by omega))))
     ((first
      |((with_reducible refine(NEW5.out 112 _ rfl _ B0.out).mono ?_);rintro e w4 ⟨rfl,hn4,b4⟩;have hle4:W5.heap.size<=w4.heap.size:=Nat.le_trans B0.out.size b4.size;have HN4:Hid (NewI 112 W5.heap.size (W5.heap.size+2) (W5.heap.size+1) mb (zaE g0 s0) 0 w4):=hidE hn4;replace B0:Hid (Below W5.heap.size W5 w4):=hidE (B0.out.trans (b4.mono B0.out.size));clear hn4 b4)
      |((with_reducible refine(NEW5.out 112 _ rfl _ BA0.out).mono ?_);rintro e w4 ⟨rfl,hn4,b4⟩;have hle4:W5.heap.size+1<=w4.heap.size:=(by have h:(W5.alloc (.cells #[.int .i64 0,.string ⟨#[]⟩,.int .i64 0,.slice none 0 0] 26)).heap.size<=w4.heap.size:=b4.size;rw[size_alloc]at h;exact h);have HN4:Hid (NewI 112 (W5.heap.size+1) (W5.heap.size+1+2) (W5.heap.size+1+1) mb (zaE g0 s0) 0 w4):=hidE (by simpa using hn4);have BKA:=hidE (BKA0.out.below b4 BKA0.out.lt);replace B0:Hid (Below W5.heap.size W5 w4):=hidE (BA0.out.trans (b4.mono BA0.out.size));clear hn4 b4)
      |((with_reducible refine(PEEL5.out _ _ _ _ B0.out HN4.out ⟨by omega,by omega,by omega⟩ ⟨by omega,by omega⟩).mono ?_);rintro e w5 ⟨A5,n5,c5,k5,x5,z5,a5,m5,q5,rfl,h5a,h5b,h5c,h5d,h5e,h5f,h5g⟩;have H5A:=hidE h5a;have H5B:=hidE h5b;have H5C:=hidE h5c;have H5D:=hidE h5d;have H5E:=hidE h5e;replace B0:=hidE h5e;have hle5:w4.heap.size<=w5.heap.size:=h5f;(try (have HB5:=hidE (BKA.out.same (h5g W5.heap.size (by omega) (by omega)));obtain⟨y0,y1,y2,y3,y4,y5,y6,y7,y8⟩:=zaa HB5.out));clear h5a h5b h5c h5d h5e h5f h5g)
      |((with_reducible refine(PEEL5.out _ _ _ _ (B0.out.alloc B0.out.size (.cells #[.int .i64 0,.string ⟨#[]⟩,.int .i64 0,.slice none 0 0] 26)) (HN4.out.below ((Below.refl _ w4).alloc (Nat.le_refl _) _)) ⟨by omega,by omega,by omega⟩ ⟨by omega,by omega⟩).mono ?_);rintro e w5 ⟨A5,n5,c5,k5,x5,z5,a5,m5,q5,rfl,h5a,h5b,h5c,h5d,h5e,h5f,h5g⟩;have H5A:=hidE h5a;have H5B:=hidE h5b;have H5C:=hidE h5c;have H5D:=hidE h5d;have H5E:=hidE h5e;replace B0:=hidE h5e;have hle5:w4.heap.size+1<=w5.heap.size:=(by have h:=h5f;rw[size_alloc]at h;exact h);have HB5:=hidE (Blk.same (heap_alloc_new w4 (.cells #[.int .i64 0,.string ⟨#[]⟩,.int .i64 0,.slice none 0 0] 26)) (h5g w4.heap.size (by simp) (by have:=HN4.out.num.lt;omega)));obtain⟨y0,y1,y2,y3,y4,y5,y6,y7,y8⟩:=zaa HB5.out;clear h5a h5b h5c h5d h5e h5f h5g)))
    all_goals
     go_wp2_with fail
     go_meet
     case rel =>
      first
      |with_reducible exact hidE (zhq H5A.out H5B.out H5C.out H5D.out H5E.out)
      |with_reducible exact hidE (zhp H5A.out H5B.out H5C.out H5D.out H5E.out HB5.out (by first|omega|(rw[size_alloc];omega)) (by omega) rfl)
   case rest =>
    obtain⟨A8,n8,c8,k8,x8,z8,a8,m8,q8,b8,rfl,rfl,hbk8,hn8,hn8',hrv8,hrd8,hb8⟩:=hcut.out;have hr1:g0.size*((zaE g0 s0).length+1)<10 ^ 15:=by
     have:=Nat.mul_le_mul hsz (show(zaE g0 s0).length+1<=10000001 by omega);omega
    have hr2:s0.size*((zaE g0 s0).length+1)<10 ^ 15:=by
     have:=Nat.mul_le_mul hst (show(zaE g0 s0).length+1<=10000001 by omega);omega
    have hmatch:=zgZ (zaV 113 (zaE g0 s0) g0 0) (zaV 112 (zaE g0 s0) s0 0) (zaG 113 (zaE g0 s0) g0 0) (λg=>g<W5.heap.size) (λg=>g<wc.heap.size) (.agg #[.int .i64 k6,.string x6,.int .i64 z6,.slice a6 m6 q6]) (.agg #[.int .i64 k8,.string x8,.int .i64 z8,.slice a8 m8 q8]) A6 n6 c6 wc
     (HT.out.below (HB5.out.trans (hb8.mono (by omega)))) (RD6.out.keep (S':=λg=>g<W5.heap.size) (w':=wc) (λ_ h=>h) (λg hg=>hb8.block g hg)) hrd8 (λg hg=>Nat.lt_of_lt_of_le hg hb8.size) (λg hg=>hg) (RV6.out.below hb8) N6.out (zlf 113 (.inr rfl) _ g0 hr1) (by have:=N6'.out;omega)
     (zcC 113 (.inr rfl) _ g0 (by omega) hr1 HNM.out) (zcC 112 (.inl rfl) _ s0 (by omega) hr2 HNT.out) (Nat.le_trans (zcn 113 (.inr rfl) _ g0 hr1) hsz) (Nat.le_trans (zcn 112 (.inl rfl) _ s0 hr2) hst)
    obtain⟨e0,e1,e2,e3,-⟩:=zaa (BK6.out.below hb8 BK6.out.lt);obtain⟨f0,f1,f2,f3,-⟩:=zaa hbk8;have hfin:Below w.heap.size w wc:=LB.out.trans ((HB5.out.trans (hb8.mono (by omega))).mono (by omega));have HMATCH:=hidE hmatch;have HFIN:=hidE hfin;clear hcut hbk8 hn8 hn8' hrv8 hrd8 hb8 hr1 hr2 hmatch hfin NEW5 PEEL5 SOF5;go_wp2_with fail
    refine HMATCH.out.mono ?_;rintro e w9 ⟨b9,⟨hyes,A9,n9,c9,rfl,-⟩|⟨hno,rfl⟩⟩
    ·have HY:=hidE hyes
     have B9:=hidE (HFIN.out.trans (b9.mono HFIN.out.size));clear b9 hyes HMATCH;go_wp2_with fail
     go_ret
     exact⟨⟨true,rfl,⟨λ_=>HY.out,λ_=>rfl⟩⟩,B9.out⟩
    ·have HY:=hidE hno
     have B9:=hidE (HFIN.out.trans (b9.mono HFIN.out.size));clear b9 hno HMATCH;go_wp2_with fail
     go_ret
     exact⟨⟨false,rfl,⟨(λh=>by cases h),λh=>absurd h HY.out⟩⟩,B9.out⟩
end Go.Proofs.YtaomnlcplmkokaaGreatDoor
