import Derived.Test.YtfafilmklhnngaaGreatDoorBsAE
import Derived.Test.YtfafilmklhnngaaGreatDoorBsAM
set_option maxHeartbeats 12800000
set_option maxRecDepth 100000
namespace Go.Proofs.YtfafilmklhnngaaGreatDoor
open Tryz
section
open Go.RowKit Lx Tx Go.Maps Go.WideMaps Go.Shelf
def JO(s:List UInt8):Nat:=match parse s with
 |.error n=>n
 |.ok _=>0
theorem zim {s:List UInt8}(h:JO s=0):∃t,parse s=.ok t:=by
 cases hp:parse s with
 |ok t=>exact⟨t,rfl⟩
 |error n=>unfold JO at h;rw[hp]at h;exact(zlR hp h).elim
def PA(s:ByteArray)(w:World)(e:Ending)(w':World):Prop :=
 ∃K X Z A m c,e=.returned (.tuple #[.agg #[.int .i64 K,.string X,.int .i64 Z,.slice A m c],.int .i64 (JO s.data.toList:Nat)])/\Below w.heap.size w w' /\
  ∀t,parse s.data.toList=.ok t->nc (λg=>w.heap.size<=g/\g<w'.heap.size) w' t (.agg #[.int .i64 K,.string X,.int .i64 Z,.slice A m c])
theorem zin {s:ByteArray} {w:World} {e:Ending} {w':World}(h:Lz s.data.toList w e w'):PA s w e w':=by
 obtain⟨hb,K,X,Z,A,m,c,⟨n,h0,hp,he⟩|⟨u,hp,he,hr⟩⟩:=h
 ·exact⟨K,X,Z,A,m,c,by unfold JO;rw[hp];exact he,hb,λt ht=>by rw[hp]at ht;cases ht⟩
 ·exact⟨K,X,Z,A,m,c,by unfold JO;rw[hp];exact he,hb,λt ht=>by rw[hp]at ht;injection ht with ht;rw[<-ht];exact hr⟩
theorem zio(s:ByteArray)(w:World)(hs:s.size<=maxLen):Calls prog 18 #[.string s] w (PA s w):=(zoT s w hs).mono λ_ _ h=>zin h
theorem zgf(s:ByteArray)(w:World)(hs:s.size<=maxLen):Calls prog 19 #[.string s] w (PA s w):=(zlh s w hs).mono λ_ _ h=>zin h
def LU(o:Option (List (Ty × Ty) × Nat))(p:ByteArray × ByteArray):Option (List (Ty × Ty) × Nat) :=
 match o,parse p.1.data.toList,parse p.2.data.toList with
 |some (ts,c),.ok t,.ok u=>if 120<p.1.size\/120<p.2.size\/24<c+E8 t+E8 u then none else some (ts++[(t,u)],c+E8 t+E8 u)
 |_,_,_=>none
def Hb(ls:List (ByteArray × ByteArray)):Option (List (Ty × Ty) × Nat):=ls.foldl LU (some ([],0))
def Kk(ls:List (ByteArray × ByteArray)):Option (List (Ty × Ty)):=if 8<ls.length then none else(Hb ls).map (·.1)
theorem zhc:(ls:List (ByteArray × ByteArray))->ls.foldl LU none=none
 |[]=>rfl
 |p::r=>by rw[Ep,show LU none p=none from rfl];exact zhc r
theorem znE {ls:List (ByteArray × ByteArray)} {i:Nat} {p:ByteArray × ByteArray}(h:ls[i]?=some p):Hb (ls.take (i+1))=LU (Hb (ls.take i)) p:=by
 unfold Hb;rw[D9,h,List.foldl_append];rfl
theorem ziq {ls:List (ByteArray × ByteArray)} {i:Nat}(h:Hb (ls.take i)=none):Hb ls=none:=by
 have:=Ex i ls;unfold Hb at h ⊢;rw[<-this,List.foldl_append,h,zhc]
theorem znF {o:Option (List (Ty × Ty) × Nat)} {p:ByteArray × ByteArray}(h:JO p.1.data.toList≠0\/JO p.2.data.toList≠0\/120<p.1.size\/120<p.2.size):LU o p=none:=by
 unfold LU;unfold JO at h;split
 ·rename_i ts c t u h1 h2
  rw[h1,h2]at h;rw[Ch];rcases h with h|h|h|h
  ·exact absurd rfl h
  ·exact absurd rfl h
  ·exact .inl h
  ·exact .inr (.inl h)
 ·rfl
theorem zjG {ts:List (Ty × Ty)} {c:Nat} {p:ByteArray × ByteArray} {t u:Ty}(h1:parse p.1.data.toList=.ok t)(h2:parse p.2.data.toList=.ok u)(h3:¬120<p.1.size)(h4:¬120<p.2.size):LU (some (ts,c)) p=if 24<c+E8 t+E8 u then none else some (ts++[(t,u)],c+E8 t+E8 u):=by
 unfold LU;rw[h1,h2];simp only[h3,h4,false_or]
def LD(ts:List (Ty × Ty)):List Ty:=ts.flatMap λp=>[p.1,p.2]
theorem VW(ts:List (Ty × Ty))(t u:Ty):LD (ts++[(t,u)])=LD ts++[t,u]:=by unfold LD;rw[EG];rfl
def Gb(w:World)(ls:List (ByteArray × ByteArray))(A:Option Addr):Prop :=
 ∀(i:Nat) (p:ByteArray × ByteArray),ls[i]?=some p->∃a:Addr,A=some a/\a.block<w.heap.size/\w.cell? (a.add (i*2))=some (.string p.1)/\w.cell? (a.add (i*2+1))=some (.string p.2)
def IL(B:Nat)(S:Nat->Prop)(w:World)(ts:List (Ty × Ty))(v1 v2:Value):Prop :=
 ∃gW lD,w.ownsRow B 52 8 v1 ts.length gW/\fs S w (LD ts) gW/\w.ownsRow B 54 8 v2 ts.length lD/\fs S w (LD ts) lD/\∀g,S g->B<=g/\g<w.heap.size/\v1.ownBlock≠some g/\v2.ownBlock≠some g
def NA(ls:List (ByteArray × ByteArray))(w:World)(e:Ending)(w':World):Prop :=
 Below w.heap.size w w'/\((Kk ls=none/\e=.returned (.tuple #[.slice none 0 0,.slice none 0 0,.bool false])) \/
  ∃ts v1 v2 S,Kk ls=some ts/\e=.returned (.tuple #[v1,v2,.bool true])/\IL w.heap.size S w' ts v1 v2)
def LnH(ls:List (ByteArray × ByteArray))(w:World)(n gg:Nat)(v5 v6 v7 vi:Value)(wr:World):Prop :=
 ∃i ts c S,gg=n-i/\vi=.int .i64 (i:Nat)/\v7=.int .i64 (c:Nat)/\i<=n/\c<=24/\ts.length=i/\Hb (ls.take i)=some (ts,c)/\IL w.heap.size S wr ts v5 v6/\Below w.heap.size w wr
theorem IL.al {B:Nat} {S:Nat->Prop} {w w':World} {ts:List (Ty × Ty)} {v1 v2:Value}(h:IL B S w ts v1 v2)(hb:Below w.heap.size w w'):IL B S w' ts v1 v2:=by
 obtain⟨gW,lD,h1,h2,h3,h4,h5⟩:=h;exact⟨gW,lD,GF h1 (λg hg=>hb.block g (s_ h1 g hg).2.1),fs.al (λ_ h=>h) (λg hg=>hb.block g (h5 g hg).2.1) _ _ h2,GF h3 (λg hg=>hb.block g (s_ h3 g hg).2.1),fs.al (λ_ h=>h) (λg hg=>hb.block g (h5 g hg).2.1) _ _ h4,
  λg hg=>⟨(h5 g hg).1,Ci (h5 g hg).2.1 hb.size,(h5 g hg).2.2⟩⟩
theorem fs.two {S:Nat->Prop} {w:World} {l:List Ty} {vs:List Value} {t u:Ty} {A A':Option Addr} {c c':Nat}(h:fs S w l vs)(h1:j_ S w t A)(h2:j_ S w u A'):fs S w (l++[t,u]) (vs++(Hx t A c++Hx u A' c')):=by
 induction l generalizing vs with
 |nil =>
  rw[fs]at h;subst h;rw[Cu,Cu,fs];exact⟨A,c,_,rfl,h1,by rw[fs];exact⟨A',c',[],(CJ _).symm,h2,by rw[fs]⟩⟩
 |cons x r ih =>
  rw[fs]at h;obtain⟨Ax,cx,rest,rfl,g1,g2⟩:=h;rw[Co,fs];exact⟨Ax,cx,_,by rw[DC],g1,ih g2⟩
theorem RQ {S:Nat->Prop} {w:World} {t:Ty} {K:Int} {X:ByteArray} {Z:Int} {A:Option Addr} {m c:Nat}(h:nc S w t (.agg #[.int .i64 K,.string X,.int .i64 Z,.slice A m c])):Hx t A c=[.int .i64 K,.string X,.int .i64 Z,.slice A m c]/\j_ S w t A:=by
 obtain⟨A',c',he,ha⟩:=h;simp at he;obtain⟨rfl,rfl,rfl,rfl,rfl,rfl⟩:=he;exact⟨rfl,ha⟩
theorem IL.snoc {B:Nat} {S S':Nat->Prop} {w6 w7 w8:World} {ts:List (Ty × Ty)} {v1 v2 xF Tf:Value} {t u:Ty} {A1 A2 A3 A4:Option Addr} {c1 c2 c3 c4:Nat} {o1 o2:Obj} {gW lD:List Value}(h2:fs S w6 (LD ts) gW)(h4:fs S w6 (LD ts) lD)(h5:∀g,S g->B<=g/\g<w6.heap.size/\v1.ownBlock≠some g/\v2.ownBlock≠some g)
  (uT:j_ S' w6 t A1)(uS:j_ S' w6 u A2)(ha3:j_ S' w6 t A3)(ha4:j_ S' w6 u A4)(pF:∀g,S' g->B<=g/\g<w6.heap.size/\v1.ownBlock≠some g/\v2.ownBlock≠some g)
  (aS:(w6.alloc o1).grownBy w7 v1.ownBlock)(n1:w7.ownsRow B 52 8 xF (ts.length+1) (gW++(Hx t A1 c1++Hx u A2 c2)))(Zw:xF.ownBlock=v1.ownBlock\/xF.ownBlock=some (w6.alloc o1).heap.size)
  (gM:(w7.alloc o2).grownBy w8 v2.ownBlock)(vb:w7.ownsRow B 54 8 v2 ts.length lD)(n2:w8.ownsRow B 54 8 Tf (ts.length+1) (lD++(Hx t A3 c3++Hx u A4 c4)))(uQ:Tf.ownBlock=v2.ownBlock\/Tf.ownBlock=some (w7.alloc o2).heap.size):IL B (λg=>S g\/S' g) w8 (ts++[(t,u)]) xF Tf:=by
 have jL:w6.heap.size+1<=w7.heap.size:=by have:=aS.size;simpa using this
 have WM:w7.heap.size+1<=w8.heap.size:=by have:=gM.size;simpa using this
 have qi:∀g,g<w6.heap.size->v1.ownBlock≠some g->w7.heap[g]?=w6.heap[g]?:=λg hg hn=>(aS.block g (by simp;omega) (λe=>hn e.symm)).trans (BX _ _ _ hg);have hk8:∀g,g<w7.heap.size->v2.ownBlock≠some g->w8.heap[g]?=w7.heap[g]?:=λg hg hn=>(gM.block g (by simp;omega) (λe=>hn e.symm)).trans (BX _ _ _ hg);have aK:∀g,(S g\/S' g)->B<=g/\g<w6.heap.size/\v1.ownBlock≠some g/\v2.ownBlock≠some g:=λg hg=>hg.elim (h5 g) (pF g);have wT:∀g,(S g\/S' g)->w8.heap[g]?=w6.heap[g]?:=λg hg=>by
  obtain⟨_,a2,a3,a4⟩:=aK g hg;exact(hk8 g (by omega) a4).trans (qi g a2 a3)
 have n18:w8.ownsRow B 52 8 xF (ts.length+1) (gW++(Hx t A1 c1++Hx u A2 c2)):=GF n1 (λg hg=>by
  obtain⟨_,hl,cur,aa⟩:=s_ n1 g hg;refine hk8 g hl (λe=>?_);obtain⟨_,_,ZG,eQ⟩:=s_ vb g e;rw[aa]at eQ;injection eQ with eQ;injection eQ with _ ht _;exact absurd ht (by decide))
 refine⟨_,_,by rw[Cb];exact n18,by rw[VW];exact(fs.al (λ_ h=>.inl h) (λg hg=>wT g (.inl hg)) _ _ h2).two (uT.al (λ_ h=>.inr h) (λg hg=>wT g (.inr hg))) (uS.al (λ_ h=>.inr h) (λg hg=>wT g (.inr hg))),
  by rw[Cb];exact n2,by rw[VW];exact(fs.al (λ_ h=>.inl h) (λg hg=>wT g (.inl hg)) _ _ h4).two (ha3.al (λ_ h=>.inr h) (λg hg=>wT g (.inr hg))) (ha4.al (λ_ h=>.inr h) (λg hg=>wT g (.inr hg))),λg hg=>?_⟩
 obtain⟨a1,a2,a3,a4⟩:=aK g hg;refine⟨a1,by omega,?_,?_⟩
 ·rcases Zw with e|e
  ·rw[e];exact a3
  ·rw[e];intro e';injection e' with e';simp at e';omega
 ·rcases uQ with e|e
  ·rw[e];exact a4
  ·rw[e];intro e';injection e' with e';simp at e';omega
end
section
open Go.RowKit Lx Tx Go.Maps Go.WideMaps Go.Shelf
set_option maxRecDepth 100000
theorem zjH(a:Addr)(i j:Nat):(a.add i).add j=a.add (i+j):=by
 unfold Addr.add;by_cases hi:i=0
 ·subst hi;simp
 ·by_cases hj:j=0
  ·subst hj;simp[hi]
  ·simp[hi,hj,DN]
theorem znG:(prog.info? 52).map (λi=>(i.zero,i.size,i.bytes))=some (some (.agg #[.int .i64 0,.string ⟨#[]⟩,.int .i64 0,.slice none 0 0,.int .i64 0,.string ⟨#[]⟩,.int .i64 0,.slice none 0 0]),8,112):=by kernel_rfl
theorem zrB:(prog.info? 54).map (λi=>(i.zero,i.size,i.bytes))=some (some (.agg #[.int .i64 0,.string ⟨#[]⟩,.int .i64 0,.slice none 0 0,.int .i64 0,.string ⟨#[]⟩,.int .i64 0,.slice none 0 0]),8,112):=by kernel_rfl
theorem Qo(ls:List (ByteArray × ByteArray))(A:Option Addr)(cp:Nat)(w:World)(hl:Gb w ls A)(hs:∀p∈ls,p.1.size<=maxLen/\p.2.size<=maxLen):Calls prog 13 #[.slice A ls.length cp] w (NA ls w):=by
 obtain⟨n,hn⟩:∃n,ls.length=n:=⟨_,rfl⟩;rw[hn];have HN:=EP hn;have HL:=EP hl;have HS:=EP hs;obtain⟨i0,bK,cj,bS,bC⟩:=Dx znG;obtain⟨j0,kH,wm,lE,mq⟩:=Dx zrB;clear hl hs hn;by_cases h8:8<n
 ·have HR:Hid (Kk ls=none):=EP (by unfold Kk;rw[HN.o,Ch h8])
  clear bK cj bS bC kH wm lE mq;go_in;go_wp2_with fail;go_ret3
  exact⟨Cc _ _,.inl ⟨HR.o,rfl⟩⟩
 ·go_in
  go_wp2_with fail;go_loopg [5,6,7,8] n (λgg v5 v6 v7 vi wr=>LnH ls w n gg v5 v6 v7 vi wr)
  case atStart =>
   refine⟨0,[],0,λ_=>False,rfl,rfl,rfl,Cw _,by omega,rfl,rfl,⟨[],[],CM _ _ _ _,?_,CM _ _ _ _,?_,λg h=>h.elim⟩,Cc _ _⟩
   ·show fs _ _ [] [];rw[fs]
   ·show fs _ _ [] [];rw[fs]
  case round =>
   obtain⟨i,ts,c,S,rfl,rfl,rfl,hi,hc,tI,aC,hE,hb⟩:=hrel;by_cases af:i<n
   ·obtain⟨⟨sl,sr⟩,hp⟩:∃p,ls[i]?=some p:=⟨_,BY (by rw[HN.o];exact af)⟩
    obtain⟨ad,rfl,hg,eL,bj⟩:=HL.o i _ hp;obtain⟨aH,aZ⟩:=HS.o _ (CG hp);have fu:=znE hp;rw[aC]at fu;obtain⟨m1,aT⟩:∃m,JO sl.data.toList=m:=⟨_,rfl⟩;obtain⟨m2,bL⟩:∃m,JO sr.data.toList=m:=⟨_,rfl⟩;obtain⟨q1,iC⟩:∃q,(((m1:Nat):Int) != 0)=q:=⟨_,rfl⟩;obtain⟨q2,fw⟩:∃q,(((m2:Nat):Int) != 0)=q:=⟨_,rfl⟩;obtain⟨q3,tU⟩:∃q,decide ((120:Int)<((sl.size:Nat):Int))=q:=⟨_,rfl⟩;obtain⟨q4,WV⟩:∃q,decide ((120:Int)<((sr.size:Nat):Int))=q:=⟨_,rfl⟩;have p9:Hid (q1=true\/q2=true\/q3=true\/q4=true->Kk ls=none):=EP (λh=>by
     have h0:Hb ls=none:=ziq (i:=i+1) (by
      rw[fu];refine znF ?_;rcases h with h|h|h|h
      ·rw[h,<-aT]at iC;exact .inl (by simpa using iC)
      ·rw[h,<-bL]at fw;exact .inr (.inl (by simpa using fw))
      ·rw[h]at tU;exact .inr (.inr (.inl (show 120<sl.size by have:=DB tU;omega)))
      ·rw[h]at WV;exact .inr (.inr (.inr (show 120<sr.size by have:=DB WV;omega))))
     unfold Kk;rw[h0];split <;> rfl)
    have tk:Hid (q1=false->q2=false->q3=false->q4=false->∃t u,parse sl.data.toList=.ok t/\parse sr.data.toList=.ok u/\Hb (ls.take (i+1))=if 24<c+E8 t+E8 u then none else some (ts++[(t,u)],c+E8 t+E8 u)):=EP (λh1 h2 h3 h4=>by
     rw[h1,<-aT]at iC;rw[h2,<-bL]at fw;obtain⟨t,ht⟩:=zim (by simpa using iC);obtain⟨u,hu⟩:=zim (by simpa using fw);exact⟨t,u,ht,hu,fu.trans (zjG ht hu (show ¬120<sl.size by have:=EK (tU.trans h3);omega) (show ¬120<sr.size by have:=EK (WV.trans h4);omega))⟩)
    have P1:=EP (λW=>zio sl W aH);have P2:=EP (λW=>zio sr W aZ);have P3:=EP (λW=>zgf sl W aH);have P4:=EP (λW=>zgf sr W aZ);have dP:=EP aT;have fo:=EP bL;have HE:=EP hE;have HB:=EP hb;have aN:∀k,(ad.add k).block=ad.block:=λk=>by unfold Addr.add;split <;> rfl
    have cH:w.cell? ((ad.add (i*2)).add 1)=some (.string sr):=by rw[zjH];exact bj
    have HC:Hid (∀W,Below wr.heap.size wr W->W.cell? (ad.add (i*2))=some (.string sl)/\W.cell? ⟨(ad.add (i*2)).block,(ad.add (i*2)).off+1,none⟩=some (.string sr)):=EP (λW hW=>by
     have h0:Below w.heap.size w W:=hb.trans (hW.mono hb.size);exact⟨(h0.cell (p:=ad.add (i*2)) (by rw[aN];exact hg)).trans eL,(h0.cell (p:=(ad.add (i*2)).add 1) (by rw[zjH,aN];exact hg)).trans cH⟩)
    have xj:=EP tI;obtain⟨e0,e1⟩:=HC.o wr (Cc _ _);clear hp eL bj cH aN aH aZ fu aT bL hE hb tI aC;go_wp2_with fail;refine(P1.o _).mono ?_;rintro e w1 ⟨K1,X1,Z1,A1,n1,c1,rfl,b1,r1⟩;rw[dP.o];have B1:Hid (Below wr.heap.size wr (w1.alloc (.cells #[.int .i64 K1,.string X1,.int .i64 Z1,.slice A1 n1 c1] 37))):=EP (b1.alloc b1.size _);obtain⟨e0,e1⟩:=HC.o _ B1.o;go_wp2_with fail;refine(P2.o _).mono ?_;rintro e w2 ⟨K2,X2,Z2,A2,n2,c2,rfl,b2,r2⟩;rw[fo.o];have B2:Hid (Below wr.heap.size wr (w2.alloc (.cells #[.int .i64 K2,.string X2,.int .i64 Z2,.slice A2 n2 c2] 37))):=EP ((B1.o.trans (b2.mono B1.o.size)).alloc (Cm B1.o.size b2.size) _);obtain⟨e0,e1⟩:=HC.o _ B2.o;go_wp2_with fail;refine(P3.o _).mono ?_;rintro e w3 ⟨K3,X3,Z3,A3,n3,c3,rfl,b3,r3⟩;rw[dP.o];have B3:Hid (Below wr.heap.size wr (w3.alloc (.cells #[.int .i64 K3,.string X3,.int .i64 Z3,.slice A3 n3 c3] 43))):=EP ((B2.o.trans (b3.mono B2.o.size)).alloc (Cm B2.o.size b3.size) _);obtain⟨e0,e1⟩:=HC.o _ B3.o;go_wp2_with fail;refine(P4.o _).mono ?_;rintro e w4 ⟨K4,X4,Z4,A4,n4,c4,rfl,b4,r4⟩;rw[fo.o];have B4:Hid (Below wr.heap.size wr (w4.alloc (.cells #[.int .i64 K4,.string X4,.int .i64 Z4,.slice A4 n4 c4] 43))):=EP ((B3.o.trans (b4.mono B3.o.size)).alloc (Cm B3.o.size b4.size) _);obtain⟨e0,e1⟩:=HC.o _ B4.o;have f1:=BZ w1 (.cells #[.int .i64 K1,.string X1,.int .i64 Z1,.slice A1 n1 c1] 37);have f2:=BZ w2 (.cells #[.int .i64 K2,.string X2,.int .i64 Z2,.slice A2 n2 c2] 37);have f3:=BZ w3 (.cells #[.int .i64 K3,.string X3,.int .i64 Z3,.slice A3 n3 c3] 43);have f4:=BZ w4 (.cells #[.int .i64 K4,.string X4,.int .i64 Z4,.slice A4 n4 c4] 43);go_upto_region 13 with fail
    have y3:=b4.alloc b4.size (.cells #[.int .i64 K4,.string X4,.int .i64 Z4,.slice A4 n4 c4] 43);have x2:=b3.alloc b3.size (.cells #[.int .i64 K3,.string X3,.int .i64 Z3,.slice A3 n3 c3] 43);have x1:=b2.alloc b2.size (.cells #[.int .i64 K2,.string X2,.int .i64 Z2,.slice A2 n2 c2] 37);have y2:=x2.trans (y3.mono x2.size);have y1:=x1.trans (y2.mono x1.size);have p1:ar _ w1.heap.size 37 #[.int .i64 K1,.string X1,.int .i64 Z1,.slice A1 n1 c1]:=ar.below f1 y1 (by simp);have p2:ar _ w2.heap.size 37 #[.int .i64 K2,.string X2,.int .i64 Z2,.slice A2 n2 c2]:=ar.below f2 y2 (by simp);have p3:ar _ w3.heap.size 43 #[.int .i64 K3,.string X3,.int .i64 Z3,.slice A3 n3 c3]:=ar.below f3 y3 (by simp);have p4:ar _ w4.heap.size 43 #[.int .i64 K4,.string X4,.int .i64 Z4,.slice A4 n4 c4]:=f4;have z1:=b1.size;have z2:w1.heap.size+1<=w2.heap.size:=by have:=b2.size;simpa using this
    have z3:w2.heap.size+1<=w3.heap.size:=by have:=b3.size;simpa using this
    have z4:w3.heap.size+1<=w4.heap.size:=by have:=b4.size;simpa using this
    obtain⟨W4,jB⟩:∃W,w4.alloc (.cells #[.int .i64 K4,.string X4,.int .i64 Z4,.slice A4 n4 c4] 43)=W:=⟨_,rfl⟩;have so:W4.heap.size=w4.heap.size+1:=by rw[<-jB];simp
    rw[jB]at p1 p2 p3 p4 y1 y2 y3 B4 e0 e1 ⊢;have R1:Hid (∀t,parse sl.data.toList=.ok t->nc (λg=>wr.heap.size<=g/\g<W4.heap.size) W4 t (.agg #[.int .i64 K1,.string X1,.int .i64 Z1,.slice A1 n1 c1])):=EP (λt ht=>(r1 t ht).al (λg hg=>⟨hg.1,by omega⟩) (λg hg=>(y1.block g (by simp;omega)).trans (BX _ _ _ hg.2)));have R2:Hid (∀t,parse sr.data.toList=.ok t->nc (λg=>wr.heap.size<=g/\g<W4.heap.size) W4 t (.agg #[.int .i64 K2,.string X2,.int .i64 Z2,.slice A2 n2 c2])):=EP (λt ht=>(r2 t ht).al (λg hg=>⟨by have:=hg.1;simp at this;omega,by omega⟩) (λg hg=>(y2.block g (by simp;omega)).trans (BX _ _ _ hg.2)));have R3:Hid (∀t,parse sl.data.toList=.ok t->nc (λg=>wr.heap.size<=g/\g<W4.heap.size) W4 t (.agg #[.int .i64 K3,.string X3,.int .i64 Z3,.slice A3 n3 c3])):=EP (λt ht=>(r3 t ht).al (λg hg=>⟨by have:=hg.1;simp at this;omega,by omega⟩) (λg hg=>(y3.block g (by simp;omega)).trans (BX _ _ _ hg.2)));have R4:Hid (∀t,parse sr.data.toList=.ok t->nc (λg=>wr.heap.size<=g/\g<W4.heap.size) W4 t (.agg #[.int .i64 K4,.string X4,.int .i64 Z4,.slice A4 n4 c4])):=EP (λt ht=>(r4 t ht).al (λg hg=>⟨by have:=hg.1;simp at this;omega,by omega⟩) (λg hg=>by rw[<-jB];exact BX _ _ _ hg.2));have Q1:=EP p1;have Q2:=EP p2;have Q3:=EP p3;have Q4:=EP p4;clear r1 r2 r3 r4 y1 y2 y3 x1 x2 f1 f2 f3 f4 b1 b2 b3 b4 p1 p2 p3 p4 jB so z1 z2 z3 z4 B1 B2 B3 P1 P2 P3 P4;cases q1 with
    |true =>
     go_wp2_with fail;go_ret3
     exact⟨HB.o.trans (B4.o.mono HB.o.size),.inl ⟨p9.o (by simp),rfl⟩⟩
    |false =>
     cases q2 with
     |true =>
      go_wp2_with fail;go_ret3
      exact⟨HB.o.trans (B4.o.mono HB.o.size),.inl ⟨p9.o (by simp),rfl⟩⟩
     |false =>
      cases q3 with
      |true =>
       go_wp2_with fail;go_ret3
       exact⟨HB.o.trans (B4.o.mono HB.o.size),.inl ⟨p9.o (by simp),rfl⟩⟩
      |false =>
       cases q4 with
       |true =>
        go_wp2_with fail;go_ret3
        exact⟨HB.o.trans (B4.o.mono HB.o.size),.inl ⟨p9.o (by simp),rfl⟩⟩
       |false =>
        have xB:Hid (∃t u,parse sl.data.toList=.ok t/\parse sr.data.toList=.ok u/\Hb (ls.take (i+1))=if 24<c+E8 t+E8 u then none else some (ts++[(t,u)],c+E8 t+E8 u)):=EP (tk.o rfl rfl rfl rfl);clear tk p9;go_upto_region 15 with fail
        obtain⟨t,u,ht,hu,ov⟩:=xB.o;have v1:=R1.o t ht;have v2:=R2.o u hu;have v3:=R3.o t ht;have v4:=R4.o u hu;have st:t.size<=1000000:=by obtain⟨-,-,h1,h2⟩:=Sm _ _ ht;omega
        have su:u.size<=1000000:=by obtain⟨-,-,h1,h2⟩:=Sm _ _ hu;omega
        have XT:Hid (∀W,Below W4.heap.size W4 W->Calls prog 31 #[.agg #[.int .i64 K3,.string X3,.int .i64 Z3,.slice A3 n3 c3]] W λe w'=>e=.returned (.int .i64 (E8 t:Nat))/\Below W.heap.size W w'):=EP λW hW=>zhb _ t _ _ W (BU _) st (v3.al (λ_ h=>h) (λg hg=>hW.block g hg.2)) (λg hg=>Ci hg.2 hW.size);have XS:Hid (∀W,Below W4.heap.size W4 W->Calls prog 31 #[.agg #[.int .i64 K4,.string X4,.int .i64 Z4,.slice A4 n4 c4]] W λe w'=>e=.returned (.int .i64 (E8 u:Nat))/\Below W.heap.size W w'):=EP λW hW=>zhb _ u _ _ W (BU _) su (v4.al (λ_ h=>h) (λg hg=>hW.block g hg.2)) (λg hg=>Ci hg.2 hW.size);have ct:E8 t<=1000000:=Cm (Vi _ t (BU _)) st;have cu:E8 u<=1000000:=Cm (Vi _ u (BU _)) su;obtain⟨x,hx⟩:∃x,E8 t=x:=⟨_,rfl⟩;obtain⟨y,hy⟩:∃y,E8 u=y:=⟨_,rfl⟩;rw[hx]at XT ct ov
        rw[hy]at XS cu ov;have Ba:=EP ov;have bh:Hid (∀W:World,Below W4.heap.size W4 W->(λW:World=>W.cell? ⟨w3.heap.size,0,none⟩=some (.int .i64 K3)/\W.cell? ⟨w3.heap.size,1,none⟩=some (.string X3)/\W.cell? ⟨w3.heap.size,2,none⟩=some (.int .i64 Z3)/\W.cell? ⟨w3.heap.size,3,none⟩=some (.slice A3 n3 c3)/\W.cell? ⟨w4.heap.size,0,none⟩=some (.int .i64 K4)/\W.cell? ⟨w4.heap.size,1,none⟩=some (.string X4)/\W.cell? ⟨w4.heap.size,2,none⟩=some (.int .i64 Z4)/\W.cell? ⟨w4.heap.size,3,none⟩=some (.slice A4 n4 c4)) W):=EP λW hW=>by
         have y1:ar W w3.heap.size 43 #[.int .i64 K3,.string X3,.int .i64 Z3,.slice A3 n3 c3]:=Q3.o.below hW Q3.o.lt;have y2:ar W w4.heap.size 43 #[.int .i64 K4,.string X4,.int .i64 Z4,.slice A4 n4 c4]:=Q4.o.below hW Q4.o.lt;exact⟨y1.cell 0,y1.cell 1,y1.cell 2,y1.cell 3,y2.cell 0,y2.cell 1,y2.cell 2,y2.cell 3⟩
        have BT:Hid (Below W4.heap.size W4 W4.drew):=EP (Cc _ W4).drew;have V1:=EP v1;have V2:=EP v2;have V3:=EP v3;have V4:=EP v4;clear v1 v2 v3 v4 st su ht hu hx hy ov xB R1 R2 R3 R4 HC e0 e1;go_region_held3 (λW:World=>W.cell? ⟨w3.heap.size,0,none⟩=some (.int .i64 K3)/\W.cell? ⟨w3.heap.size,1,none⟩=some (.string X3)/\W.cell? ⟨w3.heap.size,2,none⟩=some (.int .i64 Z3)/\W.cell? ⟨w3.heap.size,3,none⟩=some (.slice A3 n3 c3)/\W.cell? ⟨w4.heap.size,0,none⟩=some (.int .i64 K4)/\W.cell? ⟨w4.heap.size,1,none⟩=some (.string X4)/\W.cell? ⟨w4.heap.size,2,none⟩=some (.int .i64 Z4)/\W.cell? ⟨w4.heap.size,3,none⟩=some (.slice A4 n4 c4)) (first|(with_reducible exact bh.o _ BT.o)|(with_reducible exact bh.o _ dQ.o)|(with_reducible exact bh.o _ tz.o))
         ((first
          |((with_reducible refine(XT.o _ BT.o).mono ?_);rintro e w5 ⟨rfl,b5⟩;have dQ:Hid (Below W4.heap.size W4 w5):=EP (BT.o.trans b5);clear b5)
          |((with_reducible refine(XS.o _ dQ.o).mono ?_);rintro e w6 ⟨rfl,b6⟩;have tz:Hid (Below W4.heap.size W4 w6):=EP (dQ.o.trans (b6.mono dQ.o.size));clear b6)))
        all_goals
         have h6:Below wr.heap.size wr w6:=B4.o.trans (tz.o.mono B4.o.size);by_cases h24:24<c+x+y
         ·have gw:Hid (Kk ls=none):=EP (by
           have h0:Hb ls=none:=ziq (i:=i+1) (by rw[Ba.o,Ch h24]);unfold Kk;rw[h0];split <;> rfl)
          have H6:=EP h6;clear h6 BT dQ;go_wp2_with fail;go_ret3
          exact⟨HB.o.trans (H6.o.mono HB.o.size),.inl ⟨gw.o,rfl⟩⟩
         ·have ov:Hb (ls.take (i+1))=some (ts++[(t,u)],c+x+y):=by rw[Ba.o,Cg h24]
          have hE6:=HE.o.al h6;obtain⟨gW,lD,o1,o2,o3,o4,o5⟩:=hE6;rw[xj.o]at o1 o3;have HOB:Hid (∀g,u5.ownBlock=some g\/u6.ownBlock=some g->g<wr.heap.size):=EP (by
           obtain⟨_,_,x1,_,x3,_⟩:=HE.o;exact λg hg=>hg.elim (λh=>(s_ x1 g h).2.1) (λh=>(s_ x3 g h).2.1))
          have k1:ar w6 w1.heap.size 37 #[.int .i64 K1,.string X1,.int .i64 Z1,.slice A1 n1 c1]:=Q1.o.below tz.o Q1.o.lt;have k2:ar w6 w2.heap.size 37 #[.int .i64 K2,.string X2,.int .i64 Z2,.slice A2 n2 c2]:=Q2.o.below tz.o Q2.o.lt;have k3:ar w6 w3.heap.size 43 #[.int .i64 K3,.string X3,.int .i64 Z3,.slice A3 n3 c3]:=Q3.o.below tz.o Q3.o.lt;have k4:ar w6 w4.heap.size 43 #[.int .i64 K4,.string X4,.int .i64 Z4,.slice A4 n4 c4]:=Q4.o.below tz.o Q4.o.lt;obtain⟨d0,d1,d2,d3,-⟩:=n_ k1;obtain⟨d4,d5,d6,d7,-⟩:=n_ k2;obtain⟨Aa,ca,rfl⟩:=GS o1;obtain⟨Ab,cb,rfl⟩:=GS o3;have kA:w.heap.size<=w6.heap.size:=Cm HB.o.size h6.size;have hk:∀(g:Nat) (cs:Array Value) (ty:TypeId),w6.heap[g]?=some (.cells cs ty (0,0))->ty≠52->∀(o:Obj) (w7:World),(w6.alloc o).grownBy w7 (Value.slice Aa i ca).ownBlock->w7.heap[g]?=w6.heap[g]?:=λg cs ty hg hn o w7 sI=>by
           have af:=(BV.1 hg).1;refine(sI.block g (by simp;omega) (λe=>?_)).trans (BX _ _ _ af);obtain⟨_,_,cur,aa⟩:=s_ o1 g e.symm;rw[hg]at aa;injection aa with aa;injection aa with _ aa _;exact hn aa
          have HK:=EP hk;have K3B:=EP k3;have K4B:=EP k4;have O1:=EP o1;have O2:=EP o2;have O3:=EP o3;have O4:=EP o4;have O5:=EP o5;have H6:=EP h6;have rM:=EP ov;have iN:=EP kA;have HO1:=EP (o1.alloc (.cells #[.int .i64 K1,.string X1,.int .i64 Z1,.slice A1 n1 c1,.int .i64 K2,.string X2,.int .i64 Z2,.slice A2 n2 c2] 52));clear hk k1 k2 k3 k4 o1 o2 o3 o4 o5 h6 ov kA BT dQ bh XT XS Ba Q1 Q2 Q3 Q4 HE;go_upto_region 18 with fail
          go_upto_region 19 with(at_builtin;refine C7 _ rfl (.tmp 95) (.tmp 99) 24 rfl w.heap.size 52 i0 _ 8 112 underlying24 bK cj bS bC rfl (by decide) _ i gW rfl HO1.o ⟨w6.heap.size,0,none⟩ 1 1 [.int .i64 K1,.string X1,.int .i64 Z1,.slice A1 n1 c1,.int .i64 K2,.string X2,.int .i64 Z2,.slice A2 n2 c2] rfl rfl (Iz _ _ _ _ (by simp)) (by intro z hz;simp at hz;rcases hz with rfl|rfl|rfl|rfl|rfl|rfl|rfl|rfl <;> rfl) (by unfold maxLen;omega) (by omega) (by have:=iN.o;simp;omega) ?_;intro v7 w7 oC eZ _ zS;obtain⟨A7,c7,rfl⟩:=GS oC;have k3:=K3B.o.same (HK.o _ _ _ K3B.o (by decide) _ _ eZ);have k4:=K4B.o.same (HK.o _ _ _ K4B.o (by decide) _ _ eZ);obtain⟨f0,f1,f2,f3,-⟩:=n_ k3;obtain⟨f4,f5,f6,f7,-⟩:=n_ k4;have vb:=GF O3.o (λg hg=>(by obtain⟨_,_,cur,aa⟩:=s_ O3.o g hg;exact HK.o g cur _ aa (by decide) _ _ eZ));have H37:=EP vb;have cS:=EP (vb.alloc (.cells #[.int .i64 K3,.string X3,.int .i64 Z3,.slice A3 n3 c3,.int .i64 K4,.string X4,.int .i64 Z4,.slice A4 n4 c4] 54));have xo:Hid (w6.heap.size+1<=w7.heap.size):=EP (by have h:=eZ.size;simpa using h);have HG7:=EP eZ;have YO:=EP zS;have X9:=EP oC;clear oC eZ zS k3 k4 vb d0 d1 d2 d3 d4 d5 d6 d7);go_wp2_with (at_builtin;refine C7 _ rfl (.tmp 101) (.tmp 105) 25 rfl w.heap.size 54 j0 _ 8 112 underlying25 kH wm lE mq rfl (by decide) _ i lD rfl cS.o ⟨w7.heap.size,0,none⟩ 1 1 [.int .i64 K3,.string X3,.int .i64 Z3,.slice A3 n3 c3,.int .i64 K4,.string X4,.int .i64 Z4,.slice A4 n4 c4] rfl rfl (Iz _ _ _ _ (by simp)) (by intro z hz;simp at hz;rcases hz with rfl|rfl|rfl|rfl|rfl|rfl|rfl|rfl <;> rfl) (by unfold maxLen;omega) (by omega) (by have:=iN.o;have:=xo.o;simp;omega) ?_;intro v8 w8 oB oU _ zR;obtain⟨A8,c8,rfl⟩:=GS oB;have HG8:=EP oU;have HA8:=EP zR;have HW8:=EP oB;clear oB oU zR);have pS:Hid (LnH ls w n (n-(i+1)) (.slice A7 (i+1) c7) (.slice A8 (i+1) c8) (.int .i64 ((c+x+y:Nat):Int)) (.int .i64 ((i+1:Nat):Int)) w8):=EP (by
           obtain rfl:=xj.o;obtain⟨g1,a1⟩:=RQ V1.o;obtain⟨g2,a2⟩:=RQ V2.o;obtain⟨g3,a3⟩:=RQ V3.o;obtain⟨g4,a4⟩:=RQ V4.o;have TQ:∀g,(wr.heap.size<=g/\g<W4.heap.size)->w6.heap[g]?=W4.heap[g]?:=λg hg=>tz.o.block g hg.2;have hw7:=X9.o;have hw8:=HW8.o;rw[show[.int .i64 K1,.string X1,.int .i64 Z1,.slice A1 n1 c1,.int .i64 K2,.string X2,.int .i64 Z2,.slice A2 n2 c2]=Hx t A1 c1++Hx u A2 c2 by rw[g1,g2];rfl]at hw7
           rw[show[.int .i64 K3,.string X3,.int .i64 Z3,.slice A3 n3 c3,.int .i64 K4,.string X4,.int .i64 Z4,.slice A4 n4 c4]=Hx t A3 c3++Hx u A4 c4 by rw[g3,g4];rfl]at hw8;have vb:=H37.o;have zu:=HG7.o;have wK:=HG8.o;have fV:=IL.snoc (S':=λg=>wr.heap.size<=g/\g<W4.heap.size) O2.o O4.o O5.o (a1.al (λ_ h=>h) TQ) (a2.al (λ_ h=>h) TQ) (a3.al (λ_ h=>h) TQ) (a4.al (λ_ h=>h) TQ) (λg hg=>by
            have hs:=tz.o.size;have gI:=HB.o.size;refine⟨by omega,by omega,λe=>?_,λe=>?_⟩
            ·have:=HOB.o g (.inl e);omega
            ·have:=HOB.o g (.inr e);omega) zu hw7 YO.o wK vb hw8 HA8.o
           have h0:Below w.heap.size w w6:=HB.o.trans (H6.o.mono HB.o.size);have dS:=iN.o;have jL:=xo.o;have fk:Below w.heap.size w w7:=⟨zu.os.trans h0.os,zu.tape.trans h0.tape,zu.output.trans h0.output,by omega,λk hk=>(zu.block k (by simp;omega) (λe=>by have:=(s_ HO1.o k e.symm).1;omega)).trans ((BX _ _ _ (by omega)).trans (h0.block k hk))⟩;have WM:w7.heap.size+1<=w8.heap.size:=by have h:=wK.size;simpa using h
           have jb:Below w.heap.size w w8:=⟨wK.os.trans fk.os,wK.tape.trans fk.tape,wK.output.trans fk.output,by omega,λk hk=>(wK.block k (by simp;omega) (λe=>by have:=(s_ H37.o k e.symm).1;omega)).trans ((BX _ _ _ (by omega)).trans (fk.block k hk))⟩;exact⟨ts.length+1,ts++[(t,u)],c+x+y,_,rfl,rfl,rfl,by omega,by omega,by rw[Cb];rfl,rM.o,fV,jb⟩)
          go_roundg (n-(i+1))
          case measure=>omega
          case rel=>exact pS.o
   ·have hr:Hid (Kk ls=some ts):=EP (by
     rw[Cq (by rw[HN.o];omega)]at aC;unfold Kk;rw[Cg (by rw[HN.o];exact h8),aC];rfl)
    have HE:=EP hE;have HB:=EP hb;clear hE hb aC;go_wp2_with fail;go_ret3
    exact⟨HB.o,.inr ⟨ts,_,_,S,hr.o,rfl,HE.o⟩⟩
set_option maxRecDepth 100000
theorem fs.at {S:Nat->Prop} {w:World} : {l:List Ty}->{vs:List Value}->fs S w l vs->∀(j:Nat)(t:Ty),l[j]?=some t->∃A c,j_ S w t A/\∀k,k<4->vs[j*4+k]? =(Hx t A c)[k]?
 |[],_,_,j,t,h=>by simp at h
 |x::r,vs,h,0,t,hj=>by
  rw[fs]at h;obtain⟨A,c,rest,rfl,h2,-⟩:=h;simp at hj;subst hj;refine⟨A,c,h2,λk hk=>?_⟩;rw[Nat.zero_mul,Dm,DK (show k<4 from hk)]
 |x::r,vs,h,j+1,t,hj=>by
  rw[fs]at h;obtain⟨A,c,rest,rfl,-,h3⟩:=h;obtain⟨A',c',h4,h5⟩:=fs.at h3 j t (by simpa using hj);refine⟨A',c',h4,λk hk=>?_⟩;have e:(j+1)*4+k=4+(j*4+k):=by omega
  rw[e,Db (show 4<=4+(j*4+k) by omega)];show rest[4+(j*4+k)-4]?=_;rw[Dv];exact h5 k hk
theorem Vh:(ts:List (Ty × Ty))->∀(i:Nat)(t u:Ty),ts[i]?=some (t,u)->(LD ts)[i*2]?=some t/\(LD ts)[i*2+1]?=some u
 |[],i,t,u,h=>by simp at h
 |p::r,0,t,u,h=>by
  simp at h;subst h;exact⟨rfl,rfl⟩
 |p::r,i+1,t,u,h=>by
  obtain⟨h1,h2⟩:=Vh r i t u (by simpa using h);have e:LD (p::r)=p.1::p.2::LD r:=rfl;rw[e,show(i+1)*2=i*2+1+1 by omega,Ee,Ee,Ee,Ee];exact⟨h1,h2⟩
theorem IL.Jv {B:Nat} {S:Nat->Prop} {w:World} {ts:List (Ty × Ty)} {A:Option Addr} {m c:Nat} {v2:Value}(h:IL B S w ts (.slice A m c) v2):Hg S w ts A/\m=ts.length:=by
 obtain⟨gW,lD,h1,h2,-,-,-⟩:=h;have hm:m=ts.length:=by
  obtain⟨a,q,e⟩:=GS h1;injection e
 refine⟨λi t u hi=>?_,hm⟩;obtain⟨f1,f2⟩:=Vh ts i t u hi;obtain⟨At,ct,g1,g2⟩:=h2.at _ t f1;obtain⟨Au,cu,g3,g4⟩:=h2.at _ u f2;rcases h1.2 with⟨-,h0⟩|⟨g,cap,cur,e,-,hg,-⟩
 ·rw[Cn h0]at hi
  cases hi
 ·injection e with e1 _ _
  subst e1;have hc:∀(j:Nat) (x:Value),gW[j]?=some x->w.cell? ⟨g,j,none⟩=some x:=λj x hx=>by
   have ay:=h1.cells (g:=g) rfl j x hx;have aN:(⟨g,0,none⟩:Addr).add j=⟨g,j,none⟩:=by unfold Addr.add;split <;> simp_all
   rwa [aN]at ay
  refine⟨g,At,ct,Au,cu,rfl,(BV.1 hg).1,?_,g1,?_,g3⟩
  ·have e:i*8=i*2*4:=by omega
   rw[e];exact⟨hc _ _ (g2 0 (by omega)),hc _ _ (g2 1 (by omega)),hc _ _ (g2 2 (by omega)),hc _ _ (g2 3 (by omega))⟩
  ·have e:i*8+4=(i*2+1)*4:=by omega
   rw[e];exact⟨hc _ _ (g4 0 (by omega)),hc _ _ (g4 1 (by omega)),hc _ _ (g4 2 (by omega)),hc _ _ (g4 3 (by omega))⟩
end
end Go.Proofs.YtfafilmklhnngaaGreatDoor
