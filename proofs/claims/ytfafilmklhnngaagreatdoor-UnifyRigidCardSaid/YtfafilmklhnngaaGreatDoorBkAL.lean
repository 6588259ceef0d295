import Derived.Test.YtfafilmklhnngaaGreatDoorBkAF
import Derived.Test.YtfafilmklhnngaaGreatDoorBkAK
set_option maxHeartbeats 12800000
namespace Go.Proofs.YtfafilmklhnngaaGreatDoor
open Go.RowKit Lx Tx Go.Maps Go.WideMaps Go.Shelf
set_option maxRecDepth 100000
def errN(s:List UInt8):Nat:=match parse s with
 |.error n=>n
 |.ok _=>0
theorem zhE {s:List UInt8}(h:errN s=0):∃t,parse s=.ok t:=by
 cases hp:parse s with
 |ok t=>exact⟨t,rfl⟩
 |error n=>unfold errN at h;rw[hp]at h;exact(zkU hp h).elim
def PA(s:ByteArray)(w:World)(e:Ending)(w':World):Prop :=
 ∃K X Z A m c,e=.returned (.tuple #[.agg #[.int .i64 K,.string X,.int .i64 Z,.slice A m c],.int .i64 (errN s.data.toList:Nat)])/\Below w.heap.size w w' /\
  ∀t,parse s.data.toList=.ok t->RdV (λg=>w.heap.size<=g/\g<w'.heap.size) w' t (.agg #[.int .i64 K,.string X,.int .i64 Z,.slice A m c])
theorem zhF {s:ByteArray} {w:World} {e:Ending} {w':World}(h:PPost s.data.toList w e w'):PA s w e w':=by
 obtain⟨hb,K,X,Z,A,m,c,⟨n,h0,hp,he⟩|⟨u,hp,he,hr⟩⟩:=h
 ·exact⟨K,X,Z,A,m,c,by unfold errN;rw[hp];exact he,hb,λt ht=>by rw[hp]at ht;cases ht⟩
 ·exact⟨K,X,Z,A,m,c,by unfold errN;rw[hp];exact he,hb,λt ht=>by rw[hp]at ht;injection ht with ht;rw[<-ht];exact hr⟩
theorem zhG(s:ByteArray)(w:World)(hs:s.size<=maxLen):Calls Tryz.prog 18 #[.string s] w (PA s w):=(znu s w hs).mono λ_ _ h=>zhF h
theorem zfy(s:ByteArray)(w:World)(hs:s.size<=maxLen):Calls Tryz.prog 19 #[.string s] w (PA s w):=(zkn s w hs).mono λ_ _ h=>zhF h
def zcB(o:Option (List (Ty × Ty) × Nat))(p:ByteArray × ByteArray):Option (List (Ty × Ty) × Nat) :=
 match o,parse p.1.data.toList,parse p.2.data.toList with
 |some (ts,c),.ok t,.ok u=>if 120<p.1.size\/120<p.2.size\/24<c+cntN t+cntN u then none else some (ts++[(t,u)],c+cntN t+cntN u)
 |_,_,_=>none
def runR(ls:List (ByteArray × ByteArray)):Option (List (Ty × Ty) × Nat):=ls.foldl zcB (some ([],0))
def zby(ls:List (ByteArray × ByteArray)):Option (List (Ty × Ty)):=if 8<ls.length then none else(runR ls).map (·.1)
theorem zgq:(ls:List (ByteArray × ByteArray))->ls.foldl zcB none=none
 |[]=>rfl
 |p::r=>by rw[CL,show zcB none p=none from rfl];exact zgq r
theorem zmE {ls:List (ByteArray × ByteArray)} {i:Nat} {p:ByteArray × ByteArray}(h:ls[i]?=some p):runR (ls.take (i+1))=zcB (runR (ls.take i)) p:=by
 unfold runR;rw[B8,h,List.foldl_append]
 rfl
theorem zhH {ls:List (ByteArray × ByteArray)} {i:Nat}(h:runR (ls.take i)=none):runR ls=none:=by
 have:=List.take_append_drop i ls;unfold runR at h ⊢;rw[<-this,List.foldl_append,h,zgq]
theorem zmF {o:Option (List (Ty × Ty) × Nat)} {p:ByteArray × ByteArray}(h:errN p.1.data.toList≠0\/errN p.2.data.toList≠0\/120<p.1.size\/120<p.2.size):zcB o p=none:=by
 unfold zcB;unfold errN at h;split
 ·rename_i ts c t u h1 h2
  rw[h1,h2]at h
  rw[Aq]
  rcases h with h|h|h|h
  ·exact absurd rfl h
  ·exact absurd rfl h
  ·exact .inl h
  ·exact .inr (.inl h)
 ·rfl
theorem ziY {ts:List (Ty × Ty)} {c:Nat} {p:ByteArray × ByteArray} {t u:Ty}(h1:parse p.1.data.toList=.ok t)(h2:parse p.2.data.toList=.ok u)(h3:¬120<p.1.size)(h4:¬120<p.2.size):zcB (some (ts,c)) p=if 24<c+cntN t+cntN u then none else some (ts++[(t,u)],c+cntN t+cntN u):=by
 unfold zcB;rw[h1,h2]
 simp only[h3,h4,false_or]
def zck(ts:List (Ty × Ty)):List Ty:=ts.flatMap λp=>[p.1,p.2]
theorem zgr(ts:List (Ty × Ty))(t u:Ty):zck (ts++[(t,u)])=zck ts++[t,u]:=by unfold zck;rw[List.flatMap_append];rfl
def LinesAt(w:World)(ls:List (ByteArray × ByteArray))(A:Option Addr):Prop :=
 ∀(i:Nat) (p:ByteArray × ByteArray),ls[i]?=some p->∃a:Addr,A=some a/\a.block<w.heap.size/\w.cell? (a.add (i*2))=some (.string p.1)/\w.cell? (a.add (i*2+1))=some (.string p.2)
def EqsV(B:Nat)(S:Nat->Prop)(w:World)(ts:List (Ty × Ty))(v1 v2:Value):Prop :=
 ∃jI kr,w.ownsRow B 52 8 v1 ts.length jI/\TyRow S w (zck ts) jI/\w.ownsRow B 54 8 v2 ts.length kr/\TyRow S w (zck ts) kr/\∀g,S g->B<=g/\g<w.heap.size/\v1.ownBlock≠some g/\v2.ownBlock≠some g
def ReadPst(ls:List (ByteArray × ByteArray))(w:World)(e:Ending)(w':World):Prop :=
 Below w.heap.size w w'/\((zby ls=none/\e=.returned (.tuple #[.slice none 0 0,.slice none 0 0,.bool false])) \/
  ∃ts v1 v2 S,zby ls=some ts/\e=.returned (.tuple #[v1,v2,.bool true])/\EqsV w.heap.size S w' ts v1 v2)
def LnH(ls:List (ByteArray × ByteArray))(w:World)(n gg:Nat)(v5 v6 v7 vi:Value)(wr:World):Prop :=
 ∃i ts c S,gg=n-i/\vi=.int .i64 (i:Nat)/\v7=.int .i64 (c:Nat)/\i<=n/\c<=24/\ts.length=i/\runR (ls.take i)=some (ts,c)/\EqsV w.heap.size S wr ts v5 v6/\Below w.heap.size w wr
theorem EqsV.keep {B:Nat} {S:Nat->Prop} {w w':World} {ts:List (Ty × Ty)} {v1 v2:Value}(h:EqsV B S w ts v1 v2)(hb:Below w.heap.size w w'):EqsV B S w' ts v1 v2:=by
 obtain⟨jI,kr,h1,h2,h3,h4,h5⟩:=h;exact⟨jI,kr,zan h1 (λg hg=>hb.block g (zab h1 g hg).2.1),TyRow.keep (λ_ h=>h) (λg hg=>hb.block g (h5 g hg).2.1) _ _ h2,zan h3 (λg hg=>hb.block g (zab h3 g hg).2.1),TyRow.keep (λ_ h=>h) (λg hg=>hb.block g (h5 g hg).2.1) _ _ h4,
  λg hg=>⟨(h5 g hg).1,As (h5 g hg).2.1 hb.size,(h5 g hg).2.2⟩⟩
theorem TyRow.two {S:Nat->Prop} {w:World} {l:List Ty} {vs:List Value} {t u:Ty} {A A':Option Addr} {c c':Nat}(h:TyRow S w l vs)(h1:Args S w t A)(h2:Args S w u A'):TyRow S w (l++[t,u]) (vs++(tyV t A c++tyV u A' c')):=by
 induction l generalizing vs with
 |nil =>
  rw[TyRow]at h
  subst h;rw[AL,AL,TyRow]
  exact⟨A,c,_,rfl,h1,by rw[TyRow];exact⟨A',c',[],(AU _).symm,h2,by rw[TyRow]⟩⟩
 |cons x r ih =>
  rw[TyRow]at h
  obtain⟨Ax,cx,rest,rfl,g1,g2⟩:=h;rw[AE,TyRow]
  exact⟨Ax,cx,_,by rw[Bj],g1,ih g2⟩
theorem zgs {S:Nat->Prop} {w:World} {t:Ty} {K:Int} {X:ByteArray} {Z:Int} {A:Option Addr} {m c:Nat}(h:RdV S w t (.agg #[.int .i64 K,.string X,.int .i64 Z,.slice A m c])):tyV t A c=[.int .i64 K,.string X,.int .i64 Z,.slice A m c]/\Args S w t A:=by
 obtain⟨A',c',he,ha⟩:=h;simp at he;obtain⟨rfl,rfl,rfl,rfl,rfl,rfl⟩:=he;exact⟨rfl,ha⟩
theorem EqsV.snoc {B:Nat} {S S':Nat->Prop} {w6 w7 w8:World} {ts:List (Ty × Ty)} {v1 v2 vN v2':Value} {t u:Ty} {A1 A2 A3 A4:Option Addr} {c1 c2 c3 c4:Nat} {o1 o2:Obj} {jI kr:List Value}(h2:TyRow S w6 (zck ts) jI)(h4:TyRow S w6 (zck ts) kr)(h5:∀g,S g->B<=g/\g<w6.heap.size/\v1.ownBlock≠some g/\v2.ownBlock≠some g)
  (tn:Args S' w6 t A1)(tm:Args S' w6 u A2)(ha3:Args S' w6 t A3)(ha4:Args S' w6 u A4)(jZ:∀g,S' g->B<=g/\g<w6.heap.size/\v1.ownBlock≠some g/\v2.ownBlock≠some g)
  (aY:(w6.alloc o1).grownBy w7 v1.ownBlock)(n1:w7.ownsRow B 52 8 vN (ts.length+1) (jI++(tyV t A1 c1++tyV u A2 c2)))(hat1:vN.ownBlock=v1.ownBlock\/vN.ownBlock=some (w6.alloc o1).heap.size)
  (iK:(w7.alloc o2).grownBy w8 v2.ownBlock)(tz:w7.ownsRow B 54 8 v2 ts.length kr)(n2:w8.ownsRow B 54 8 v2' (ts.length+1) (kr++(tyV t A3 c3++tyV u A4 c4)))(jv:v2'.ownBlock=v2.ownBlock\/v2'.ownBlock=some (w7.alloc o2).heap.size):EqsV B (λg=>S g\/S' g) w8 (ts++[(t,u)]) vN v2':=by
 have kG:w6.heap.size+1<=w7.heap.size:=by have:=aY.size;simpa using this
 have hs8:w7.heap.size+1<=w8.heap.size:=by have:=iK.size;simpa using this
 have oF:∀g,g<w6.heap.size->v1.ownBlock≠some g->w7.heap[g]?=w6.heap[g]?:=λg hg hn=>(aY.block g (by simp;omega) (λe=>hn e.symm)).trans (Below.heap_alloc _ _ _ hg);have hk8:∀g,g<w7.heap.size->v2.ownBlock≠some g->w8.heap[g]?=w7.heap[g]?:=λg hg hn=>(iK.block g (by simp;omega) (λe=>hn e.symm)).trans (Below.heap_alloc _ _ _ hg);have aL:∀g,(S g\/S' g)->B<=g/\g<w6.heap.size/\v1.ownBlock≠some g/\v2.ownBlock≠some g:=λg hg=>hg.elim (h5 g) (jZ g);have vg:∀g,(S g\/S' g)->w8.heap[g]?=w6.heap[g]?:=λg hg=>by
  obtain⟨_,a2,a3,a4⟩:=aL g hg;exact(hk8 g (by omega) a4).trans (oF g a2 a3)
 have n18:w8.ownsRow B 52 8 vN (ts.length+1) (jI++(tyV t A1 c1++tyV u A2 c2)):=zan n1 (λg hg=>by
  obtain⟨_,hl,cur,aa⟩:=zab n1 g hg;refine hk8 g hl (λe=>?_);obtain⟨_,_,cur2,dR⟩:=zab tz g e;rw[aa]at dR
  injection dR with dR;injection dR with _ ht _;exact absurd ht (by decide))
 refine⟨_,_,by rw[Ap];exact n18,by rw[zgr];exact(TyRow.keep (λ_ h=>.inl h) (λg hg=>vg g (.inl hg)) _ _ h2).two (tn.keep (λ_ h=>.inr h) (λg hg=>vg g (.inr hg))) (tm.keep (λ_ h=>.inr h) (λg hg=>vg g (.inr hg))),
  by rw[Ap];exact n2,by rw[zgr];exact(TyRow.keep (λ_ h=>.inl h) (λg hg=>vg g (.inl hg)) _ _ h4).two (ha3.keep (λ_ h=>.inr h) (λg hg=>vg g (.inr hg))) (ha4.keep (λ_ h=>.inr h) (λg hg=>vg g (.inr hg))),λg hg=>?_⟩
 obtain⟨a1,a2,a3,a4⟩:=aL g hg;refine⟨a1,by omega,?_,?_⟩
 ·rcases hat1 with e|e
  ·rw[e];exact a3
  ·rw[e];intro e';injection e' with e';simp at e';omega
 ·rcases jv with e|e
  ·rw[e];exact a4
  ·rw[e];intro e';injection e' with e';simp at e';omega
end Go.Proofs.YtfafilmklhnngaaGreatDoor
namespace Go.Proofs.YtfafilmklhnngaaGreatDoor
open Go.RowKit Lx Tx Go.Maps Go.WideMaps Go.Shelf
set_option maxRecDepth 100000
theorem ziZ(a:Addr)(i j:Nat):(a.add i).add j=a.add (i+j):=by
 unfold Addr.add;by_cases hi:i=0
 ·subst hi;simp
 ·by_cases hj:j=0
  ·subst hj;simp[hi]
  ·simp[hi,hj,BH]
theorem zp2:(Tryz.prog.info? 52).map (λi=>(i.zero,i.size,i.bytes))=some (some (.agg #[.int .i64 0,.string ⟨#[]⟩,.int .i64 0,.slice none 0 0,.int .i64 0,.string ⟨#[]⟩,.int .i64 0,.slice none 0 0]),8,112):=by kernel_rfl
theorem zp3:(Tryz.prog.info? 54).map (λi=>(i.zero,i.size,i.bytes))=some (some (.agg #[.int .i64 0,.string ⟨#[]⟩,.int .i64 0,.slice none 0 0,.int .i64 0,.string ⟨#[]⟩,.int .i64 0,.slice none 0 0]),8,112):=by kernel_rfl
theorem zj1(ls:List (ByteArray × ByteArray))(A:Option Addr)(cp:Nat)(w:World)(hl:LinesAt w ls A)(hs:∀p∈ls,p.1.size<=maxLen/\p.2.size<=maxLen):Calls Tryz.prog 13 #[.slice A ls.length cp] w (ReadPst ls w):=by
 obtain⟨n,hn⟩:∃n,ls.length=n:=⟨_,rfl⟩;rw[hn]
 have HN:=CS hn;have HL:=CS hl;have HS:=CS hs;obtain⟨i0,bm,bO,bD,bj⟩:=info_parts zp2;obtain⟨j0,jm,uM,jK,ku⟩:=info_parts zp3;clear hl hs hn;by_cases h8:8<n
 ·have HR:Hid (zby ls=none):=CS (by unfold zby;rw[HN.out,Aq h8])
  clear bm bO bD bj jm uM jK ku;go_enter Tryz.func13,Tryz.ntmps13
  go_wp2_with fail
  go_ret3
  exact⟨Below.refl _ _,.inl ⟨HR.out,rfl⟩⟩
 ·go_enter Tryz.func13,Tryz.ntmps13
  go_wp2_with fail
  go_loopg [5,6,7,8] n (λgg v5 v6 v7 vi wr=>LnH ls w n gg v5 v6 v7 vi wr)
  case atStart =>
   refine⟨0,[],0,λ_=>False,rfl,rfl,rfl,AV _,by omega,rfl,rfl,⟨[],[],World.ownsRow_nil _ _ _ _,?_,World.ownsRow_nil _ _ _ _,?_,λg h=>h.elim⟩,Below.refl _ _⟩
   ·show TyRow _ _ [] [];rw[TyRow]
   ·show TyRow _ _ [] [];rw[TyRow]
  case round =>
   obtain⟨i,ts,c,S,rfl,rfl,rfl,hi,hc,pq,aA,hE,hb⟩:=hrel;by_cases ah:i<n
   ·obtain⟨⟨sl,sr⟩,hp⟩:∃p,ls[i]?=some p:=⟨_,Ak (by rw[HN.out];exact ah)⟩
    obtain⟨ad,rfl,hg,eO,bc⟩:=HL.out i _ hp;obtain⟨aF,bk⟩:=HS.out _ (AX hp);have gm:=zmE hp;rw[aA]at gm
    obtain⟨m1,aX⟩:∃m,errN sl.data.toList=m:=⟨_,rfl⟩;obtain⟨m2,cB⟩:∃m,errN sr.data.toList=m:=⟨_,rfl⟩;obtain⟨q1,uS⟩:∃q,(((m1:Nat):Int) != 0)=q:=⟨_,rfl⟩;obtain⟨q2,lQ⟩:∃q,(((m2:Nat):Int) != 0)=q:=⟨_,rfl⟩;obtain⟨q3,sx⟩:∃q,decide ((120:Int)<((sl.size:Nat):Int))=q:=⟨_,rfl⟩;obtain⟨q4,hq4⟩:∃q,decide ((120:Int)<((sr.size:Nat):Int))=q:=⟨_,rfl⟩;have ox:Hid (q1=true\/q2=true\/q3=true\/q4=true->zby ls=none):=CS (λh=>by
     have h0:runR ls=none:=zhH (i:=i+1) (by
      rw[gm]
      refine zmF ?_;rcases h with h|h|h|h
      ·rw[h,<-aX]at uS;exact .inl (by simpa using uS)
      ·rw[h,<-cB]at lQ;exact .inr (.inl (by simpa using lQ))
      ·rw[h]at sx;exact .inr (.inr (.inl (show 120<sl.size by have:=Cj sx;omega)))
      ·rw[h]at hq4;exact .inr (.inr (.inr (show 120<sr.size by have:=Cj hq4;omega))))
     unfold zby;rw[h0]
     split <;> rfl)
    have rV:Hid (q1=false->q2=false->q3=false->q4=false->∃t u,parse sl.data.toList=.ok t/\parse sr.data.toList=.ok u/\runR (ls.take (i+1))=if 24<c+cntN t+cntN u then none else some (ts++[(t,u)],c+cntN t+cntN u)):=CS (λh1 h2 h3 h4=>by
     rw[h1,<-aX]at uS
     rw[h2,<-cB]at lQ
     obtain⟨t,ht⟩:=zhE (by simpa using uS);obtain⟨u,hu⟩:=zhE (by simpa using lQ);exact⟨t,u,ht,hu,gm.trans (ziY ht hu (show ¬120<sl.size by have:=of_decide_eq_false (sx.trans h3);omega) (show ¬120<sr.size by have:=of_decide_eq_false (hq4.trans h4);omega))⟩)
    have P1:=CS (λW=>zhG sl W aF);have P2:=CS (λW=>zhG sr W bk);have P3:=CS (λW=>zfy sl W aF);have P4:=CS (λW=>zfy sr W bk);have dH:=CS aX;have gD:=CS cB;have HE:=CS hE;have HB:=CS hb;have aW:∀k,(ad.add k).block=ad.block:=λk=>by unfold Addr.add;split <;> rfl
    have cw:w.cell? ((ad.add (i*2)).add 1)=some (.string sr):=by rw[ziZ];exact bc
    have HC:Hid (∀W,Below wr.heap.size wr W->W.cell? (ad.add (i*2))=some (.string sl)/\W.cell? ⟨(ad.add (i*2)).block,(ad.add (i*2)).off+1,none⟩=some (.string sr)):=CS (λW hW=>by
     have h0:Below w.heap.size w W:=hb.trans (hW.mono hb.size);exact⟨(h0.cell (p:=ad.add (i*2)) (by rw[aW];exact hg)).trans eO,(h0.cell (p:=(ad.add (i*2)).add 1) (by rw[ziZ,aW];exact hg)).trans cw⟩)
    have vA:=CS pq;obtain⟨e0,e1⟩:=HC.out wr (Below.refl _ _);clear hp eO bc cw aW aF bk gm aX cB hE hb pq aA;go_wp2_with fail
    refine(P1.out _).mono ?_;rintro e w1 ⟨K1,X1,Z1,A1,n1,c1,rfl,b1,r1⟩;rw[dH.out]
    have B1:Hid (Below wr.heap.size wr (w1.alloc (.cells #[.int .i64 K1,.string X1,.int .i64 Z1,.slice A1 n1 c1] 37))):=CS (b1.alloc b1.size _);obtain⟨e0,e1⟩:=HC.out _ B1.out;go_wp2_with fail
    refine(P2.out _).mono ?_;rintro e w2 ⟨K2,X2,Z2,A2,n2,c2,rfl,b2,r2⟩;rw[gD.out]
    have B2:Hid (Below wr.heap.size wr (w2.alloc (.cells #[.int .i64 K2,.string X2,.int .i64 Z2,.slice A2 n2 c2] 37))):=CS ((B1.out.trans (b2.mono B1.out.size)).alloc (AB B1.out.size b2.size) _);obtain⟨e0,e1⟩:=HC.out _ B2.out;go_wp2_with fail
    refine(P3.out _).mono ?_;rintro e w3 ⟨K3,X3,Z3,A3,n3,c3,rfl,b3,r3⟩;rw[dH.out]
    have B3:Hid (Below wr.heap.size wr (w3.alloc (.cells #[.int .i64 K3,.string X3,.int .i64 Z3,.slice A3 n3 c3] 43))):=CS ((B2.out.trans (b3.mono B2.out.size)).alloc (AB B2.out.size b3.size) _);obtain⟨e0,e1⟩:=HC.out _ B3.out;go_wp2_with fail
    refine(P4.out _).mono ?_;rintro e w4 ⟨K4,X4,Z4,A4,n4,c4,rfl,b4,r4⟩;rw[gD.out]
    have B4:Hid (Below wr.heap.size wr (w4.alloc (.cells #[.int .i64 K4,.string X4,.int .i64 Z4,.slice A4 n4 c4] 43))):=CS ((B3.out.trans (b4.mono B3.out.size)).alloc (AB B3.out.size b4.size) _);obtain⟨e0,e1⟩:=HC.out _ B4.out;have f1:=heap_alloc_new w1 (.cells #[.int .i64 K1,.string X1,.int .i64 Z1,.slice A1 n1 c1] 37);have f2:=heap_alloc_new w2 (.cells #[.int .i64 K2,.string X2,.int .i64 Z2,.slice A2 n2 c2] 37);have f3:=heap_alloc_new w3 (.cells #[.int .i64 K3,.string X3,.int .i64 Z3,.slice A3 n3 c3] 43);have f4:=heap_alloc_new w4 (.cells #[.int .i64 K4,.string X4,.int .i64 Z4,.slice A4 n4 c4] 43);go_upto_region 13 with fail
    have y3:=b4.alloc b4.size (.cells #[.int .i64 K4,.string X4,.int .i64 Z4,.slice A4 n4 c4] 43);have x2:=b3.alloc b3.size (.cells #[.int .i64 K3,.string X3,.int .i64 Z3,.slice A3 n3 c3] 43);have x1:=b2.alloc b2.size (.cells #[.int .i64 K2,.string X2,.int .i64 Z2,.slice A2 n2 c2] 37);have y2:=x2.trans (y3.mono x2.size);have y1:=x1.trans (y2.mono x1.size);have p1:Blk _ w1.heap.size 37 #[.int .i64 K1,.string X1,.int .i64 Z1,.slice A1 n1 c1]:=Blk.below f1 y1 (by simp);have p2:Blk _ w2.heap.size 37 #[.int .i64 K2,.string X2,.int .i64 Z2,.slice A2 n2 c2]:=Blk.below f2 y2 (by simp);have p3:Blk _ w3.heap.size 43 #[.int .i64 K3,.string X3,.int .i64 Z3,.slice A3 n3 c3]:=Blk.below f3 y3 (by simp);have p4:Blk _ w4.heap.size 43 #[.int .i64 K4,.string X4,.int .i64 Z4,.slice A4 n4 c4]:=f4;have z1:=b1.size;have z2:w1.heap.size+1<=w2.heap.size:=by have:=b2.size;simpa using this
    have z3:w2.heap.size+1<=w3.heap.size:=by have:=b3.size;simpa using this
    have z4:w3.heap.size+1<=w4.heap.size:=by have:=b4.size;simpa using this
    obtain⟨W4,iN⟩:∃W,w4.alloc (.cells #[.int .i64 K4,.string X4,.int .i64 Z4,.slice A4 n4 c4] 43)=W:=⟨_,rfl⟩;have qN:W4.heap.size=w4.heap.size+1:=by rw[<-iN];simp
    rw[iN]at p1 p2 p3 p4 y1 y2 y3 B4 e0 e1 ⊢
    have R1:Hid (∀t,parse sl.data.toList=.ok t->RdV (λg=>wr.heap.size<=g/\g<W4.heap.size) W4 t (.agg #[.int .i64 K1,.string X1,.int .i64 Z1,.slice A1 n1 c1])):=CS (λt ht=>(r1 t ht).keep (λg hg=>⟨hg.1,by omega⟩) (λg hg=>(y1.block g (by simp;omega)).trans (Below.heap_alloc _ _ _ hg.2)));have R2:Hid (∀t,parse sr.data.toList=.ok t->RdV (λg=>wr.heap.size<=g/\g<W4.heap.size) W4 t (.agg #[.int .i64 K2,.string X2,.int .i64 Z2,.slice A2 n2 c2])):=CS (λt ht=>(r2 t ht).keep (λg hg=>⟨by have:=hg.1;simp at this;omega,by omega⟩) (λg hg=>(y2.block g (by simp;omega)).trans (Below.heap_alloc _ _ _ hg.2)));have R3:Hid (∀t,parse sl.data.toList=.ok t->RdV (λg=>wr.heap.size<=g/\g<W4.heap.size) W4 t (.agg #[.int .i64 K3,.string X3,.int .i64 Z3,.slice A3 n3 c3])):=CS (λt ht=>(r3 t ht).keep (λg hg=>⟨by have:=hg.1;simp at this;omega,by omega⟩) (λg hg=>(y3.block g (by simp;omega)).trans (Below.heap_alloc _ _ _ hg.2)));have R4:Hid (∀t,parse sr.data.toList=.ok t->RdV (λg=>wr.heap.size<=g/\g<W4.heap.size) W4 t (.agg #[.int .i64 K4,.string X4,.int .i64 Z4,.slice A4 n4 c4])):=CS (λt ht=>(r4 t ht).keep (λg hg=>⟨by have:=hg.1;simp at this;omega,by omega⟩) (λg hg=>by rw[<-iN];exact Below.heap_alloc _ _ _ hg.2));have Q1:=CS p1;have Q2:=CS p2;have Q3:=CS p3;have Q4:=CS p4;clear r1 r2 r3 r4 y1 y2 y3 x1 x2 f1 f2 f3 f4 b1 b2 b3 b4 p1 p2 p3 p4 iN qN z1 z2 z3 z4 B1 B2 B3 P1 P2 P3 P4;cases q1 with
    |true =>
     go_wp2_with fail
     go_ret3
     exact⟨HB.out.trans (B4.out.mono HB.out.size),.inl ⟨ox.out (by simp),rfl⟩⟩
    |false =>
     cases q2 with
     |true =>
      go_wp2_with fail
      go_ret3
      exact⟨HB.out.trans (B4.out.mono HB.out.size),.inl ⟨ox.out (by simp),rfl⟩⟩
     |false =>
      cases q3 with
      |true =>
       go_wp2_with fail
       go_ret3
       exact⟨HB.out.trans (B4.out.mono HB.out.size),.inl ⟨ox.out (by simp),rfl⟩⟩
      |false =>
       cases q4 with
       |true =>
        go_wp2_with fail
        go_ret3
        exact⟨HB.out.trans (B4.out.mono HB.out.size),.inl ⟨ox.out (by simp),rfl⟩⟩
       |false =>
        have vH:Hid (∃t u,parse sl.data.toList=.ok t/\parse sr.data.toList=.ok u/\runR (ls.take (i+1))=if 24<c+cntN t+cntN u then none else some (ts++[(t,u)],c+cntN t+cntN u)):=CS (rV.out rfl rfl rfl rfl);clear rV ox;go_upto_region 15 with fail
        obtain⟨t,u,ht,hu,mD⟩:=vH.out;have v1:=R1.out t ht;have v2:=R2.out u hu;have v3:=R3.out t ht;have v4:=R4.out u hu;have st:t.size<=1000000:=by obtain⟨-,-,h1,h2⟩:=zen _ _ ht;omega
        have su:u.size<=1000000:=by obtain⟨-,-,h1,h2⟩:=zen _ _ hu;omega
        have NM1:Hid (∀W,Below W4.heap.size W4 W->Calls Tryz.prog 31 #[.agg #[.int .i64 K3,.string X3,.int .i64 Z3,.slice A3 n3 c3]] W λe w'=>e=.returned (.int .i64 (cntN t:Nat))/\Below W.heap.size W w'):=CS λW hW=>zgp _ t _ _ W (Ai _) st (v3.keep (λ_ h=>h) (λg hg=>hW.block g hg.2)) (λg hg=>As hg.2 hW.size);have NM2:Hid (∀W,Below W4.heap.size W4 W->Calls Tryz.prog 31 #[.agg #[.int .i64 K4,.string X4,.int .i64 Z4,.slice A4 n4 c4]] W λe w'=>e=.returned (.int .i64 (cntN u:Nat))/\Below W.heap.size W w'):=CS λW hW=>zgp _ u _ _ W (Ai _) su (v4.keep (λ_ h=>h) (λg hg=>hW.block g hg.2)) (λg hg=>As hg.2 hW.size);have ct:cntN t<=1000000:=AB (zfM _ t (Ai _)) st;have cu:cntN u<=1000000:=AB (zfM _ u (Ai _)) su;obtain⟨x,hx⟩:∃x,cntN t=x:=⟨_,rfl⟩;obtain⟨y,hy⟩:∃y,cntN u=y:=⟨_,rfl⟩;rw[hx]at NM1 ct mD
        rw[hy]at NM2 cu mD
        have zq:=CS mD;have ck:Hid (∀W:World,Below W4.heap.size W4 W->(λW:World=>W.cell? ⟨w3.heap.size,0,none⟩=some (.int .i64 K3)/\W.cell? ⟨w3.heap.size,1,none⟩=some (.string X3)/\W.cell? ⟨w3.heap.size,2,none⟩=some (.int .i64 Z3)/\W.cell? ⟨w3.heap.size,3,none⟩=some (.slice A3 n3 c3)/\W.cell? ⟨w4.heap.size,0,none⟩=some (.int .i64 K4)/\W.cell? ⟨w4.heap.size,1,none⟩=some (.string X4)/\W.cell? ⟨w4.heap.size,2,none⟩=some (.int .i64 Z4)/\W.cell? ⟨w4.heap.size,3,none⟩=some (.slice A4 n4 c4)) W):=CS λW hW=>by
         have y1:Blk W w3.heap.size 43 #[.int .i64 K3,.string X3,.int .i64 Z3,.slice A3 n3 c3]:=Q3.out.below hW Q3.out.lt;have y2:Blk W w4.heap.size 43 #[.int .i64 K4,.string X4,.int .i64 Z4,.slice A4 n4 c4]:=Q4.out.below hW Q4.out.lt;exact⟨y1.cell 0,y1.cell 1,y1.cell 2,y1.cell 3,y2.cell 0,y2.cell 1,y2.cell 2,y2.cell 3⟩
        have Ah:Hid (Below W4.heap.size W4 W4.drew):=CS (Below.refl _ W4).drew;have V1:=CS v1;have V2:=CS v2;have V3:=CS v3;have V4:=CS v4;clear v1 v2 v3 v4 st su ht hu hx hy mD vH R1 R2 R3 R4 HC e0 e1;go_region_held3 (λW:World=>W.cell? ⟨w3.heap.size,0,none⟩=some (.int .i64 K3)/\W.cell? ⟨w3.heap.size,1,none⟩=some (.string X3)/\W.cell? ⟨w3.heap.size,2,none⟩=some (.int .i64 Z3)/\W.cell? ⟨w3.heap.size,3,none⟩=some (.slice A3 n3 c3)/\W.cell? ⟨w4.heap.size,0,none⟩=some (.int .i64 K4)/\W.cell? ⟨w4.heap.size,1,none⟩=some (.string X4)/\W.cell? ⟨w4.heap.size,2,none⟩=some (.int .i64 Z4)/\W.cell? ⟨w4.heap.size,3,none⟩=some (.slice A4 n4 c4)) (first|(with_reducible exact ck.out _ Ah.out)|(with_reducible exact ck.out _ dv.out)|(with_reducible exact ck.out _ r7.out))
         ((first
          |((with_reducible refine(NM1.out _ Ah.out).mono ?_);rintro e w5 ⟨rfl,b5⟩;have dv:Hid (Below W4.heap.size W4 w5):=CS (Ah.out.trans b5);clear b5)
          |((with_reducible refine(NM2.out _ dv.out).mono ?_);rintro e w6 ⟨rfl,b6⟩;have r7:Hid (Below W4.heap.size W4 w6):=CS (dv.out.trans (b6.mono dv.out.size));clear b6)))
        all_goals
         have h6:Below wr.heap.size wr w6:=B4.out.trans (r7.out.mono B4.out.size);by_cases h24:24<c+x+y
         ·have fo:Hid (zby ls=none):=CS (by
           have h0:runR ls=none:=zhH (i:=i+1) (by rw[zq.out,Aq h24]);unfold zby;rw[h0]
           split <;> rfl)
          have H6:=CS h6;clear h6 Ah dv;go_wp2_with fail
          go_ret3
          exact⟨HB.out.trans (H6.out.mono HB.out.size),.inl ⟨fo.out,rfl⟩⟩
         ·have mD:runR (ls.take (i+1))=some (ts++[(t,u)],c+x+y):=by rw[zq.out,Am h24]
          have hE6:=HE.out.keep h6;obtain⟨jI,kr,o1,o2,o3,o4,o5⟩:=hE6;rw[vA.out]at o1 o3
          have HOB:Hid (∀g,u5.ownBlock=some g\/u6.ownBlock=some g->g<wr.heap.size):=CS (by
           obtain⟨_,_,x1,_,x3,_⟩:=HE.out;exact λg hg=>hg.elim (λh=>(zab x1 g h).2.1) (λh=>(zab x3 g h).2.1))
          have k1:Blk w6 w1.heap.size 37 #[.int .i64 K1,.string X1,.int .i64 Z1,.slice A1 n1 c1]:=Q1.out.below r7.out Q1.out.lt;have k2:Blk w6 w2.heap.size 37 #[.int .i64 K2,.string X2,.int .i64 Z2,.slice A2 n2 c2]:=Q2.out.below r7.out Q2.out.lt;have k3:Blk w6 w3.heap.size 43 #[.int .i64 K3,.string X3,.int .i64 Z3,.slice A3 n3 c3]:=Q3.out.below r7.out Q3.out.lt;have k4:Blk w6 w4.heap.size 43 #[.int .i64 K4,.string X4,.int .i64 Z4,.slice A4 n4 c4]:=Q4.out.below r7.out Q4.out.lt;obtain⟨d0,d1,d2,d3,-⟩:=zaa k1;obtain⟨d4,d5,d6,d7,-⟩:=zaa k2;obtain⟨Aa,ca,rfl⟩:=zam o1;obtain⟨Ab,cb,rfl⟩:=zam o3;have pL:w.heap.size<=w6.heap.size:=AB HB.out.size h6.size;have hk:∀(g:Nat) (cs:Array Value) (ty:TypeId),w6.heap[g]?=some (.cells cs ty (0,0))->ty≠52->∀(o:Obj) (w7:World),(w6.alloc o).grownBy w7 (Value.slice Aa i ca).ownBlock->w7.heap[g]?=w6.heap[g]?:=λg cs ty hg hn o w7 hgr=>by
           have ah:=(Aj.1 hg).1;refine(hgr.block g (by simp;omega) (λe=>?_)).trans (Below.heap_alloc _ _ _ ah);obtain⟨_,_,cur,aa⟩:=zab o1 g e.symm;rw[hg]at aa
           injection aa with aa;injection aa with _ aa _;exact hn aa
          have HK:=CS hk;have K3B:=CS k3;have K4B:=CS k4;have O1:=CS o1;have O2:=CS o2;have O3:=CS o3;have O4:=CS o4;have O5:=CS o5;have H6:=CS h6;have tP:=CS mD;have ug:=CS pL;have HO1:=CS (o1.alloc (.cells #[.int .i64 K1,.string X1,.int .i64 Z1,.slice A1 n1 c1,.int .i64 K2,.string X2,.int .i64 Z2,.slice A2 n2 c2] 52));clear hk k1 k2 k3 k4 o1 o2 o3 o4 o5 h6 mD pL Ah dv ck NM1 NM2 zq Q1 Q2 Q3 Q4 HE;go_upto_region 18 with fail
          go_upto_region 19 with(at_builtin;refine wpList_append_own_at _ rfl (.tmp 95) (.tmp 99) 24 rfl w.heap.size 52 i0 _ 8 112 Tryz.underlying24 bm bO bD bj rfl (by decide) _ i jI rfl HO1.out ⟨w6.heap.size,0,none⟩ 1 1 [.int .i64 K1,.string X1,.int .i64 Z1,.slice A1 n1 c1,.int .i64 K2,.string X2,.int .i64 Z2,.slice A2 n2 c2] rfl rfl (zas _ _ _ _ (by simp)) (by intro z hz;simp at hz;rcases hz with rfl|rfl|rfl|rfl|rfl|rfl|rfl|rfl <;> rfl) (by unfold maxLen;omega) (by omega) (by have:=ug.out;simp;omega) ?_;intro v7 w7 mK ez _ ye;obtain⟨A7,c7,rfl⟩:=zam mK;have k3:=K3B.out.same (HK.out _ _ _ K3B.out (by decide) _ _ ez);have k4:=K4B.out.same (HK.out _ _ _ K4B.out (by decide) _ _ ez);obtain⟨f0,f1,f2,f3,-⟩:=zaa k3;obtain⟨f4,f5,f6,f7,-⟩:=zaa k4;have tz:=zan O3.out (λg hg=>(by obtain⟨_,_,cur,aa⟩:=zab O3.out g hg;exact HK.out g cur _ aa (by decide) _ _ ez));have H37:=CS tz;have cG:=CS (tz.alloc (.cells #[.int .i64 K3,.string X3,.int .i64 Z3,.slice A3 n3 c3,.int .i64 K4,.string X4,.int .i64 Z4,.slice A4 n4 c4] 54));have HS7:Hid (w6.heap.size+1<=w7.heap.size):=CS (by have h:=ez.size;simpa using h);have HG7:=CS ez;have HA7:=CS ye;have HW7:=CS mK;clear mK ez ye k3 k4 tz d0 d1 d2 d3 d4 d5 d6 d7)
          go_wp2_with (at_builtin;refine wpList_append_own_at _ rfl (.tmp 101) (.tmp 105) 25 rfl w.heap.size 54 j0 _ 8 112 Tryz.underlying25 jm uM jK ku rfl (by decide) _ i kr rfl cG.out ⟨w7.heap.size,0,none⟩ 1 1 [.int .i64 K3,.string X3,.int .i64 Z3,.slice A3 n3 c3,.int .i64 K4,.string X4,.int .i64 Z4,.slice A4 n4 c4] rfl rfl (zas _ _ _ _ (by simp)) (by intro z hz;simp at hz;rcases hz with rfl|rfl|rfl|rfl|rfl|rfl|rfl|rfl <;> rfl) (by unfold maxLen;omega) (by omega) (by have:=ug.out;have:=HS7.out;simp;omega) ?_;intro v8 w8 mJ ng _ yd;obtain⟨A8,c8,rfl⟩:=zam mJ;have HG8:=CS ng;have HA8:=CS yd;have HW8:=CS mJ;clear mJ ng yd)
          have zv:Hid (LnH ls w n (n-(i+1)) (.slice A7 (i+1) c7) (.slice A8 (i+1) c8) (.int .i64 ((c+x+y:Nat):Int)) (.int .i64 ((i+1:Nat):Int)) w8):=CS (by
           obtain rfl:=vA.out;obtain⟨g1,a1⟩:=zgs V1.out;obtain⟨g2,a2⟩:=zgs V2.out;obtain⟨g3,a3⟩:=zgs V3.out;obtain⟨g4,a4⟩:=zgs V4.out;have hS6:∀g,(wr.heap.size<=g/\g<W4.heap.size)->w6.heap[g]?=W4.heap[g]?:=λg hg=>r7.out.block g hg.2;have hw7:=HW7.out;have hw8:=HW8.out;rw[show[.int .i64 K1,.string X1,.int .i64 Z1,.slice A1 n1 c1,.int .i64 K2,.string X2,.int .i64 Z2,.slice A2 n2 c2]=tyV t A1 c1++tyV u A2 c2 by rw[g1,g2];rfl]at hw7
           rw[show[.int .i64 K3,.string X3,.int .i64 Z3,.slice A3 n3 c3,.int .i64 K4,.string X4,.int .i64 Z4,.slice A4 n4 c4]=tyV t A3 c3++tyV u A4 c4 by rw[g3,g4];rfl]at hw8
           have tz:=H37.out;have xK:=HG7.out;have pR:=HG8.out;have eZ:=EqsV.snoc (S':=λg=>wr.heap.size<=g/\g<W4.heap.size) O2.out O4.out O5.out (a1.keep (λ_ h=>h) hS6) (a2.keep (λ_ h=>h) hS6) (a3.keep (λ_ h=>h) hS6) (a4.keep (λ_ h=>h) hS6) (λg hg=>by
            have hs:=r7.out.size;have fP:=HB.out.size;refine⟨by omega,by omega,λe=>?_,λe=>?_⟩
            ·have:=HOB.out g (.inl e);omega
            ·have:=HOB.out g (.inr e);omega) xK hw7 HA7.out pR tz hw8 HA8.out
           have h0:Below w.heap.size w w6:=HB.out.trans (H6.out.mono HB.out.size);have dO:=ug.out;have kG:=HS7.out;have ef:Below w.heap.size w w7:=⟨xK.os.trans h0.os,xK.tape.trans h0.tape,xK.output.trans h0.output,by omega,λk hk=>(xK.block k (by simp;omega) (λe=>by have:=(zab HO1.out k e.symm).1;omega)).trans ((Below.heap_alloc _ _ _ (by omega)).trans (h0.block k hk))⟩;have hs8:w7.heap.size+1<=w8.heap.size:=by have h:=pR.size;simpa using h
           have fA:Below w.heap.size w w8:=⟨pR.os.trans ef.os,pR.tape.trans ef.tape,pR.output.trans ef.output,by omega,λk hk=>(pR.block k (by simp;omega) (λe=>by have:=(zab H37.out k e.symm).1;omega)).trans ((Below.heap_alloc _ _ _ (by omega)).trans (ef.block k hk))⟩;exact⟨ts.length+1,ts++[(t,u)],c+x+y,_,rfl,rfl,rfl,by omega,by omega,by rw[Ap];rfl,tP.out,eZ,fA⟩)
          go_roundg (n-(i+1))
          case measure=>omega
          case rel=>exact zv.out
   ·have hr:Hid (zby ls=some ts):=CS (by
     rw[AK (by rw[HN.out];omega)]at aA
     unfold zby;rw[Am (by rw[HN.out];exact h8),aA]
     rfl)
    have HE:=CS hE;have HB:=CS hb;clear hE hb aA;go_wp2_with fail
    go_ret3
    exact⟨HB.out,.inr ⟨ts,_,_,S,hr.out,rfl,HE.out⟩⟩
set_option maxRecDepth 100000
theorem TyRow.at {S:Nat->Prop} {w:World} : {l:List Ty}->{vs:List Value}->TyRow S w l vs->∀(j:Nat)(t:Ty),l[j]?=some t->∃A c,Args S w t A/\∀k,k<4->vs[j*4+k]? =(tyV t A c)[k]?
 |[],_,_,j,t,h=>by simp at h
 |x::r,vs,h,0,t,hj=>by
  rw[TyRow]at h
  obtain⟨A,c,rest,rfl,h2,-⟩:=h;simp at hj;subst hj;refine⟨A,c,h2,λk hk=>?_⟩;rw[Nat.zero_mul,Bo,Bm (show k<4 from hk)]
 |x::r,vs,h,j+1,t,hj=>by
  rw[TyRow]at h
  obtain⟨A,c,rest,rfl,-,h3⟩:=h;obtain⟨A',c',h4,h5⟩:=TyRow.at h3 j t (by simpa using hj);refine⟨A',c',h4,λk hk=>?_⟩;have e:(j+1)*4+k=4+(j*4+k):=by omega
  rw[e,AW (show 4<=4+(j*4+k) by omega)]
  show rest[4+(j*4+k)-4]?=_;rw[Br]
  exact h5 k hk
theorem zi0:(ts:List (Ty × Ty))->∀(i:Nat)(t u:Ty),ts[i]?=some (t,u)->(zck ts)[i*2]?=some t/\(zck ts)[i*2+1]?=some u
 |[],i,t,u,h=>by simp at h
 |p::r,0,t,u,h=>by
  simp at h;subst h;exact⟨rfl,rfl⟩
 |p::r,i+1,t,u,h=>by
  obtain⟨h1,h2⟩:=zi0 r i t u (by simpa using h);have e:zck (p::r)=p.1::p.2::zck r:=rfl;rw[e,show(i+1)*2=i*2+1+1 by omega,Ce,Ce,Ce,Ce]
  exact⟨h1,h2⟩
theorem EqsV.eqsAt {B:Nat} {S:Nat->Prop} {w:World} {ts:List (Ty × Ty)} {A:Option Addr} {m c:Nat} {v2:Value}(h:EqsV B S w ts (.slice A m c) v2):EqsAt S w ts A/\m=ts.length:=by
 obtain⟨jI,kr,h1,h2,-,-,-⟩:=h;have hm:m=ts.length:=by
  obtain⟨a,q,e⟩:=zam h1;injection e
 refine⟨λi t u hi=>?_,hm⟩;obtain⟨f1,f2⟩:=zi0 ts i t u hi;obtain⟨At,ct,g1,g2⟩:=h2.at _ t f1;obtain⟨Au,cu,g3,g4⟩:=h2.at _ u f2;rcases h1.2 with⟨-,h0⟩|⟨g,cap,cur,e,-,hg,-⟩
 ·rw[AD h0]at hi
  cases hi
 ·injection e with e1 _ _
  subst e1;have hc:∀(j:Nat) (x:Value),jI[j]?=some x->w.cell? ⟨g,j,none⟩=some x:=λj x hx=>by
   have au:=h1.cells (g:=g) rfl j x hx;have aW:(⟨g,0,none⟩:Addr).add j=⟨g,j,none⟩:=by unfold Addr.add;split <;> simp_all
   rwa [aW]at au
  refine⟨g,At,ct,Au,cu,rfl,(Aj.1 hg).1,?_,g1,?_,g3⟩
  ·have e:i*8=i*2*4:=by omega
   rw[e]
   exact⟨hc _ _ (g2 0 (by omega)),hc _ _ (g2 1 (by omega)),hc _ _ (g2 2 (by omega)),hc _ _ (g2 3 (by omega))⟩
  ·have e:i*8+4=(i*2+1)*4:=by omega
   rw[e]
   exact⟨hc _ _ (g4 0 (by omega)),hc _ _ (g4 1 (by omega)),hc _ _ (g4 2 (by omega)),hc _ _ (g4 3 (by omega))⟩
end Go.Proofs.YtfafilmklhnngaaGreatDoor
