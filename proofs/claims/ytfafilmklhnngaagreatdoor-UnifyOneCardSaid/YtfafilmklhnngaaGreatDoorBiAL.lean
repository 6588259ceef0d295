import Derived.Test.YtfafilmklhnngaaGreatDoorBiAF
import Derived.Test.YtfafilmklhnngaaGreatDoorBiAK
set_option maxHeartbeats 12800000
namespace Go.Proofs.YtfafilmklhnngaaGreatDoor
open Go.RowKit Lx Tx Go.Maps Go.WideMaps Go.Shelf
set_option maxRecDepth 100000
def errN(s:List UInt8):Nat:=match parse s with
 |.error n=>n
 |.ok _=>0
theorem zev {s:List UInt8}(h:errN s=0):∃t,parse s=.ok t:=by
 cases hp:parse s with
 |ok t=>exact⟨t,rfl⟩
 |error n=>unfold errN at h;rw[hp]at h;exact(zjS hp h).elim
def PA(s:ByteArray)(w:World)(e:Ending)(w':World):Prop :=
 ∃K X Z A m c,e=.returned (.tuple #[.agg #[.int .i64 K,.string X,.int .i64 Z,.slice A m c],.int .i64 (errN s.data.toList:Nat)])/\Below w.heap.size w w' /\
  ∀t,parse s.data.toList=.ok t->RdV (λg=>w.heap.size<=g/\g<w'.heap.size) w' t (.agg #[.int .i64 K,.string X,.int .i64 Z,.slice A m c])
theorem zgS {s:ByteArray} {w:World} {e:Ending} {w':World}(h:PPost s.data.toList w e w'):PA s w e w':=by
 obtain⟨hb,K,X,Z,A,m,c,⟨n,h0,hp,he⟩|⟨u,hp,he,hr⟩⟩:=h
 ·exact⟨K,X,Z,A,m,c,by unfold errN;rw[hp];exact he,hb,λt ht=>by rw[hp]at ht;cases ht⟩
 ·exact⟨K,X,Z,A,m,c,by unfold errN;rw[hp];exact he,hb,λt ht=>by rw[hp]at ht;injection ht with ht;rw[<-ht];exact hr⟩
theorem zew(s:ByteArray)(w:World)(hs:s.size<=maxLen):Calls Tryz.prog 18 #[.string s] w (PA s w):=(zhm s w hs).mono λ_ _ h=>zgS h
theorem ze1(s:ByteArray)(w:World)(hs:s.size<=maxLen):Calls Tryz.prog 19 #[.string s] w (PA s w):=(zjg s w hs).mono λ_ _ h=>zgS h
def zck(o:Option (List (Ty × Ty) × Nat))(p:ByteArray × ByteArray):Option (List (Ty × Ty) × Nat) :=
 match o,parse p.1.data.toList,parse p.2.data.toList with
 |some (ts,c),.ok t,.ok u=>if 120<p.1.size\/120<p.2.size\/24<c+cntN t+cntN u then none else some (ts++[(t,u)],c+cntN t+cntN u)
 |_,_,_=>none
def runR(ls:List (ByteArray × ByteArray)):Option (List (Ty × Ty) × Nat):=ls.foldl zck (some ([],0))
def zbq(ls:List (ByteArray × ByteArray)):Option (List (Ty × Ty)):=if 8<ls.length then none else(runR ls).map (·.1)
theorem zfQ:(ls:List (ByteArray × ByteArray))->ls.foldl zck none=none
 |[]=>rfl
 |p::r=>by rw[List.foldl_cons,show zck none p=none from rfl];exact zfQ r
theorem zlt {ls:List (ByteArray × ByteArray)} {i:Nat} {p:ByteArray × ByteArray}(h:ls[i]?=some p):runR (ls.take (i+1))=zck (runR (ls.take i)) p:=by
 unfold runR;rw[List.take_add_one,h,List.foldl_append]
 rfl
theorem zgT {ls:List (ByteArray × ByteArray)} {i:Nat}(h:runR (ls.take i)=none):runR ls=none:=by
 have:=List.take_append_drop i ls;unfold runR at h ⊢;rw[<-this,List.foldl_append,h,zfQ]
theorem zlu {o:Option (List (Ty × Ty) × Nat)} {p:ByteArray × ByteArray}(h:errN p.1.data.toList≠0\/errN p.2.data.toList≠0\/120<p.1.size\/120<p.2.size):zck o p=none:=by
 unfold zck;unfold errN at h;split
 ·rename_i ts c t u h1 h2
  rw[h1,h2]at h
  rw[if_pos]
  rcases h with h|h|h|h
  ·exact absurd rfl h
  ·exact absurd rfl h
  ·exact .inl h
  ·exact .inr (.inl h)
 ·rfl
theorem zhT {ts:List (Ty × Ty)} {c:Nat} {p:ByteArray × ByteArray} {t u:Ty}(h1:parse p.1.data.toList=.ok t)(h2:parse p.2.data.toList=.ok u)(h3:¬120<p.1.size)(h4:¬120<p.2.size):zck (some (ts,c)) p=if 24<c+cntN t+cntN u then none else some (ts++[(t,u)],c+cntN t+cntN u):=by
 unfold zck;rw[h1,h2]
 simp only[h3,h4,false_or]
def zb8(ts:List (Ty × Ty)):List Ty:=ts.flatMap λp=>[p.1,p.2]
theorem zfR(ts:List (Ty × Ty))(t u:Ty):zb8 (ts++[(t,u)])=zb8 ts++[t,u]:=by unfold zb8;rw[List.flatMap_append];rfl
def LinesAt(w:World)(ls:List (ByteArray × ByteArray))(A:Option Addr):Prop :=
 ∀(i:Nat) (p:ByteArray × ByteArray),ls[i]?=some p->∃a:Addr,A=some a/\a.block<w.heap.size/\w.cell? (a.add (i*2))=some (.string p.1)/\w.cell? (a.add (i*2+1))=some (.string p.2)
def EqsV(B:Nat)(S:Nat->Prop)(w:World)(ts:List (Ty × Ty))(v1 v2:Value):Prop :=
 ∃vs1 vs2,w.ownsRow B 52 8 v1 ts.length vs1/\TyRow S w (zb8 ts) vs1/\w.ownsRow B 54 8 v2 ts.length vs2/\TyRow S w (zb8 ts) vs2/\∀g,S g->B<=g/\g<w.heap.size/\v1.ownBlock≠some g/\v2.ownBlock≠some g
def ReadPst(ls:List (ByteArray × ByteArray))(w:World)(e:Ending)(w':World):Prop :=
 Below w.heap.size w w'/\((zbq ls=none/\e=.returned (.tuple #[.slice none 0 0,.slice none 0 0,.bool false])) \/
  ∃ts v1 v2 S,zbq ls=some ts/\e=.returned (.tuple #[v1,v2,.bool true])/\EqsV w.heap.size S w' ts v1 v2)
def LnH(ls:List (ByteArray × ByteArray))(w:World)(n gg:Nat)(v5 v6 v7 vi:Value)(wr:World):Prop :=
 ∃i ts c S,gg=n-i/\vi=.int .i64 (i:Nat)/\v7=.int .i64 (c:Nat)/\i<=n/\c<=24/\ts.length=i/\runR (ls.take i)=some (ts,c)/\EqsV w.heap.size S wr ts v5 v6/\Below w.heap.size w wr
theorem EqsV.keep {B:Nat} {S:Nat->Prop} {w w':World} {ts:List (Ty × Ty)} {v1 v2:Value}(h:EqsV B S w ts v1 v2)(hb:Below w.heap.size w w'):EqsV B S w' ts v1 v2:=by
 obtain⟨vs1,vs2,h1,h2,h3,h4,h5⟩:=h;exact⟨vs1,vs2,zal h1 (λg hg=>hb.block g (zab h1 g hg).2.1),TyRow.keep (λ_ h=>h) (λg hg=>hb.block g (h5 g hg).2.1) _ _ h2,zal h3 (λg hg=>hb.block g (zab h3 g hg).2.1),TyRow.keep (λ_ h=>h) (λg hg=>hb.block g (h5 g hg).2.1) _ _ h4,
  λg hg=>⟨(h5 g hg).1,Nat.lt_of_lt_of_le (h5 g hg).2.1 hb.size,(h5 g hg).2.2⟩⟩
theorem TyRow.two {S:Nat->Prop} {w:World} {l:List Ty} {vs:List Value} {t u:Ty} {A A':Option Addr} {c c':Nat}(h:TyRow S w l vs)(h1:Args S w t A)(h2:Args S w u A'):TyRow S w (l++[t,u]) (vs++(tyV t A c++tyV u A' c')):=by
 induction l generalizing vs with
 |nil =>
  rw[TyRow]at h
  subst h;rw[List.nil_append,List.nil_append,TyRow]
  exact⟨A,c,_,rfl,h1,by rw[TyRow];exact⟨A',c',[],(List.append_nil _).symm,h2,by rw[TyRow]⟩⟩
 |cons x r ih =>
  rw[TyRow]at h
  obtain⟨Ax,cx,rest,rfl,g1,g2⟩:=h;rw[List.cons_append,TyRow]
  exact⟨Ax,cx,_,by rw[List.append_assoc],g1,ih g2⟩
theorem zfS {S:Nat->Prop} {w:World} {t:Ty} {K:Int} {X:ByteArray} {Z:Int} {A:Option Addr} {m c:Nat}(h:RdV S w t (.agg #[.int .i64 K,.string X,.int .i64 Z,.slice A m c])):tyV t A c=[.int .i64 K,.string X,.int .i64 Z,.slice A m c]/\Args S w t A:=by
 obtain⟨A',c',he,ha⟩:=h;simp at he;obtain⟨rfl,rfl,rfl,rfl,rfl,rfl⟩:=he;exact⟨rfl,ha⟩
theorem EqsV.snoc {B:Nat} {S S':Nat->Prop} {w6 w7 w8:World} {ts:List (Ty × Ty)} {v1 v2 v1' v2':Value} {t u:Ty} {A1 A2 A3 A4:Option Addr} {c1 c2 c3 c4:Nat} {o1 o2:Obj} {vs1 vs2:List Value}(h2:TyRow S w6 (zb8 ts) vs1)(h4:TyRow S w6 (zb8 ts) vs2)(h5:∀g,S g->B<=g/\g<w6.heap.size/\v1.ownBlock≠some g/\v2.ownBlock≠some g)
  (ha1:Args S' w6 t A1)(ha2:Args S' w6 u A2)(ha3:Args S' w6 t A3)(ha4:Args S' w6 u A4)(hS':∀g,S' g->B<=g/\g<w6.heap.size/\v1.ownBlock≠some g/\v2.ownBlock≠some g)
  (hg1:(w6.alloc o1).grownBy w7 v1.ownBlock)(n1:w7.ownsRow B 52 8 v1' (ts.length+1) (vs1++(tyV t A1 c1++tyV u A2 c2)))(hat1:v1'.ownBlock=v1.ownBlock\/v1'.ownBlock=some (w6.alloc o1).heap.size)
  (hg2:(w7.alloc o2).grownBy w8 v2.ownBlock)(h37:w7.ownsRow B 54 8 v2 ts.length vs2)(n2:w8.ownsRow B 54 8 v2' (ts.length+1) (vs2++(tyV t A3 c3++tyV u A4 c4)))(hat2:v2'.ownBlock=v2.ownBlock\/v2'.ownBlock=some (w7.alloc o2).heap.size):EqsV B (λg=>S g\/S' g) w8 (ts++[(t,u)]) v1' v2':=by
 have hs7:w6.heap.size+1<=w7.heap.size:=by have:=hg1.size;simpa using this
 have hs8:w7.heap.size+1<=w8.heap.size:=by have:=hg2.size;simpa using this
 have hk7:∀g,g<w6.heap.size->v1.ownBlock≠some g->w7.heap[g]?=w6.heap[g]?:=λg hg hn=>(hg1.block g (by simp;omega) (λe=>hn e.symm)).trans (Below.heap_alloc _ _ _ hg);have hk8:∀g,g<w7.heap.size->v2.ownBlock≠some g->w8.heap[g]?=w7.heap[g]?:=λg hg hn=>(hg2.block g (by simp;omega) (λe=>hn e.symm)).trans (Below.heap_alloc _ _ _ hg);have hall:∀g,(S g\/S' g)->B<=g/\g<w6.heap.size/\v1.ownBlock≠some g/\v2.ownBlock≠some g:=λg hg=>hg.elim (h5 g) (hS' g);have hSk:∀g,(S g\/S' g)->w8.heap[g]?=w6.heap[g]?:=λg hg=>by
  obtain⟨_,a2,a3,a4⟩:=hall g hg;exact(hk8 g (by omega) a4).trans (hk7 g a2 a3)
 have n18:w8.ownsRow B 52 8 v1' (ts.length+1) (vs1++(tyV t A1 c1++tyV u A2 c2)):=zal n1 (λg hg=>by
  obtain⟨_,hl,cur,hcur⟩:=zab n1 g hg;refine hk8 g hl (λe=>?_);obtain⟨_,_,cur2,hcur2⟩:=zab h37 g e;rw[hcur]at hcur2
  injection hcur2 with hcur2;injection hcur2 with _ ht _;exact absurd ht (by decide))
 refine⟨_,_,by rw[List.length_append];exact n18,by rw[zfR];exact(TyRow.keep (λ_ h=>.inl h) (λg hg=>hSk g (.inl hg)) _ _ h2).two (ha1.keep (λ_ h=>.inr h) (λg hg=>hSk g (.inr hg))) (ha2.keep (λ_ h=>.inr h) (λg hg=>hSk g (.inr hg))),
  by rw[List.length_append];exact n2,by rw[zfR];exact(TyRow.keep (λ_ h=>.inl h) (λg hg=>hSk g (.inl hg)) _ _ h4).two (ha3.keep (λ_ h=>.inr h) (λg hg=>hSk g (.inr hg))) (ha4.keep (λ_ h=>.inr h) (λg hg=>hSk g (.inr hg))),λg hg=>?_⟩
 obtain⟨a1,a2,a3,a4⟩:=hall g hg;refine⟨a1,by omega,?_,?_⟩
 ·rcases hat1 with e|e
  ·rw[e];exact a3
  ·rw[e];intro e';injection e' with e';simp at e';omega
 ·rcases hat2 with e|e
  ·rw[e];exact a4
  ·rw[e];intro e';injection e' with e';simp at e';omega
end Go.Proofs.YtfafilmklhnngaaGreatDoor
namespace Go.Proofs.YtfafilmklhnngaaGreatDoor
open Go.RowKit Lx Tx Go.Maps Go.WideMaps Go.Shelf
set_option maxRecDepth 100000
theorem zhU(a:Addr)(i j:Nat):(a.add i).add j=a.add (i+j):=by
 unfold Addr.add;by_cases hi:i=0
 ·subst hi;simp
 ·by_cases hj:j=0
  ·subst hj;simp[hi]
  ·simp[hi,hj,Nat.add_assoc]
theorem zoQ:(Tryz.prog.info? 52).map (λi=>(i.zero,i.size,i.bytes))=some (some (.agg #[.int .i64 0,.string ⟨#[]⟩,.int .i64 0,.slice none 0 0,.int .i64 0,.string ⟨#[]⟩,.int .i64 0,.slice none 0 0]),8,112):=by kernel_rfl
theorem zoR:(Tryz.prog.info? 54).map (λi=>(i.zero,i.size,i.bytes))=some (some (.agg #[.int .i64 0,.string ⟨#[]⟩,.int .i64 0,.slice none 0 0,.int .i64 0,.string ⟨#[]⟩,.int .i64 0,.slice none 0 0]),8,112):=by kernel_rfl
theorem zoj(ls:List (ByteArray × ByteArray))(A:Option Addr)(cp:Nat)(w:World)(hl:LinesAt w ls A)(hs:∀p∈ls,p.1.size<=maxLen/\p.2.size<=maxLen):Calls Tryz.prog 13 #[.slice A ls.length cp] w (ReadPst ls w):=by
 obtain⟨n,hn⟩:∃n,ls.length=n:=⟨_,rfl⟩;rw[hn]
 have HN:=hidE hn;have HL:=hidE hl;have HS:=hidE hs;obtain⟨i0,hi0,hz0,hz1,hz2⟩:=info_parts zoQ;obtain⟨j0,hj0,hy0,hy1,hy2⟩:=info_parts zoR;clear hl hs hn;by_cases h8:8<n
 ·have HR:Hid (zbq ls=none):=hidE (by unfold zbq;rw[HN.out,if_pos h8])
  clear hi0 hz0 hz1 hz2 hj0 hy0 hy1 hy2;go_enter Tryz.func13,Tryz.ntmps13
  go_wp2_with fail
  go_ret3
  exact⟨Below.refl _ _,.inl ⟨HR.out,rfl⟩⟩
 ·go_enter Tryz.func13,Tryz.ntmps13
  go_wp2_with fail
  go_loopg [5,6,7,8] n (λgg v5 v6 v7 vi wr=>LnH ls w n gg v5 v6 v7 vi wr)
  case atStart =>
   refine⟨0,[],0,λ_=>False,rfl,rfl,rfl,Nat.zero_le _,by omega,rfl,rfl,⟨[],[],World.ownsRow_nil _ _ _ _,?_,World.ownsRow_nil _ _ _ _,?_,λg h=>h.elim⟩,Below.refl _ _⟩
   ·show TyRow _ _ [] [];rw[TyRow]
   ·show TyRow _ _ [] [];rw[TyRow]
  case round =>
   obtain⟨i,ts,c,S,rfl,rfl,rfl,hi,hc,htl,hrun,hE,hb⟩:=hrel;by_cases hlt:i<n
   ·obtain⟨⟨sl,sr⟩,hp⟩:∃p,ls[i]?=some p:=⟨_,List.getElem?_eq_getElem (by rw[HN.out];exact hlt)⟩
    obtain⟨ad,rfl,hg,hc0,hc1⟩:=HL.out i _ hp;obtain⟨hs1,hs2⟩:=HS.out _ (List.mem_of_getElem? hp);have hsn:=zlt hp;rw[hrun]at hsn
    obtain⟨m1,hm1⟩:∃m,errN sl.data.toList=m:=⟨_,rfl⟩;obtain⟨m2,hm2⟩:∃m,errN sr.data.toList=m:=⟨_,rfl⟩;obtain⟨q1,hq1⟩:∃q,(((m1:Nat):Int) != 0)=q:=⟨_,rfl⟩;obtain⟨q2,hq2⟩:∃q,(((m2:Nat):Int) != 0)=q:=⟨_,rfl⟩;obtain⟨q3,hq3⟩:∃q,decide ((120:Int)<((sl.size:Nat):Int))=q:=⟨_,rfl⟩;obtain⟨q4,hq4⟩:∃q,decide ((120:Int)<((sr.size:Nat):Int))=q:=⟨_,rfl⟩;have HBAD:Hid (q1=true\/q2=true\/q3=true\/q4=true->zbq ls=none):=hidE (λh=>by
     have h0:runR ls=none:=zgT (i:=i+1) (by
      rw[hsn]
      refine zlu ?_;rcases h with h|h|h|h
      ·rw[h,<-hm1]at hq1;exact .inl (by simpa using hq1)
      ·rw[h,<-hm2]at hq2;exact .inr (.inl (by simpa using hq2))
      ·rw[h]at hq3;exact .inr (.inr (.inl (show 120<sl.size by have:=of_decide_eq_true hq3;omega)))
      ·rw[h]at hq4;exact .inr (.inr (.inr (show 120<sr.size by have:=of_decide_eq_true hq4;omega))))
     unfold zbq;rw[h0]
     split <;> rfl)
    have HGOOD:Hid (q1=false->q2=false->q3=false->q4=false->∃t u,parse sl.data.toList=.ok t/\parse sr.data.toList=.ok u/\runR (ls.take (i+1))=if 24<c+cntN t+cntN u then none else some (ts++[(t,u)],c+cntN t+cntN u)):=hidE (λh1 h2 h3 h4=>by
     rw[h1,<-hm1]at hq1
     rw[h2,<-hm2]at hq2
     obtain⟨t,ht⟩:=zev (by simpa using hq1);obtain⟨u,hu⟩:=zev (by simpa using hq2);exact⟨t,u,ht,hu,hsn.trans (zhT ht hu (show ¬120<sl.size by have:=of_decide_eq_false (hq3.trans h3);omega) (show ¬120<sr.size by have:=of_decide_eq_false (hq4.trans h4);omega))⟩)
    have P1:=hidE (λW=>zew sl W hs1);have P2:=hidE (λW=>zew sr W hs2);have P3:=hidE (λW=>ze1 sl W hs1);have P4:=hidE (λW=>ze1 sr W hs2);have HM1:=hidE hm1;have HM2:=hidE hm2;have HE:=hidE hE;have HB:=hidE hb;have hadd:∀k,(ad.add k).block=ad.block:=λk=>by unfold Addr.add;split <;> rfl
    have hc2:w.cell? ((ad.add (i*2)).add 1)=some (.string sr):=by rw[zhU];exact hc1
    have HC:Hid (∀W,Below wr.heap.size wr W->W.cell? (ad.add (i*2))=some (.string sl)/\W.cell? ⟨(ad.add (i*2)).block,(ad.add (i*2)).off+1,none⟩=some (.string sr)):=hidE (λW hW=>by
     have h0:Below w.heap.size w W:=hb.trans (hW.mono hb.size);exact⟨(h0.cell (p:=ad.add (i*2)) (by rw[hadd];exact hg)).trans hc0,(h0.cell (p:=(ad.add (i*2)).add 1) (by rw[zhU,hadd];exact hg)).trans hc2⟩)
    have HTL:=hidE htl;obtain⟨e0,e1⟩:=HC.out wr (Below.refl _ _);clear hp hc0 hc1 hc2 hadd hs1 hs2 hsn hm1 hm2 hE hb htl hrun;go_wp2_with fail
    refine(P1.out _).mono ?_;rintro e w1 ⟨K1,X1,Z1,A1,n1,c1,rfl,b1,r1⟩;rw[HM1.out]
    have B1:Hid (Below wr.heap.size wr (w1.alloc (.cells #[.int .i64 K1,.string X1,.int .i64 Z1,.slice A1 n1 c1] 37))):=hidE (b1.alloc b1.size _);obtain⟨e0,e1⟩:=HC.out _ B1.out;go_wp2_with fail
    refine(P2.out _).mono ?_;rintro e w2 ⟨K2,X2,Z2,A2,n2,c2,rfl,b2,r2⟩;rw[HM2.out]
    have B2:Hid (Below wr.heap.size wr (w2.alloc (.cells #[.int .i64 K2,.string X2,.int .i64 Z2,.slice A2 n2 c2] 37))):=hidE ((B1.out.trans (b2.mono B1.out.size)).alloc (Nat.le_trans B1.out.size b2.size) _);obtain⟨e0,e1⟩:=HC.out _ B2.out;go_wp2_with fail
    refine(P3.out _).mono ?_;rintro e w3 ⟨K3,X3,Z3,A3,n3,c3,rfl,b3,r3⟩;rw[HM1.out]
    have B3:Hid (Below wr.heap.size wr (w3.alloc (.cells #[.int .i64 K3,.string X3,.int .i64 Z3,.slice A3 n3 c3] 43))):=hidE ((B2.out.trans (b3.mono B2.out.size)).alloc (Nat.le_trans B2.out.size b3.size) _);obtain⟨e0,e1⟩:=HC.out _ B3.out;go_wp2_with fail
    refine(P4.out _).mono ?_;rintro e w4 ⟨K4,X4,Z4,A4,n4,c4,rfl,b4,r4⟩;rw[HM2.out]
    have B4:Hid (Below wr.heap.size wr (w4.alloc (.cells #[.int .i64 K4,.string X4,.int .i64 Z4,.slice A4 n4 c4] 43))):=hidE ((B3.out.trans (b4.mono B3.out.size)).alloc (Nat.le_trans B3.out.size b4.size) _);obtain⟨e0,e1⟩:=HC.out _ B4.out;have f1:=heap_alloc_new w1 (.cells #[.int .i64 K1,.string X1,.int .i64 Z1,.slice A1 n1 c1] 37);have f2:=heap_alloc_new w2 (.cells #[.int .i64 K2,.string X2,.int .i64 Z2,.slice A2 n2 c2] 37);have f3:=heap_alloc_new w3 (.cells #[.int .i64 K3,.string X3,.int .i64 Z3,.slice A3 n3 c3] 43);have f4:=heap_alloc_new w4 (.cells #[.int .i64 K4,.string X4,.int .i64 Z4,.slice A4 n4 c4] 43);go_upto_region 13 with fail
    have y3:=b4.alloc b4.size (.cells #[.int .i64 K4,.string X4,.int .i64 Z4,.slice A4 n4 c4] 43);have x2:=b3.alloc b3.size (.cells #[.int .i64 K3,.string X3,.int .i64 Z3,.slice A3 n3 c3] 43);have x1:=b2.alloc b2.size (.cells #[.int .i64 K2,.string X2,.int .i64 Z2,.slice A2 n2 c2] 37);have y2:=x2.trans (y3.mono x2.size);have y1:=x1.trans (y2.mono x1.size);have p1:Blk _ w1.heap.size 37 #[.int .i64 K1,.string X1,.int .i64 Z1,.slice A1 n1 c1]:=Blk.below f1 y1 (by simp);have p2:Blk _ w2.heap.size 37 #[.int .i64 K2,.string X2,.int .i64 Z2,.slice A2 n2 c2]:=Blk.below f2 y2 (by simp);have p3:Blk _ w3.heap.size 43 #[.int .i64 K3,.string X3,.int .i64 Z3,.slice A3 n3 c3]:=Blk.below f3 y3 (by simp);have p4:Blk _ w4.heap.size 43 #[.int .i64 K4,.string X4,.int .i64 Z4,.slice A4 n4 c4]:=f4;have z1:=b1.size;have z2:w1.heap.size+1<=w2.heap.size:=by have:=b2.size;simpa using this
    have z3:w2.heap.size+1<=w3.heap.size:=by have:=b3.size;simpa using this
    have z4:w3.heap.size+1<=w4.heap.size:=by have:=b4.size;simpa using this
    obtain⟨W4,hW4⟩:∃W,w4.alloc (.cells #[.int .i64 K4,.string X4,.int .i64 Z4,.slice A4 n4 c4] 43)=W:=⟨_,rfl⟩;have hsW:W4.heap.size=w4.heap.size+1:=by rw[<-hW4];simp
    rw[hW4]at p1 p2 p3 p4 y1 y2 y3 B4 e0 e1 ⊢
    have R1:Hid (∀t,parse sl.data.toList=.ok t->RdV (λg=>wr.heap.size<=g/\g<W4.heap.size) W4 t (.agg #[.int .i64 K1,.string X1,.int .i64 Z1,.slice A1 n1 c1])):=hidE (λt ht=>(r1 t ht).keep (λg hg=>⟨hg.1,by omega⟩) (λg hg=>(y1.block g (by simp;omega)).trans (Below.heap_alloc _ _ _ hg.2)));have R2:Hid (∀t,parse sr.data.toList=.ok t->RdV (λg=>wr.heap.size<=g/\g<W4.heap.size) W4 t (.agg #[.int .i64 K2,.string X2,.int .i64 Z2,.slice A2 n2 c2])):=hidE (λt ht=>(r2 t ht).keep (λg hg=>⟨by have:=hg.1;simp at this;omega,by omega⟩) (λg hg=>(y2.block g (by simp;omega)).trans (Below.heap_alloc _ _ _ hg.2)));have R3:Hid (∀t,parse sl.data.toList=.ok t->RdV (λg=>wr.heap.size<=g/\g<W4.heap.size) W4 t (.agg #[.int .i64 K3,.string X3,.int .i64 Z3,.slice A3 n3 c3])):=hidE (λt ht=>(r3 t ht).keep (λg hg=>⟨by have:=hg.1;simp at this;omega,by omega⟩) (λg hg=>(y3.block g (by simp;omega)).trans (Below.heap_alloc _ _ _ hg.2)));have R4:Hid (∀t,parse sr.data.toList=.ok t->RdV (λg=>wr.heap.size<=g/\g<W4.heap.size) W4 t (.agg #[.int .i64 K4,.string X4,.int .i64 Z4,.slice A4 n4 c4])):=hidE (λt ht=>(r4 t ht).keep (λg hg=>⟨by have:=hg.1;simp at this;omega,by omega⟩) (λg hg=>by rw[<-hW4];exact Below.heap_alloc _ _ _ hg.2));have Q1:=hidE p1;have Q2:=hidE p2;have Q3:=hidE p3;have Q4:=hidE p4;clear r1 r2 r3 r4 y1 y2 y3 x1 x2 f1 f2 f3 f4 b1 b2 b3 b4 p1 p2 p3 p4 hW4 hsW z1 z2 z3 z4 B1 B2 B3 P1 P2 P3 P4;cases q1 with
    |true =>
     go_wp2_with fail
     go_ret3
     exact⟨HB.out.trans (B4.out.mono HB.out.size),.inl ⟨HBAD.out (by simp),rfl⟩⟩
    |false =>
     cases q2 with
     |true =>
      go_wp2_with fail
      go_ret3
      exact⟨HB.out.trans (B4.out.mono HB.out.size),.inl ⟨HBAD.out (by simp),rfl⟩⟩
     |false =>
      cases q3 with
      |true =>
       go_wp2_with fail
       go_ret3
       exact⟨HB.out.trans (B4.out.mono HB.out.size),.inl ⟨HBAD.out (by simp),rfl⟩⟩
      |false =>
       cases q4 with
       |true =>
        go_wp2_with fail
        go_ret3
        exact⟨HB.out.trans (B4.out.mono HB.out.size),.inl ⟨HBAD.out (by simp),rfl⟩⟩
       |false =>
        have HG2:Hid (∃t u,parse sl.data.toList=.ok t/\parse sr.data.toList=.ok u/\runR (ls.take (i+1))=if 24<c+cntN t+cntN u then none else some (ts++[(t,u)],c+cntN t+cntN u)):=hidE (HGOOD.out rfl rfl rfl rfl);clear HGOOD HBAD;go_upto_region 15 with fail
        obtain⟨t,u,ht,hu,hrn⟩:=HG2.out;have v1:=R1.out t ht;have v2:=R2.out u hu;have v3:=R3.out t ht;have v4:=R4.out u hu;have st:t.size<=1000000:=by obtain⟨-,-,h1,h2⟩:=zcY _ _ ht;omega
        have su:u.size<=1000000:=by obtain⟨-,-,h1,h2⟩:=zcY _ _ hu;omega
        have NM1:Hid (∀W,Below W4.heap.size W4 W->Calls Tryz.prog 31 #[.agg #[.int .i64 K3,.string X3,.int .i64 Z3,.slice A3 n3 c3]] W λe w'=>e=.returned (.int .i64 (cntN t:Nat))/\Below W.heap.size W w'):=hidE λW hW=>zfP _ t _ _ W (Nat.le_refl _) st (v3.keep (λ_ h=>h) (λg hg=>hW.block g hg.2)) (λg hg=>Nat.lt_of_lt_of_le hg.2 hW.size);have NM2:Hid (∀W,Below W4.heap.size W4 W->Calls Tryz.prog 31 #[.agg #[.int .i64 K4,.string X4,.int .i64 Z4,.slice A4 n4 c4]] W λe w'=>e=.returned (.int .i64 (cntN u:Nat))/\Below W.heap.size W w'):=hidE λW hW=>zfP _ u _ _ W (Nat.le_refl _) su (v4.keep (λ_ h=>h) (λg hg=>hW.block g hg.2)) (λg hg=>Nat.lt_of_lt_of_le hg.2 hW.size);have ct:cntN t<=1000000:=Nat.le_trans (zfb _ t (Nat.le_refl _)) st;have cu:cntN u<=1000000:=Nat.le_trans (zfb _ u (Nat.le_refl _)) su;obtain⟨x,hx⟩:∃x,cntN t=x:=⟨_,rfl⟩;obtain⟨y,hy⟩:∃y,cntN u=y:=⟨_,rfl⟩;rw[hx]at NM1 ct hrn
        rw[hy]at NM2 cu hrn
        have HRN:=hidE hrn;have SOF:Hid (∀W:World,Below W4.heap.size W4 W->(λW:World=>W.cell? ⟨w3.heap.size,0,none⟩=some (.int .i64 K3)/\W.cell? ⟨w3.heap.size,1,none⟩=some (.string X3)/\W.cell? ⟨w3.heap.size,2,none⟩=some (.int .i64 Z3)/\W.cell? ⟨w3.heap.size,3,none⟩=some (.slice A3 n3 c3)/\W.cell? ⟨w4.heap.size,0,none⟩=some (.int .i64 K4)/\W.cell? ⟨w4.heap.size,1,none⟩=some (.string X4)/\W.cell? ⟨w4.heap.size,2,none⟩=some (.int .i64 Z4)/\W.cell? ⟨w4.heap.size,3,none⟩=some (.slice A4 n4 c4)) W):=hidE λW hW=>by
         have y1:Blk W w3.heap.size 43 #[.int .i64 K3,.string X3,.int .i64 Z3,.slice A3 n3 c3]:=Q3.out.below hW Q3.out.lt;have y2:Blk W w4.heap.size 43 #[.int .i64 K4,.string X4,.int .i64 Z4,.slice A4 n4 c4]:=Q4.out.below hW Q4.out.lt;exact⟨y1.cell 0,y1.cell 1,y1.cell 2,y1.cell 3,y2.cell 0,y2.cell 1,y2.cell 2,y2.cell 3⟩
        have BB0:Hid (Below W4.heap.size W4 W4.drew):=hidE (Below.refl _ W4).drew;have V1:=hidE v1;have V2:=hidE v2;have V3:=hidE v3;have V4:=hidE v4;clear v1 v2 v3 v4 st su ht hu hx hy hrn HG2 R1 R2 R3 R4 HC e0 e1;go_region_held3 (λW:World=>W.cell? ⟨w3.heap.size,0,none⟩=some (.int .i64 K3)/\W.cell? ⟨w3.heap.size,1,none⟩=some (.string X3)/\W.cell? ⟨w3.heap.size,2,none⟩=some (.int .i64 Z3)/\W.cell? ⟨w3.heap.size,3,none⟩=some (.slice A3 n3 c3)/\W.cell? ⟨w4.heap.size,0,none⟩=some (.int .i64 K4)/\W.cell? ⟨w4.heap.size,1,none⟩=some (.string X4)/\W.cell? ⟨w4.heap.size,2,none⟩=some (.int .i64 Z4)/\W.cell? ⟨w4.heap.size,3,none⟩=some (.slice A4 n4 c4)) (first|(with_reducible exact SOF.out _ BB0.out)|(with_reducible exact SOF.out _ BB1.out)|(with_reducible exact SOF.out _ BB2.out))
         ((first
          |((with_reducible refine(NM1.out _ BB0.out).mono ?_);rintro e w5 ⟨rfl,b5⟩;have BB1:Hid (Below W4.heap.size W4 w5):=hidE (BB0.out.trans b5);clear b5)
          |((with_reducible refine(NM2.out _ BB1.out).mono ?_);rintro e w6 ⟨rfl,b6⟩;have BB2:Hid (Below W4.heap.size W4 w6):=hidE (BB1.out.trans (b6.mono BB1.out.size));clear b6)))
        all_goals
         have h6:Below wr.heap.size wr w6:=B4.out.trans (BB2.out.mono B4.out.size);by_cases h24:24<c+x+y
         ·have HNO:Hid (zbq ls=none):=hidE (by
           have h0:runR ls=none:=zgT (i:=i+1) (by rw[HRN.out,if_pos h24]);unfold zbq;rw[h0]
           split <;> rfl)
          have H6:=hidE h6;clear h6 BB0 BB1;go_wp2_with fail
          go_ret3
          exact⟨HB.out.trans (H6.out.mono HB.out.size),.inl ⟨HNO.out,rfl⟩⟩
         ·have hrn:runR (ls.take (i+1))=some (ts++[(t,u)],c+x+y):=by rw[HRN.out,if_neg h24]
          have hE6:=HE.out.keep h6;obtain⟨vs1,vs2,o1,o2,o3,o4,o5⟩:=hE6;rw[HTL.out]at o1 o3
          have HOB:Hid (∀g,u5.ownBlock=some g\/u6.ownBlock=some g->g<wr.heap.size):=hidE (by
           obtain⟨_,_,x1,_,x3,_⟩:=HE.out;exact λg hg=>hg.elim (λh=>(zab x1 g h).2.1) (λh=>(zab x3 g h).2.1))
          have k1:Blk w6 w1.heap.size 37 #[.int .i64 K1,.string X1,.int .i64 Z1,.slice A1 n1 c1]:=Q1.out.below BB2.out Q1.out.lt;have k2:Blk w6 w2.heap.size 37 #[.int .i64 K2,.string X2,.int .i64 Z2,.slice A2 n2 c2]:=Q2.out.below BB2.out Q2.out.lt;have k3:Blk w6 w3.heap.size 43 #[.int .i64 K3,.string X3,.int .i64 Z3,.slice A3 n3 c3]:=Q3.out.below BB2.out Q3.out.lt;have k4:Blk w6 w4.heap.size 43 #[.int .i64 K4,.string X4,.int .i64 Z4,.slice A4 n4 c4]:=Q4.out.below BB2.out Q4.out.lt;obtain⟨d0,d1,d2,d3,-⟩:=zaa k1;obtain⟨d4,d5,d6,d7,-⟩:=zaa k2;obtain⟨Aa,ca,rfl⟩:=zao o1;obtain⟨Ab,cb,rfl⟩:=zao o3;have hlo:w.heap.size<=w6.heap.size:=Nat.le_trans HB.out.size h6.size;have hk:∀(g:Nat) (cs:Array Value) (ty:TypeId),w6.heap[g]?=some (.cells cs ty (0,0))->ty≠52->∀(o:Obj) (w7:World),(w6.alloc o).grownBy w7 (Value.slice Aa i ca).ownBlock->w7.heap[g]?=w6.heap[g]?:=λg cs ty hg hn o w7 hgr=>by
           have hlt:=(Array.getElem?_eq_some_iff.1 hg).1;refine(hgr.block g (by simp;omega) (λe=>?_)).trans (Below.heap_alloc _ _ _ hlt);obtain⟨_,_,cur,hcur⟩:=zab o1 g e.symm;rw[hg]at hcur
           injection hcur with hcur;injection hcur with _ hcur _;exact hn hcur
          have HK:=hidE hk;have K3B:=hidE k3;have K4B:=hidE k4;have O1:=hidE o1;have O2:=hidE o2;have O3:=hidE o3;have O4:=hidE o4;have O5:=hidE o5;have H6:=hidE h6;have HRR:=hidE hrn;have HLO:=hidE hlo;have HO1:=hidE (o1.alloc (.cells #[.int .i64 K1,.string X1,.int .i64 Z1,.slice A1 n1 c1,.int .i64 K2,.string X2,.int .i64 Z2,.slice A2 n2 c2] 52));clear hk k1 k2 k3 k4 o1 o2 o3 o4 o5 h6 hrn hlo BB0 BB1 SOF NM1 NM2 HRN Q1 Q2 Q3 Q4 HE;go_upto_region 18 with fail
          go_upto_region 19 with(at_builtin;refine wpList_append_own_at _ rfl (.tmp 95) (.tmp 99) 24 rfl w.heap.size 52 i0 _ 8 112 Tryz.underlying24 hi0 hz0 hz1 hz2 rfl (by decide) _ i vs1 rfl HO1.out ⟨w6.heap.size,0,none⟩ 1 1 [.int .i64 K1,.string X1,.int .i64 Z1,.slice A1 n1 c1,.int .i64 K2,.string X2,.int .i64 Z2,.slice A2 n2 c2] rfl rfl (zar _ _ _ _ (by simp)) (by intro z hz;simp at hz;rcases hz with rfl|rfl|rfl|rfl|rfl|rfl|rfl|rfl <;> rfl) (by unfold maxLen;omega) (by omega) (by have:=HLO.out;simp;omega) ?_;intro v7 w7 hown7 hgrow7 _ hat7;obtain⟨A7,c7,rfl⟩:=zao hown7;have k3:=K3B.out.same (HK.out _ _ _ K3B.out (by decide) _ _ hgrow7);have k4:=K4B.out.same (HK.out _ _ _ K4B.out (by decide) _ _ hgrow7);obtain⟨f0,f1,f2,f3,-⟩:=zaa k3;obtain⟨f4,f5,f6,f7,-⟩:=zaa k4;have h37:=zal O3.out (λg hg=>(by obtain⟨_,_,cur,hcur⟩:=zab O3.out g hg;exact HK.out g cur _ hcur (by decide) _ _ hgrow7));have H37:=hidE h37;have HO2:=hidE (h37.alloc (.cells #[.int .i64 K3,.string X3,.int .i64 Z3,.slice A3 n3 c3,.int .i64 K4,.string X4,.int .i64 Z4,.slice A4 n4 c4] 54));have HS7:Hid (w6.heap.size+1<=w7.heap.size):=hidE (by have h:=hgrow7.size;simpa using h);have HG7:=hidE hgrow7;have HA7:=hidE hat7;have HW7:=hidE hown7;clear hown7 hgrow7 hat7 k3 k4 h37 d0 d1 d2 d3 d4 d5 d6 d7)
          go_wp2_with (at_builtin;refine wpList_append_own_at _ rfl (.tmp 101) (.tmp 105) 25 rfl w.heap.size 54 j0 _ 8 112 Tryz.underlying25 hj0 hy0 hy1 hy2 rfl (by decide) _ i vs2 rfl HO2.out ⟨w7.heap.size,0,none⟩ 1 1 [.int .i64 K3,.string X3,.int .i64 Z3,.slice A3 n3 c3,.int .i64 K4,.string X4,.int .i64 Z4,.slice A4 n4 c4] rfl rfl (zar _ _ _ _ (by simp)) (by intro z hz;simp at hz;rcases hz with rfl|rfl|rfl|rfl|rfl|rfl|rfl|rfl <;> rfl) (by unfold maxLen;omega) (by omega) (by have:=HLO.out;have:=HS7.out;simp;omega) ?_;intro v8 w8 hown8 hgrow8 _ hat8;obtain⟨A8,c8,rfl⟩:=zao hown8;have HG8:=hidE hgrow8;have HA8:=hidE hat8;have HW8:=hidE hown8;clear hown8 hgrow8 hat8)
          have HNX:Hid (LnH ls w n (n-(i+1)) (.slice A7 (i+1) c7) (.slice A8 (i+1) c8) (.int .i64 ((c+x+y:Nat):Int)) (.int .i64 ((i+1:Nat):Int)) w8):=hidE (by
           obtain rfl:=HTL.out;obtain⟨g1,a1⟩:=zfS V1.out;obtain⟨g2,a2⟩:=zfS V2.out;obtain⟨g3,a3⟩:=zfS V3.out;obtain⟨g4,a4⟩:=zfS V4.out;have hS6:∀g,(wr.heap.size<=g/\g<W4.heap.size)->w6.heap[g]?=W4.heap[g]?:=λg hg=>BB2.out.block g hg.2;have hw7:=HW7.out;have hw8:=HW8.out;rw[show[.int .i64 K1,.string X1,.int .i64 Z1,.slice A1 n1 c1,.int .i64 K2,.string X2,.int .i64 Z2,.slice A2 n2 c2]=tyV t A1 c1++tyV u A2 c2 by rw[g1,g2];rfl]at hw7
           rw[show[.int .i64 K3,.string X3,.int .i64 Z3,.slice A3 n3 c3,.int .i64 K4,.string X4,.int .i64 Z4,.slice A4 n4 c4]=tyV t A3 c3++tyV u A4 c4 by rw[g3,g4];rfl]at hw8
           have h37:=H37.out;have hg7:=HG7.out;have hg8:=HG8.out;have hnew:=EqsV.snoc (S':=λg=>wr.heap.size<=g/\g<W4.heap.size) O2.out O4.out O5.out (a1.keep (λ_ h=>h) hS6) (a2.keep (λ_ h=>h) hS6) (a3.keep (λ_ h=>h) hS6) (a4.keep (λ_ h=>h) hS6) (λg hg=>by
            have hs:=BB2.out.size;have hs0:=HB.out.size;refine⟨by omega,by omega,λe=>?_,λe=>?_⟩
            ·have:=HOB.out g (.inl e);omega
            ·have:=HOB.out g (.inr e);omega) hg7 hw7 HA7.out hg8 h37 hw8 HA8.out
           have h0:Below w.heap.size w w6:=HB.out.trans (H6.out.mono HB.out.size);have hs6:=HLO.out;have hs7:=HS7.out;have hb7:Below w.heap.size w w7:=⟨hg7.os.trans h0.os,hg7.tape.trans h0.tape,hg7.output.trans h0.output,by omega,λk hk=>(hg7.block k (by simp;omega) (λe=>by have:=(zab HO1.out k e.symm).1;omega)).trans ((Below.heap_alloc _ _ _ (by omega)).trans (h0.block k hk))⟩;have hs8:w7.heap.size+1<=w8.heap.size:=by have h:=hg8.size;simpa using h
           have hb8:Below w.heap.size w w8:=⟨hg8.os.trans hb7.os,hg8.tape.trans hb7.tape,hg8.output.trans hb7.output,by omega,λk hk=>(hg8.block k (by simp;omega) (λe=>by have:=(zab H37.out k e.symm).1;omega)).trans ((Below.heap_alloc _ _ _ (by omega)).trans (hb7.block k hk))⟩;exact⟨ts.length+1,ts++[(t,u)],c+x+y,_,rfl,rfl,rfl,by omega,by omega,by rw[List.length_append];rfl,HRR.out,hnew,hb8⟩)
          go_roundg (n-(i+1))
          case measure=>omega
          case rel=>exact HNX.out
   ·have hr:Hid (zbq ls=some ts):=hidE (by
     rw[List.take_of_length_le (by rw[HN.out];omega)]at hrun
     unfold zbq;rw[if_neg (by rw[HN.out];exact h8),hrun]
     rfl)
    have HE:=hidE hE;have HB:=hidE hb;clear hE hb hrun;go_wp2_with fail
    go_ret3
    exact⟨HB.out,.inr ⟨ts,_,_,S,hr.out,rfl,HE.out⟩⟩
set_option maxRecDepth 100000
theorem TyRow.at {S:Nat->Prop} {w:World} : {l:List Ty}->{vs:List Value}->TyRow S w l vs->∀(j:Nat)(t:Ty),l[j]?=some t->∃A c,Args S w t A/\∀k,k<4->vs[j*4+k]? =(tyV t A c)[k]?
 |[],_,_,j,t,h=>by simp at h
 |x::r,vs,h,0,t,hj=>by
  rw[TyRow]at h
  obtain⟨A,c,rest,rfl,h2,-⟩:=h;simp at hj;subst hj;refine⟨A,c,h2,λk hk=>?_⟩;rw[Nat.zero_mul,Nat.zero_add,List.getElem?_append_left (show k<4 from hk)]
 |x::r,vs,h,j+1,t,hj=>by
  rw[TyRow]at h
  obtain⟨A,c,rest,rfl,-,h3⟩:=h;obtain⟨A',c',h4,h5⟩:=TyRow.at h3 j t (by simpa using hj);refine⟨A',c',h4,λk hk=>?_⟩;have e:(j+1)*4+k=4+(j*4+k):=by omega
  rw[e,List.getElem?_append_right (show 4<=4+(j*4+k) by omega)]
  show rest[4+(j*4+k)-4]?=_;rw[Nat.add_sub_cancel_left]
  exact h5 k hk
theorem zhV:(ts:List (Ty × Ty))->∀(i:Nat)(t u:Ty),ts[i]?=some (t,u)->(zb8 ts)[i*2]?=some t/\(zb8 ts)[i*2+1]?=some u
 |[],i,t,u,h=>by simp at h
 |p::r,0,t,u,h=>by
  simp at h;subst h;exact⟨rfl,rfl⟩
 |p::r,i+1,t,u,h=>by
  obtain⟨h1,h2⟩:=zhV r i t u (by simpa using h);have e:zb8 (p::r)=p.1::p.2::zb8 r:=rfl;rw[e,show(i+1)*2=i*2+1+1 by omega,List.getElem?_cons_succ,List.getElem?_cons_succ,List.getElem?_cons_succ,List.getElem?_cons_succ]
  exact⟨h1,h2⟩
theorem EqsV.eqsAt {B:Nat} {S:Nat->Prop} {w:World} {ts:List (Ty × Ty)} {A:Option Addr} {m c:Nat} {v2:Value}(h:EqsV B S w ts (.slice A m c) v2):EqsAt S w ts A/\m=ts.length:=by
 obtain⟨vs1,vs2,h1,h2,-,-,-⟩:=h;have hm:m=ts.length:=by
  obtain⟨a,q,e⟩:=zao h1;injection e
 refine⟨λi t u hi=>?_,hm⟩;obtain⟨f1,f2⟩:=zhV ts i t u hi;obtain⟨At,ct,g1,g2⟩:=h2.at _ t f1;obtain⟨Au,cu,g3,g4⟩:=h2.at _ u f2;rcases h1.2 with⟨-,h0⟩|⟨g,cap,cur,e,-,hg,-⟩
 ·rw[List.eq_nil_of_length_eq_zero h0]at hi
  cases hi
 ·injection e with e1 _ _
  subst e1;have hc:∀(j:Nat) (x:Value),vs1[j]?=some x->w.cell? ⟨g,j,none⟩=some x:=λj x hx=>by
   have hcell:=h1.cells (g:=g) rfl j x hx;have hadd:(⟨g,0,none⟩:Addr).add j=⟨g,j,none⟩:=by unfold Addr.add;split <;> simp_all
   rwa [hadd]at hcell
  refine⟨g,At,ct,Au,cu,rfl,(Array.getElem?_eq_some_iff.1 hg).1,?_,g1,?_,g3⟩
  ·have e:i*8=i*2*4:=by omega
   rw[e]
   exact⟨hc _ _ (g2 0 (by omega)),hc _ _ (g2 1 (by omega)),hc _ _ (g2 2 (by omega)),hc _ _ (g2 3 (by omega))⟩
  ·have e:i*8+4=(i*2+1)*4:=by omega
   rw[e]
   exact⟨hc _ _ (g4 0 (by omega)),hc _ _ (g4 1 (by omega)),hc _ _ (g4 2 (by omega)),hc _ _ (g4 3 (by omega))⟩
end Go.Proofs.YtfafilmklhnngaaGreatDoor
