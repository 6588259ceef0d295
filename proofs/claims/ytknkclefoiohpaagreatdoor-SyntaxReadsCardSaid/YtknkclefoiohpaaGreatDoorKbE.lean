/-
  Contracts of the code's functions, part 5.
-/
import Derived.Test.YtknkclefoiohpaaGreatDoorKbD
import Derived.Deep.LoopGhost
import Derived.Deep.DeepFit
namespace Go.Proofs.YtknkclefoiohpaaGreatDoor
open Go.RowKit Lx
set_option maxRecDepth 100000
theorem new_cells(w:World)(cs:Array Value)(t:TypeId):∀j u,cs.toList[j]? = some u->(w.alloc (.cells cs t)).cell? ((⟨w.heap.size,0,none⟩:Addr).add j)=some u:=by
 intro j u hu
 have hadd:(⟨w.heap.size,0,none⟩:Addr).add j=⟨w.heap.size,j,none⟩:=by unfold Addr.add;split <;> simp_all
 rw[hadd,cell_of_row _ _ _ cs t (0,0) (heap_alloc_new _ _)]
 simpa using hu
theorem tok_info:(Tryz.prog.info? 152).map (λi=>(i.zero,i.size,i.bytes))=some (some (.agg #[.int .i64 0,.string ⟨#[]⟩,.int .i64 0]),3,32):=by kernel_rfl
def Head(s:ByteArray)(N g:Nat)(w:World)(v pt:Value)(wr:World):Prop :=
 ∃i p q k ts bt,g=s.size-i/\Step s i p q k/\Known s i ts/\pt=.pointer (some ⟨bt,0,none⟩)/\Blk wr bt 152 #[.int .i64 (k:Nat),.string (s.extract p q),.int .i64 (p:Nat)] /\
  Blk wr N 9 #[.string s]/\Blk wr (N+1) 3 #[.int .i64 (q:Nat)]/\wr.ownsRow N 152 3 v ts.length (toksV ts)/\some bt≠v.ownBlock/\Below N w wr
theorem head_start(s:ByteArray)(w w1:World)(p q k:Nat)(st:Step s 0 p q k)
  (hg:((w.alloc (.cells #[.string s] 9)).alloc (.cells #[.int .i64 0] 3)).grownBy w1 (some (w.heap.size+1)))(hh:w1.heap[w.heap.size+1]? = some (.cells #[.int .i64 (q:Nat)] 3 (0,0))) :
  Head s w.heap.size s.size w (.slice none 0 0) (.pointer (some ⟨w1.heap.size,0,none⟩)) (w1.alloc (.cells #[.int .i64 (k:Nat),.string (s.extract p q),.int .i64 (p:Nat)] 152)):=by
 have hN:Blk w1 w.heap.size 9 #[.string s]:=Blk.grown (w:=(w.alloc (.cells #[.string s] 9)).alloc (.cells #[.int .i64 0] 3)) (heap_alloc2_old _ _ _) hg (by simp)
 have hb:Below w.heap.size w w1:=(((Below.refl _ w).alloc (Nat.le_refl _) _).alloc (by simp) _).grown hg (by simp;omega) (λk hk=>by injection hk;omega)
 refine⟨0,p,q,k,[],w1.heap.size,by omega,st,known_start s,rfl,heap_alloc_new _ _,hN.alloc _,Blk.alloc hh _,World.ownsRow_nil _ _ _ _,by simp[Value.ownBlock],hb.alloc hb.size _⟩
theorem head_next(s:ByteArray)(w wr w2 w3:World)(u2 v':Value)(q p2 q2 k2 k p:Nat)(ts:List Tok)(x0 x1 x2:Value)
  (ST2:Step s q p2 q2 k2)(KN2:Known s q (ts++[⟨k,(s.data.toList.drop p).take (q-p),p⟩]))(HBEL:Below w.heap.size w wr)
  (HOWN:wr.ownsRow w.heap.size 152 3 u2 ts.length (toksV ts))
  (HGR:(wr.alloc (.cells #[.int .i64 (k:Nat),.string (s.extract p q),.int .i64 (p:Nat)] 152)).grownBy w2 u2.ownBlock)
  (HOW2:w2.ownsRow w.heap.size 152 3 v' (ts.length+1) (toksV ts++[.int .i64 (k:Nat),.string (s.extract p q),.int .i64 (p:Nat)]))
  (N1:Blk w2 w.heap.size 9 #[.string s])(A1:Blk w2 (w.heap.size+1) 3 #[.int .i64 (q:Nat)])
  (HG3:(w2.alloc (.cells #[x0,x1,x2] 152)).grownBy w3 (some (w.heap.size+1)))
  (HH3:w3.heap[w.heap.size+1]? = some (.cells #[.int .i64 (q2:Nat)] 3 (0,0))) :
  Head s w.heap.size (s.size-q) w v' (.pointer (some ⟨w2.heap.size,0,none⟩))
   (((w3.setCell ⟨w2.heap.size,0,none⟩ (.int .i64 (k2:Nat))).setCell ⟨w2.heap.size,1,none⟩ (.string (s.extract p2 q2))).setCell ⟨w2.heap.size,2,none⟩ (.int .i64 (p2:Nat))):=by
 have hA:=A1.lt
 have hN:=N1.lt
 have b0:Blk w3 w2.heap.size 152 #[x0,x1,x2]:=Blk.grown (w:=w2.alloc (.cells #[x0,x1,x2] 152)) (heap_alloc_new _ _) HG3 (by simp;omega)
 have b1:=heap_setCell_same _ w2.heap.size 0 _ 152 (.int .i64 (k2:Nat)) b0
 have b2:=heap_setCell_same _ w2.heap.size 1 _ 152 (.string (s.extract p2 q2)) b1
 have b3:=heap_setCell_same _ w2.heap.size 2 _ 152 (.int .i64 (p2:Nat)) b2
 have n0:Blk w3 w.heap.size 9 #[.string s]:=(N1.alloc _).grown HG3 (by simp)
 have hlt:=HOW2.lt
 have hne:v'.ownBlock≠some w2.heap.size:=λe=>by have:=(hlt _ e).2;omega
 have o1:=(HOW2.alloc (.cells #[x0,x1,x2] 152)).kept HG3 (.inr (λe=>own_blk_ne HOW2 A1 (by decide) e.symm))
 have bl:Below w.heap.size w w2:=(HBEL.alloc HBEL.size _).grown HGR (by have:=HBEL.size;simp;omega) (λm hm=>(HOWN.lt m hm).1)
 have bl3:Below w.heap.size w w3:=(bl.alloc bl.size _).grown HG3 (by have:=bl.size;simp;omega) (λm hm=>by injection hm;omega)
 refine⟨q,p2,q2,k2,ts++[⟨k,(s.data.toList.drop p).take (q-p),p⟩],w2.heap.size,rfl,ST2,KN2,rfl,b3,?_,?_,?_,λe=>hne e.symm,?_⟩
 ·exact((n0.far (p:=⟨w2.heap.size,0,none⟩) (by simp;omega) _).far (p:=⟨w2.heap.size,1,none⟩) (by simp;omega) _).far (p:=⟨w2.heap.size,2,none⟩) (by simp;omega) _
 ·exact((Blk.far (p:=⟨w2.heap.size,0,none⟩) HH3 (by simp;omega) _).far (p:=⟨w2.heap.size,1,none⟩) (by simp;omega) _).far (p:=⟨w2.heap.size,2,none⟩) (by simp;omega) _
 ·have o2:=ownsRow_setCell_other (a:=⟨w2.heap.size,2,none⟩) (ownsRow_setCell_other (a:=⟨w2.heap.size,1,none⟩) (ownsRow_setCell_other (a:=⟨w2.heap.size,0,none⟩) o1 hne (.int .i64 (k2:Nat))) hne (.string (s.extract p2 q2))) hne (.int .i64 (p2:Nat))
  rw[toksV_snoc,tokV_extract,List.length_append]
  exact o2
 ·exact((bl3.setCell (p:=⟨w2.heap.size,0,none⟩) (by simp;omega) _).setCell (p:=⟨w2.heap.size,1,none⟩) (by simp;omega) _).setCell (p:=⟨w2.heap.size,2,none⟩) (by simp;omega) _
theorem below_drewN' {B:Nat} {a w:World}(h:Below B a w)(n:Nat):Below B a (w.drewN n):=⟨h.os,h.tape,h.output,h.size,h.block⟩
theorem scan_ok(s:ByteArray)(ts:List Tok)(hl:s.size<=4000)(h:lex s.data.toList=.ok ts):scanS s.data.toList=(ts,0,0):=by
 unfold scanS
 rw[if_neg (by rw[<-Lib.size_eq];omega),h]
theorem scan_bad(s:ByteArray)(p:Nat)(hl:s.size<=4000)(h:lex s.data.toList=.error p):scanS s.data.toList=([],p,10):=by
 unfold scanS
 rw[if_neg (by rw[<-Lib.size_eq];omega),h]
def ScanPost(s:ByteArray)(w:World)(e:Ending)(w':World):Prop :=
 Below w.heap.size w w'/\∃v ts at_ er,scanS s.data.toList=(ts,at_,er)/\e=.returned (.tuple #[v,.int .i64 (at_:Nat),.int .i64 (er:Nat)])/\w'.ownsRow w.heap.size 152 3 v ts.length (toksV ts)
theorem scan_long(s:ByteArray)(w:World)(hs:s.size<=maxLen)(hl:4000<s.size):Calls Tryz.prog 72 #[.string s] w (ScanPost s w):=by
 have HS:Hid (scanS s.data.toList=([],0,2)):=by
  refine hidE ?_
  unfold scanS
  rw[if_pos (by rw[<-Lib.size_eq];exact hl)]
 unfold maxLen at hs
 go_enter Tryz.func72,Tryz.ntmps72
 go_wp2
 go_ret3
 exact⟨Below.refl _ _,_,[],0,2,HS.out,rfl,World.ownsRow_nil _ _ _ _⟩
set_option maxHeartbeats 800000 in
theorem scan_short(s:ByteArray)(w:World)(hl:s.size<=4000):Calls Tryz.prog 72 #[.string s] w (ScanPost s w):=by
 have hm:s.size<=maxLen:=by unfold maxLen;omega
 obtain⟨i0,hi0,hz0,hz1,hz2⟩:=info_parts tok_info
 obtain⟨p0,q0,k0,hst0⟩:=step_of s 0 (Nat.zero_le _)
 have ST0:=hidE hst0
 clear hst0
 go_enter Tryz.func72,Tryz.ntmps72
 go_wp2_with (first
  |(go_at_call 124;refine(reader_any _ _).mono ?_;rintro e w' ⟨rfl,rfl⟩)
  |(go_at_call 157;refine(next_step s 0 p0 q0 k0 (w.heap.size+1) w.heap.size _ hm ST0.out (by omega) (heap_alloc2_new _ _ _) (heap_alloc2_old _ _ _)).mono ?_;rintro e w1 ⟨rfl,hg1,hh1⟩))
 have hst:=head_start s w w1 p0 q0 k0 ST0.out hg1 hh1
 clear hg1 hh1 ST0
 go_loopg [2,6] s.size (λg v pt wr=>Head s w.heap.size g w v pt wr)
 case atStart=>exact hst
 case round =>
  clear hst
  obtain⟨i,p,q,k,ts,bt,rfl,st,kn,rfl,hbt,hbN,hbA,hown,hne,hbel⟩:=hrel
  have ST:=hidE st
  have KN:=hidE kn
  have c0:=hbt.cell 0
  have c1:=hbt.cell 1
  have c2:=hbt.cell 2
  simp at c0 c1 c2
  have hps:p<=s.size:=by have:=st.2.1;have:=st.2.2.1;omega
  clear st kn
  have HBT:=hidE hbt
  have HBN:=hidE hbN
  have HBA:=hidE hbA
  have HOWN:=hidE hown
  have HNE:=hidE hne
  have HBEL:=hidE hbel
  clear hbt hbN hbA hown hne hbel
  by_cases hlt:p<s.size
  ·by_cases hk:k=0
   ·have hkb:((k:Int)==0)=true:=by rw[hk];rfl
    have HK:=hidE hk
    clear hk
    go_wp2_with fail
    go_quiet (fail)
    go_wp2_with fail
    go_ret3
    exact⟨below_drewN' HBEL.out _,_,[],p,10,scan_bad s p hl (known_bad s i p q ts KN.out (HK.out▸ST.out) hlt),rfl,World.ownsRow_nil _ _ _ _⟩
   ·have hkb:((k:Int)==0)=false:=by rw[Bool.eq_false_iff];intro h;simp at h;omega
    obtain⟨hiq,kn'⟩:=known_next s i p q k ts KN.out ST.out hlt hk
    have hqs:=ST.out.2.2.1
    obtain⟨p2,q2,k2,st2⟩:=step_of s q hqs
    have ST2:=hidE st2
    have KN2:=hidE kn'
    have htl:=KN.out.2
    clear hk st2 kn' ST KN
    go_wp2_with (first
     |(at_builtin;refine wpList_append_own _ rfl (.tmp 26) (.tmp 28) 76 rfl w.heap.size 152 i0 _ 3 32 Tryz.underlying76 hi0 hz0 hz1 hz2 rfl (by decide) u2 ts.length (toksV ts) rfl (HOWN.out.alloc _) ⟨wr.heap.size,0,none⟩ 1 1 [.int .i64 (k:Nat),.string (s.extract p q),.int .i64 (p:Nat)] rfl rfl (new_cells wr #[.int .i64 (k:Nat),.string (s.extract p q),.int .i64 (p:Nat)] _) (by intro u hu;simp at hu;rcases hu with rfl|rfl|rfl <;> rfl) (by unfold maxLen;omega) (by omega) (by have:=HBEL.out.size;simp;omega) ?_;intro v' w2 hown' hgrow _;have B1:=(HBT.out.alloc _).grown hgrow HNE.out;have d0:=B1.cell 0;have d1:=B1.cell 1;have d2:=B1.cell 2;have HB1:=hidE B1;clear B1;simp at d0 d1 d2;have HGR:=hidE hgrow;have HOW2:=hidE hown';clear hown' hgrow;have N1:=hidE ((HBN.out.alloc _).grown HGR.out (own_blk_ne HOWN.out HBN.out (by decide)));have A1:=hidE ((HBA.out.alloc _).grown HGR.out (own_blk_ne HOWN.out HBA.out (by decide))))
     |(go_at_call 157;refine(next_step s q p2 q2 k2 (w.heap.size+1) w.heap.size _ hm ST2.out (by omega) (A1.out.alloc _) (N1.out.alloc _)).mono ?_;rintro e w3 ⟨rfl,hg3,hh3⟩;have HG3:=hidE hg3;have HH3:=hidE hh3;clear hg3 hh3;have hAl:=A1.out.lt;have B3:Blk w3 w2.heap.size 152 #[.int .i64 (k:Nat),.string (s.extract p q),.int .i64 (p:Nat)]:=Blk.grown (heap_alloc_new _ _) HG3.out (by simp;omega);have e0:=B3.cell 0;have e1:=B3.cell 1;have e2:=B3.cell 2;have f0:=B3.frozen 0;have f1:=B3.frozen 1;have f2:=B3.frozen 2;clear B3;simp at e0 e1 e2))
    go_roundg (s.size-q)
    case measure=>omega
    case rel=>exact head_next s w wr w2 w3 u2 v' q p2 q2 k2 k p ts _ _ _ ST2.out KN2.out HBEL.out HOWN.out HGR.out HOW2.out N1.out A1.out HG3.out HH3.out
  ·go_wp2_with fail
   go_ret3
   exact⟨HBEL.out,_,ts,0,0,scan_ok s ts hl (known_done s i p q k ts KN.out ST.out hlt),rfl,HOWN.out⟩
theorem scan_any(s:ByteArray)(w:World)(hs:s.size<=maxLen):Calls Tryz.prog 72 #[.string s] w (ScanPost s w):=by
 by_cases h:4000<s.size
 ·exact scan_long s w hs h
 ·exact scan_short s w (by omega)
end Go.Proofs.YtknkclefoiohpaaGreatDoor

namespace Go.Proofs.YtknkclefoiohpaaGreatDoor
open Go.RowKit Lx
set_option maxRecDepth 100000
theorem ref_letter(c:UInt8)(w:World):Calls Tryz.prog 130 #[.int .u8 c.toNat] w λe w'=>e=.returned (.bool (isLet c))/\w=w':=by
 rcases(show(c.toNat<=64)\/(65<=c.toNat/\c.toNat<=90)\/(91<=c.toNat/\c.toNat<=96)\/(97<=c.toNat/\c.toNat<=122)\/(123<=c.toNat) by omega) with h0|h1|h2|h3|h4
 ·have d97:decide ((97:Int)<=(c.toNat:Int))=false:=decide_eq_false (by omega)
  have d122:decide ((c.toNat:Int)<=122)=true:=decide_eq_true (by omega)
  have d65:decide ((65:Int)<=(c.toNat:Int))=false:=decide_eq_false (by omega)
  have d90:decide ((c.toNat:Int)<=90)=true:=decide_eq_true (by omega)
  have hr:isLet c=false:=by simp[isLet,isUp];omega
  go_enter Tryz.func130,Tryz.ntmps130
  go_wp2
  go_ret
  exact⟨ret_bool hr.symm,rfl⟩
 ·have d97:decide ((97:Int)<=(c.toNat:Int))=false:=decide_eq_false (by omega)
  have d122:decide ((c.toNat:Int)<=122)=true:=decide_eq_true (by omega)
  have d65:decide ((65:Int)<=(c.toNat:Int))=true:=decide_eq_true (by omega)
  have d90:decide ((c.toNat:Int)<=90)=true:=decide_eq_true (by omega)
  have hr:isLet c=true:=by simp[isLet,isUp];omega
  go_enter Tryz.func130,Tryz.ntmps130
  go_wp2
  go_ret
  exact⟨ret_bool hr.symm,rfl⟩
 ·have d97:decide ((97:Int)<=(c.toNat:Int))=false:=decide_eq_false (by omega)
  have d122:decide ((c.toNat:Int)<=122)=true:=decide_eq_true (by omega)
  have d65:decide ((65:Int)<=(c.toNat:Int))=true:=decide_eq_true (by omega)
  have d90:decide ((c.toNat:Int)<=90)=false:=decide_eq_false (by omega)
  have hr:isLet c=false:=by simp[isLet,isUp];omega
  go_enter Tryz.func130,Tryz.ntmps130
  go_wp2
  go_ret
  exact⟨ret_bool hr.symm,rfl⟩
 ·have d97:decide ((97:Int)<=(c.toNat:Int))=true:=decide_eq_true (by omega)
  have d122:decide ((c.toNat:Int)<=122)=true:=decide_eq_true (by omega)
  have d65:decide ((65:Int)<=(c.toNat:Int))=true:=decide_eq_true (by omega)
  have d90:decide ((c.toNat:Int)<=90)=false:=decide_eq_false (by omega)
  have hr:isLet c=true:=by simp[isLet,isUp];omega
  go_enter Tryz.func130,Tryz.ntmps130
  go_wp2
  go_ret
  exact⟨ret_bool hr.symm,rfl⟩
 ·have d97:decide ((97:Int)<=(c.toNat:Int))=true:=decide_eq_true (by omega)
  have d122:decide ((c.toNat:Int)<=122)=false:=decide_eq_false (by omega)
  have d65:decide ((65:Int)<=(c.toNat:Int))=true:=decide_eq_true (by omega)
  have d90:decide ((c.toNat:Int)<=90)=false:=decide_eq_false (by omega)
  have hr:isLet c=false:=by simp[isLet,isUp];omega
  go_enter Tryz.func130,Tryz.ntmps130
  go_wp2
  go_ret
  exact⟨ret_bool hr.symm,rfl⟩
theorem ref_digit(c:UInt8)(w:World):Calls Tryz.prog 131 #[.int .u8 c.toNat] w λe w'=>e=.returned (.bool (isDig c))/\w=w':=by
 rcases(show(c.toNat<=47)\/(48<=c.toNat/\c.toNat<=57)\/(58<=c.toNat) by omega) with h0|h1|h2
 ·have d48:decide ((48:Int)<=(c.toNat:Int))=false:=decide_eq_false (by omega)
  have d57:decide ((c.toNat:Int)<=57)=true:=decide_eq_true (by omega)
  have hr:isDig c=false:=by simp[isDig];omega
  go_enter Tryz.func131,Tryz.ntmps131
  go_wp2
  go_ret
  exact⟨ret_bool hr.symm,rfl⟩
 ·have d48:decide ((48:Int)<=(c.toNat:Int))=true:=decide_eq_true (by omega)
  have d57:decide ((c.toNat:Int)<=57)=true:=decide_eq_true (by omega)
  have hr:isDig c=true:=by simp[isDig];omega
  go_enter Tryz.func131,Tryz.ntmps131
  go_wp2
  go_ret
  exact⟨ret_bool hr.symm,rfl⟩
 ·have d48:decide ((48:Int)<=(c.toNat:Int))=true:=decide_eq_true (by omega)
  have d57:decide ((c.toNat:Int)<=57)=false:=decide_eq_false (by omega)
  have hr:isDig c=false:=by simp[isDig];omega
  go_enter Tryz.func131,Tryz.ntmps131
  go_wp2
  go_ret
  exact⟨ret_bool hr.symm,rfl⟩
theorem num_bad(s:ByteArray)(i:Nat)(hb:badNum (s.data.toList.drop i)=true):i=i+(number (s.data.toList.drop i)).2:=by
 rw[number_of_bad _ hb];rfl
theorem num_good(s:ByteArray)(i k:Nat)(h:Hid (k=i+span isDig (s.data.toList.drop i)))(hb:badNum (s.data.toList.drop i)=false):k=i+(number (s.data.toList.drop i)).2:=by
 rw[number_of_good _ _ hb (hidE rfl)];exact h.out
theorem num_same(s:ByteArray)(i k:Nat)(h:Hid (k=i+span isDig (s.data.toList.drop i)))(hk:k=i):k=i+(number (s.data.toList.drop i)).2:=by
 have h0:span isDig (s.data.toList.drop i)=0:=by have:=h.out;omega
 rw[number_of_bad _ (by unfold badNum;rw[h0];simp)];exact hk
theorem head_drop(s:ByteArray)(i:Nat)(h:i<s.size):(s.data.toList.drop i).headD 0=s[i]:=by rw[drop_at s i h];rfl
theorem badNum_at(s:ByteArray)(i k:Nat)(hi:i<s.size)(h:Hid (k=i+span isDig (s.data.toList.drop i))):badNum (s.data.toList.drop i)=decide (k-i=0\/6<k-i\/(1<k-i/\s[i]=48)):=by
 unfold badNum
 rw[head_drop s i hi,show span isDig (s.data.toList.drop i)=k-i by have:=h.out;omega]
theorem span_at_size(p:UInt8->Bool)(s:ByteArray)(i:Nat)(hi:i<=s.size):i+span p (s.data.toList.drop i)<=s.size:=by
 have:=span_le p (s.data.toList.drop i)
 rw[List.length_drop,<-Lib.size_eq]at this
 omega
set_option maxHeartbeats 800000 in
theorem ref_number(s:ByteArray)(i:Nat)(w:World)(hs:s.size<=4000)(hi:i<=s.size) :
  Calls Tryz.prog 132 #[.string s,.int .i64 i] w λe w'=>e=.returned (.int .i64 ((i+(number (s.data.toList.drop i)).2:Nat):Int))/\w=w':=by
 obtain⟨N,hN⟩:∃N,N=i+span isDig (s.data.toList.drop i):=⟨_,rfl⟩
 obtain⟨R,hR⟩:∃R,R=i+(number (s.data.toList.drop i)).2:=⟨_,rfl⟩
 have hNs:N<=s.size:=by rw[hN];exact span_at_size _ _ _ hi
 have HN:=hidE hN
 have HR:=hidE hR
 rw[<-hR]
 clear hN hR
 go_enter Tryz.func132,Tryz.ntmps132
 go_wp2
 go_loopg [5] (s.size-i) (λgg v wr=>∃k:Nat,gg=s.size-k/\v=.int .i64 k/\wr=w/\i<=k/\k<=s.size/\k+span isDig (s.data.toList.drop k)=N)
 case atStart=>exact⟨i,rfl,rfl,rfl,by omega,hi,HN.out.symm⟩
 case round =>
  obtain⟨k,rfl,rfl,rfl,hik,hk,hn⟩:=hrel
  by_cases hlt:k<s.size
  ·by_cases hp:isDig s[k]=true
   ·have HS:=hidE (span_step _ s k _ hlt hn hp)
    clear hn
    go_wp2_with (go_at_call 131;refine(ref_digit _ _).mono ?_;rintro e w' ⟨rfl,rfl⟩)
    go_roundg (s.size-(k+1))
    case measure=>omega
    case rel=>exact⟨k+1,rfl,by go_num,rfl,by omega,by omega,HS.out⟩
   ·have hp:isDig s[k]=false:=by simpa using hp
    obtain rfl:k=N:=span_stop _ s k _ hlt hn hp
    clear hn
    by_cases h6:6<k-i
    ·have d6:decide ((6:Int)<(k:Int)-(i:Int))=true:=decide_eq_true (by omega)
     have hr:=hidE (num_bad s i (by rw[badNum_at s i k (by omega) HN];simp;omega))
     go_wp2_with (go_at_call 131;refine(ref_digit _ _).mono ?_;rintro e w' ⟨rfl,rfl⟩)
     go_ret
     exact⟨ret_i64 (by rw[HR.out,<-hr.out]),rfl⟩
    ·have d6:decide ((6:Int)<(k:Int)-(i:Int))=false:=decide_eq_false (by omega)
     by_cases h1:1<k-i
     ·have d1:decide ((1:Int)<(k:Int)-(i:Int))=true:=decide_eq_true (by omega)
      have his:i<s.size:=by omega
      by_cases hd:s[i]=48
      ·have d48:((s[i].toNat:Int)==48)=true:=u8t _ 48 hd
       have hr:=hidE (num_bad s i (by rw[badNum_at s i k (by omega) HN];simp[h1,hd]))
       clear hd
       go_wp2_with (go_at_call 131;refine(ref_digit _ _).mono ?_;rintro e w' ⟨rfl,rfl⟩)
       go_ret
       exact⟨ret_i64 (by rw[HR.out,<-hr.out]),rfl⟩
      ·have d48:((s[i].toNat:Int)==48)=false:=u8f _ 48 hd
       have hr:=hidE (num_good s i k HN (by rw[badNum_at s i k (by omega) HN];simp[hd];omega))
       clear hd
       go_wp2_with (go_at_call 131;refine(ref_digit _ _).mono ?_;rintro e w' ⟨rfl,rfl⟩)
       go_ret
       exact⟨ret_i64 (by rw[HR.out,<-hr.out]),rfl⟩
     ·have d1:decide ((1:Int)<(k:Int)-(i:Int))=false:=decide_eq_false (by omega)
      have hr:Hid (k=i+(number (s.data.toList.drop i)).2):=by
       by_cases he:k=i
       ·exact hidE (num_same s i k HN he)
       ·exact hidE (num_good s i k HN (by rw[badNum_at s i k (by omega) HN];simp;omega))
      go_wp2_with (go_at_call 131;refine(ref_digit _ _).mono ?_;rintro e w' ⟨rfl,rfl⟩)
      go_ret
      exact⟨ret_i64 (by rw[HR.out,<-hr.out]),rfl⟩
  ·obtain rfl:k=N:=span_end _ s k _ (by omega) hn
   clear hn
   by_cases h6:6<k-i
   ·have d6:decide ((6:Int)<(k:Int)-(i:Int))=true:=decide_eq_true (by omega)
    have hr:=hidE (num_bad s i (by rw[badNum_at s i k (by omega) HN];simp;omega))
    go_wp2_with fail
    go_ret
    exact⟨ret_i64 (by rw[HR.out,<-hr.out]),rfl⟩
   ·have d6:decide ((6:Int)<(k:Int)-(i:Int))=false:=decide_eq_false (by omega)
    by_cases h1:1<k-i
    ·have d1:decide ((1:Int)<(k:Int)-(i:Int))=true:=decide_eq_true (by omega)
     have his:i<s.size:=by omega
     by_cases hd:s[i]=48
     ·have d48:((s[i].toNat:Int)==48)=true:=u8t _ 48 hd
      have hr:=hidE (num_bad s i (by rw[badNum_at s i k (by omega) HN];simp[h1,hd]))
      clear hd
      go_wp2_with fail
      go_ret
      exact⟨ret_i64 (by rw[HR.out,<-hr.out]),rfl⟩
     ·have d48:((s[i].toNat:Int)==48)=false:=u8f _ 48 hd
      have hr:=hidE (num_good s i k HN (by rw[badNum_at s i k (by omega) HN];simp[hd];omega))
      clear hd
      go_wp2_with fail
      go_ret
      exact⟨ret_i64 (by rw[HR.out,<-hr.out]),rfl⟩
    ·have d1:decide ((1:Int)<(k:Int)-(i:Int))=false:=decide_eq_false (by omega)
     have hr:Hid (k=i+(number (s.data.toList.drop i)).2):=by
      by_cases he:k=i
      ·exact hidE (num_same s i k HN he)
      ·exact hidE (num_good s i k HN (by rw[badNum_at s i k (by omega) HN];simp;omega))
     go_wp2_with fail
     go_ret
     exact⟨ret_i64 (by rw[HR.out,<-hr.out]),rfl⟩
end Go.Proofs.YtknkclefoiohpaaGreatDoor

namespace Go.Proofs.YtknkclefoiohpaaGreatDoor
open Go.RowKit Lx
set_option maxRecDepth 100000
theorem first_at(s:ByteArray)(i:Nat)(hi:i<s.size):first (s.data.toList.drop i)=if isLet s[i] then word (s.data.toList.drop i) else if isDig s[i] then number (s.data.toList.drop i) else if s[i]=63 then meta_ (s.data.toList.drop i) else sign (s.data.toList.drop i):=by
 rw[drop_at s i hi];rfl
theorem one_long(s:ByteArray)(i k:Nat)(hi:i<s.size)(hl:isLet s[i]=true)(h:Hid (k=i+span inW (s.data.toList.drop i)))(hk:16<k-i):first (s.data.toList.drop i)=(0,0):=by
 rw[first_at s i hi,if_pos hl,word,show span inW (s.data.toList.drop i)=k-i by have:=h.out;omega,if_pos hk]
theorem one_word(s:ByteArray)(i k:Nat)(hi:i<s.size)(hl:isLet s[i]=true)(h:Hid (k=i+span inW (s.data.toList.drop i)))(hk:¬16<k-i):first (s.data.toList.drop i)=(wordKind (s.extract i k).data.toList,k-i):=by
 rw[first_at s i hi,if_pos hl,word,show span inW (s.data.toList.drop i)=k-i by have:=h.out;omega,if_neg hk,Lib.extract_data]
theorem ext_head(s:ByteArray)(i k:Nat)(hi:i<s.size)(hik:i<k):(s.extract i k).data.toList.headD 0=s[i]:=by
 rw[Lib.extract_data,drop_at s i hi,show k-i=(k-i-1)+1 by omega,List.take_succ_cons];rfl
theorem wk_key(l:List UInt8)(W:ByteArray)(hW:W.data.toList=l)(h:W.toList∈keys):wordKind l=3:=by
 rw[Lib.toList_data,hW]at h
 simp[wordKind,h]
theorem wk_up(l:List UInt8)(W:ByteArray)(hW:W.data.toList=l)(h:W.toList∉keys)(hu:isUp (l.headD 0)=true):wordKind l=2:=by
 rw[Lib.toList_data,hW]at h
 unfold wordKind
 rw[if_neg h,if_pos hu]
theorem wk_low(l:List UInt8)(W:ByteArray)(hW:W.data.toList=l)(h:W.toList∉keys)(hu:isUp (l.headD 0)=false):wordKind l=1:=by
 rw[Lib.toList_data,hW]at h
 unfold wordKind
 rw[if_neg h,hu];rfl
set_option maxHeartbeats 1600000 in
theorem one_letter(s:ByteArray)(i:Nat)(w:World)(hs:s.size<=4000)(hi:i<s.size)(hl:isLet s[i]=true) :
  Calls Tryz.prog 80 #[.string s,.int .i64 i] w λe w'=>e=.returned (.tuple #[.int .i64 ((first (s.data.toList.drop i)).1:Nat),.int .i64 ((i+(first (s.data.toList.drop i)).2:Nat):Int)])/\w=w':=by
 obtain⟨N,hN⟩:∃N,N=i+span inW (s.data.toList.drop i):=⟨_,rfl⟩
 obtain⟨K,hK⟩:∃K,K=(first (s.data.toList.drop i)).1:=⟨_,rfl⟩
 obtain⟨E,hE⟩:∃E,E=i+(first (s.data.toList.drop i)).2:=⟨_,rfl⟩
 have hNs:N<=s.size:=by rw[hN];exact span_at_size _ _ _ (by omega)
 have hiN:i<N:=by
  have:1<=span inW (s.data.toList.drop i):=by rw[drop_at s i hi];exact isLet_span _ _ hl
  omega
 have hlr:=let_range s[i] hl
 have HN:=hidE hN
 have HK:=hidE hK
 have HE:=hidE hE
 rw[<-hK,<-hE]
 clear hN hK hE
 go_enter Tryz.func80,Tryz.ntmps80
 go_wp2_with (go_at_call 130;refine(ref_letter _ _).mono ?_;rintro e w' ⟨rfl,rfl⟩)
 go_loopg [7] (s.size-i) (λgg v wr=>∃k:Nat,gg=s.size-k/\v=.int .i64 k/\wr=w/\i<=k/\k<=s.size/\k+span inW (s.data.toList.drop k)=N)
 case atStart=>exact⟨i,rfl,rfl,rfl,by omega,by omega,HN.out.symm⟩
 case round =>
  obtain⟨k,rfl,rfl,rfl,hik,hk,hn⟩:=hrel
  by_cases hgo:∃h:k<s.size,inW s[k]=true
  ·obtain⟨hlt,hp⟩:=hgo
   have HS:=hidE (span_step _ s k _ hlt hn hp)
   clear hn
   by_cases hlk:isLet s[k]=true
   ·go_wp2_with (first|(go_at_call 130;refine(ref_letter _ _).mono ?_;rintro e w' ⟨rfl,rfl⟩)|(go_at_call 131;refine(ref_digit _ _).mono ?_;rintro e w' ⟨rfl,rfl⟩))
    go_roundg (s.size-(k+1))
    case measure=>omega
    case rel=>exact⟨k+1,rfl,by go_num,rfl,by omega,by omega,HS.out⟩
   ·have hlk:isLet s[k]=false:=by simpa using hlk
    by_cases hdk:isDig s[k]=true
    ·go_wp2_with (first|(go_at_call 130;refine(ref_letter _ _).mono ?_;rintro e w' ⟨rfl,rfl⟩)|(go_at_call 131;refine(ref_digit _ _).mono ?_;rintro e w' ⟨rfl,rfl⟩))
     go_roundg (s.size-(k+1))
     case measure=>omega
     case rel=>exact⟨k+1,rfl,by go_num,rfl,by omega,by omega,HS.out⟩
    ·have hdk:isDig s[k]=false:=by simpa using hdk
     have e95:s[k]=95:=by simpa[inW,hlk,hdk] using hp
     have d95:((s[k].toNat:Int)==95)=true:=u8t _ 95 e95
     clear e95 hp
     go_wp2_with (first|(go_at_call 130;refine(ref_letter _ _).mono ?_;rintro e w' ⟨rfl,rfl⟩)|(go_at_call 131;refine(ref_digit _ _).mono ?_;rintro e w' ⟨rfl,rfl⟩))
     go_roundg (s.size-(k+1))
     case measure=>omega
     case rel=>exact⟨k+1,rfl,by go_num,rfl,by omega,by omega,HS.out⟩
  ·have hkN:k=N:=by
    by_cases hlt:k<s.size
    ·exact span_stop _ s k _ hlt hn (by simpa using λh=>hgo ⟨hlt,h⟩)
    ·exact span_end _ s k _ (by omega) hn
   obtain rfl:=hkN
   clear hn
   have hstop:k<s.size->∃h:k<s.size,isLet s[k]=false/\isDig s[k]=false/\((s[k].toNat:Int)==95)=false:=λh=>by
    have hp:inW s[k]=false:=by simpa using λe=>hgo ⟨h,e⟩
    simp[inW]at hp
    exact⟨h,hp.1.1,hp.1.2,u8f _ 95 hp.2⟩
   have HST:=hidE hstop
   clear hgo hstop
   by_cases h16:16<k-i
   ·have d16:decide ((16:Int)<(k:Int)-(i:Int))=true:=decide_eq_true (by omega)
    have hf:=one_long s i k hi hl HN h16
    have H1:=hidE (show K=0/\E=i by rw[HK.out,HE.out,hf];exact⟨rfl,rfl⟩)
    clear hf
    by_cases hlt:k<s.size
    ·obtain⟨_,f1,f2,f3⟩:=HST.out hlt
     go_wp2_with (first|(go_at_call 130;refine(ref_letter _ _).mono ?_;rintro e w' ⟨rfl,rfl⟩)|(go_at_call 131;refine(ref_digit _ _).mono ?_;rintro e w' ⟨rfl,rfl⟩))
     go_ret2
     exact⟨ret_2 (by rw[H1.out.1];rfl) (by rw[H1.out.2]),rfl⟩
    ·go_wp2_with (first|(go_at_call 130;refine(ref_letter _ _).mono ?_;rintro e w' ⟨rfl,rfl⟩)|(go_at_call 131;refine(ref_digit _ _).mono ?_;rintro e w' ⟨rfl,rfl⟩))
     go_ret2
     exact⟨ret_2 (by rw[H1.out.1];rfl) (by rw[H1.out.2]),rfl⟩
   ·have d16:decide ((16:Int)<(k:Int)-(i:Int))=false:=decide_eq_false (by omega)
    have hf:=one_word s i k hi hl HN h16
    have hhd:=ext_head s i k hi hiN
    obtain⟨W,hW⟩:∃W,s.extract i k=W:=⟨_,rfl⟩
    rw[hW]at hf hhd
    have H1:=hidE (show K=wordKind W.data.toList/\E=k by rw[HK.out,HE.out,hf];exact⟨rfl,by simp;omega⟩)
    clear hf
    by_cases hm:W.toList∈keys
    ·have hwk:=wk_key _ W rfl hm
     simp only[keys,List.mem_cons,List.not_mem_nil,or_false]at hm
     rcases hm with hm|hm|hm|hm|hm|hm
     ·have e0:(W.toList==[100,97,116,97])=true:=by rw[hm];rfl
      have H2:=hidE (H1.out.1.trans (hwk))
      clear hm hhd
      by_cases hlt:k<s.size
      ·obtain⟨_,f1,f2,f3⟩:=HST.out hlt
       go_wp2_with (first|(go_at_call 130;refine(ref_letter _ _).mono ?_;rintro e w' ⟨rfl,rfl⟩)|(go_at_call 131;refine(ref_digit _ _).mono ?_;rintro e w' ⟨rfl,rfl⟩))
       go_ret2
       exact⟨ret_2 (by rw[H2.out];rfl) (by rw[H1.out.2]),rfl⟩
      ·go_wp2_with (first|(go_at_call 130;refine(ref_letter _ _).mono ?_;rintro e w' ⟨rfl,rfl⟩)|(go_at_call 131;refine(ref_digit _ _).mono ?_;rintro e w' ⟨rfl,rfl⟩))
       go_ret2
       exact⟨ret_2 (by rw[H2.out];rfl) (by rw[H1.out.2]),rfl⟩
     ·have e0:(W.toList==[100,97,116,97])=false:=by rw[hm];rfl
      have e1:(W.toList==[108,101,116])=true:=by rw[hm];rfl
      have H2:=hidE (H1.out.1.trans (hwk))
      clear hm hhd
      by_cases hlt:k<s.size
      ·obtain⟨_,f1,f2,f3⟩:=HST.out hlt
       go_wp2_with (first|(go_at_call 130;refine(ref_letter _ _).mono ?_;rintro e w' ⟨rfl,rfl⟩)|(go_at_call 131;refine(ref_digit _ _).mono ?_;rintro e w' ⟨rfl,rfl⟩))
       go_ret2
       exact⟨ret_2 (by rw[H2.out];rfl) (by rw[H1.out.2]),rfl⟩
      ·go_wp2_with (first|(go_at_call 130;refine(ref_letter _ _).mono ?_;rintro e w' ⟨rfl,rfl⟩)|(go_at_call 131;refine(ref_digit _ _).mono ?_;rintro e w' ⟨rfl,rfl⟩))
       go_ret2
       exact⟨ret_2 (by rw[H2.out];rfl) (by rw[H1.out.2]),rfl⟩
     ·have e0:(W.toList==[100,97,116,97])=false:=by rw[hm];rfl
      have e1:(W.toList==[108,101,116])=false:=by rw[hm];rfl
      have e2:(W.toList==[105,110])=true:=by rw[hm];rfl
      have H2:=hidE (H1.out.1.trans (hwk))
      clear hm hhd
      by_cases hlt:k<s.size
      ·obtain⟨_,f1,f2,f3⟩:=HST.out hlt
       go_wp2_with (first|(go_at_call 130;refine(ref_letter _ _).mono ?_;rintro e w' ⟨rfl,rfl⟩)|(go_at_call 131;refine(ref_digit _ _).mono ?_;rintro e w' ⟨rfl,rfl⟩))
       go_ret2
       exact⟨ret_2 (by rw[H2.out];rfl) (by rw[H1.out.2]),rfl⟩
      ·go_wp2_with (first|(go_at_call 130;refine(ref_letter _ _).mono ?_;rintro e w' ⟨rfl,rfl⟩)|(go_at_call 131;refine(ref_digit _ _).mono ?_;rintro e w' ⟨rfl,rfl⟩))
       go_ret2
       exact⟨ret_2 (by rw[H2.out];rfl) (by rw[H1.out.2]),rfl⟩
     ·have e0:(W.toList==[100,97,116,97])=false:=by rw[hm];rfl
      have e1:(W.toList==[108,101,116])=false:=by rw[hm];rfl
      have e2:(W.toList==[105,110])=false:=by rw[hm];rfl
      have e3:(W.toList==[99,97,115,101])=true:=by rw[hm];rfl
      have H2:=hidE (H1.out.1.trans (hwk))
      clear hm hhd
      by_cases hlt:k<s.size
      ·obtain⟨_,f1,f2,f3⟩:=HST.out hlt
       go_wp2_with (first|(go_at_call 130;refine(ref_letter _ _).mono ?_;rintro e w' ⟨rfl,rfl⟩)|(go_at_call 131;refine(ref_digit _ _).mono ?_;rintro e w' ⟨rfl,rfl⟩))
       go_ret2
       exact⟨ret_2 (by rw[H2.out];rfl) (by rw[H1.out.2]),rfl⟩
      ·go_wp2_with (first|(go_at_call 130;refine(ref_letter _ _).mono ?_;rintro e w' ⟨rfl,rfl⟩)|(go_at_call 131;refine(ref_digit _ _).mono ?_;rintro e w' ⟨rfl,rfl⟩))
       go_ret2
       exact⟨ret_2 (by rw[H2.out];rfl) (by rw[H1.out.2]),rfl⟩
     ·have e0:(W.toList==[100,97,116,97])=false:=by rw[hm];rfl
      have e1:(W.toList==[108,101,116])=false:=by rw[hm];rfl
      have e2:(W.toList==[105,110])=false:=by rw[hm];rfl
      have e3:(W.toList==[99,97,115,101])=false:=by rw[hm];rfl
      have e4:(W.toList==[111,102])=true:=by rw[hm];rfl
      have H2:=hidE (H1.out.1.trans (hwk))
      clear hm hhd
      by_cases hlt:k<s.size
      ·obtain⟨_,f1,f2,f3⟩:=HST.out hlt
       go_wp2_with (first|(go_at_call 130;refine(ref_letter _ _).mono ?_;rintro e w' ⟨rfl,rfl⟩)|(go_at_call 131;refine(ref_digit _ _).mono ?_;rintro e w' ⟨rfl,rfl⟩))
       go_ret2
       exact⟨ret_2 (by rw[H2.out];rfl) (by rw[H1.out.2]),rfl⟩
      ·go_wp2_with (first|(go_at_call 130;refine(ref_letter _ _).mono ?_;rintro e w' ⟨rfl,rfl⟩)|(go_at_call 131;refine(ref_digit _ _).mono ?_;rintro e w' ⟨rfl,rfl⟩))
       go_ret2
       exact⟨ret_2 (by rw[H2.out];rfl) (by rw[H1.out.2]),rfl⟩
     ·have e0:(W.toList==[100,97,116,97])=false:=by rw[hm];rfl
      have e1:(W.toList==[108,101,116])=false:=by rw[hm];rfl
      have e2:(W.toList==[105,110])=false:=by rw[hm];rfl
      have e3:(W.toList==[99,97,115,101])=false:=by rw[hm];rfl
      have e4:(W.toList==[111,102])=false:=by rw[hm];rfl
      have e5:(W.toList==[102,111,114,97,108,108])=true:=by rw[hm];rfl
      have H2:=hidE (H1.out.1.trans (hwk))
      clear hm hhd
      by_cases hlt:k<s.size
      ·obtain⟨_,f1,f2,f3⟩:=HST.out hlt
       go_wp2_with (first|(go_at_call 130;refine(ref_letter _ _).mono ?_;rintro e w' ⟨rfl,rfl⟩)|(go_at_call 131;refine(ref_digit _ _).mono ?_;rintro e w' ⟨rfl,rfl⟩))
       go_ret2
       exact⟨ret_2 (by rw[H2.out];rfl) (by rw[H1.out.2]),rfl⟩
      ·go_wp2_with (first|(go_at_call 130;refine(ref_letter _ _).mono ?_;rintro e w' ⟨rfl,rfl⟩)|(go_at_call 131;refine(ref_digit _ _).mono ?_;rintro e w' ⟨rfl,rfl⟩))
       go_ret2
       exact⟨ret_2 (by rw[H2.out];rfl) (by rw[H1.out.2]),rfl⟩
    ·have e0:(W.toList==[100,97,116,97])=false:=by rw[beq_eq_false_iff_ne];intro e;exact hm (by rw[e];decide)
     have e1:(W.toList==[108,101,116])=false:=by rw[beq_eq_false_iff_ne];intro e;exact hm (by rw[e];decide)
     have e2:(W.toList==[105,110])=false:=by rw[beq_eq_false_iff_ne];intro e;exact hm (by rw[e];decide)
     have e3:(W.toList==[99,97,115,101])=false:=by rw[beq_eq_false_iff_ne];intro e;exact hm (by rw[e];decide)
     have e4:(W.toList==[111,102])=false:=by rw[beq_eq_false_iff_ne];intro e;exact hm (by rw[e];decide)
     have e5:(W.toList==[102,111,114,97,108,108])=false:=by rw[beq_eq_false_iff_ne];intro e;exact hm (by rw[e];decide)
     by_cases hup:s[i].toNat<=90
     ·have d90:decide ((s[i].toNat:Int)<=90)=true:=decide_eq_true (by omega)
      have hwk:=wk_up _ W rfl hm (by rw[hhd];simp[isUp];omega)
      have H2:=hidE (H1.out.1.trans (hwk))
      clear hm hhd
      by_cases hlt:k<s.size
      ·obtain⟨_,f1,f2,f3⟩:=HST.out hlt
       go_wp2_with (first|(go_at_call 130;refine(ref_letter _ _).mono ?_;rintro e w' ⟨rfl,rfl⟩)|(go_at_call 131;refine(ref_digit _ _).mono ?_;rintro e w' ⟨rfl,rfl⟩))
       go_ret2
       exact⟨ret_2 (by rw[H2.out];rfl) (by rw[H1.out.2]),rfl⟩
      ·go_wp2_with (first|(go_at_call 130;refine(ref_letter _ _).mono ?_;rintro e w' ⟨rfl,rfl⟩)|(go_at_call 131;refine(ref_digit _ _).mono ?_;rintro e w' ⟨rfl,rfl⟩))
       go_ret2
       exact⟨ret_2 (by rw[H2.out];rfl) (by rw[H1.out.2]),rfl⟩
     ·have d90:decide ((s[i].toNat:Int)<=90)=false:=decide_eq_false (by omega)
      have hwk:=wk_low _ W rfl hm (by rw[hhd];simp[isUp];omega)
      have H2:=hidE (H1.out.1.trans (hwk))
      clear hm hhd
      by_cases hlt:k<s.size
      ·obtain⟨_,f1,f2,f3⟩:=HST.out hlt
       go_wp2_with (first|(go_at_call 130;refine(ref_letter _ _).mono ?_;rintro e w' ⟨rfl,rfl⟩)|(go_at_call 131;refine(ref_digit _ _).mono ?_;rintro e w' ⟨rfl,rfl⟩))
       go_ret2
       exact⟨ret_2 (by rw[H2.out];rfl) (by rw[H1.out.2]),rfl⟩
      ·go_wp2_with (first|(go_at_call 130;refine(ref_letter _ _).mono ?_;rintro e w' ⟨rfl,rfl⟩)|(go_at_call 131;refine(ref_digit _ _).mono ?_;rintro e w' ⟨rfl,rfl⟩))
       go_ret2
       exact⟨ret_2 (by rw[H2.out];rfl) (by rw[H1.out.2]),rfl⟩
end Go.Proofs.YtknkclefoiohpaaGreatDoor

namespace Go.Proofs.YtknkclefoiohpaaGreatDoor
open Go.RowKit Lx
set_option maxRecDepth 100000
theorem one_num(s:ByteArray)(i:Nat)(hi:i<s.size)(hl:isLet s[i]=false)(hd:isDig s[i]=true):first (s.data.toList.drop i)=number (s.data.toList.drop i):=by
 rw[first_at s i hi,hl,if_neg (by simp),if_pos hd]
theorem one_meta(s:ByteArray)(i:Nat)(hi:i<s.size)(hl:isLet s[i]=false)(hd:isDig s[i]=false)(hq:s[i]=63):first (s.data.toList.drop i)=meta_ (s.data.toList.drop i):=by
 rw[first_at s i hi,hl,hd,if_neg (by simp),if_neg (by simp),if_pos hq]
theorem one_sign(s:ByteArray)(i:Nat)(hi:i<s.size)(hl:isLet s[i]=false)(hd:isDig s[i]=false)(hq:¬s[i]=63):first (s.data.toList.drop i)=sign (s.data.toList.drop i):=by
 rw[first_at s i hi,hl,hd,if_neg (by simp),if_neg (by simp),if_neg hq]
theorem num_zero(l:List UInt8)(h:(number l).2=0):number l=(0,0):=by
 rcases number_cases l with e|⟨e,h1,_⟩
 ·exact e
 ·rw[e]at h;simp at h;omega
theorem num_pos(l:List UInt8)(n:Nat)(h:(number l).2=n)(h0:n≠0):number l=(4,n):=by
 rcases number_cases l with e|⟨e,h1,_⟩
 ·rw[e]at h;exact absurd h.symm h0
 ·rw[e]at h ⊢;exact congrArg (Prod.mk 4) h
theorem num_size(s:ByteArray)(i:Nat)(hi:i<=s.size):i+(number (s.data.toList.drop i)).2<=s.size:=by
 have h1:=span_at_size isDig s i hi
 rcases number_cases (s.data.toList.drop i) with e|⟨e,_,_⟩
 ·rw[e];exact hi
 ·rw[e];exact h1
set_option maxHeartbeats 800000 in
theorem one_digit(s:ByteArray)(i:Nat)(w:World)(hs:s.size<=4000)(hi:i<s.size)(hl:isLet s[i]=false)(hd:isDig s[i]=true) :
  Calls Tryz.prog 80 #[.string s,.int .i64 i] w λe w'=>e=.returned (.tuple #[.int .i64 ((first (s.data.toList.drop i)).1:Nat),.int .i64 ((i+(first (s.data.toList.drop i)).2:Nat):Int)])/\w=w':=by
 obtain⟨K,hK⟩:∃K,K=(first (s.data.toList.drop i)).1:=⟨_,rfl⟩
 obtain⟨E,hE⟩:∃E,E=i+(first (s.data.toList.drop i)).2:=⟨_,rfl⟩
 have HK:=hidE hK
 have HE:=hidE hE
 rw[<-hK,<-hE]
 clear hK hE
 have hns:=num_size s i (by omega)
 have RN:=ref_number s i w hs (by omega)
 obtain⟨n,hn⟩:∃n,(number (s.data.toList.drop i)).2=n:=⟨_,rfl⟩
 obtain⟨k,hk⟩:∃k,i+n=k:=⟨_,rfl⟩
 rw[hn,hk]at RN hns
 have hf:=one_num s i hi hl hd
 by_cases h0:n=0
 ·have H1:=hidE (show K=0/\E=i by rw[HK.out,HE.out,hf,num_zero _ (hn.trans h0)];exact⟨rfl,rfl⟩)
  have dk:((k:Int) ==(i:Int))=true:=by simp;omega
  clear hn hk h0 hf
  go_enter Tryz.func80,Tryz.ntmps80
  go_wp2_with (first|(go_at_call 130;refine(ref_letter _ _).mono ?_;rintro e w' ⟨rfl,rfl⟩)|(go_at_call 131;refine(ref_digit _ _).mono ?_;rintro e w' ⟨rfl,rfl⟩)|(go_at_call 132;refine RN.mono ?_;rintro e w' ⟨rfl,rfl⟩))
  go_ret2
  exact⟨ret_2 (by rw[H1.out.1];rfl) (by rw[H1.out.2]),rfl⟩
 ·have H1:=hidE (show K=4/\E=k by rw[HK.out,HE.out,hf,num_pos _ n hn h0];exact⟨rfl,hk⟩)
  have dk:((k:Int) ==(i:Int))=false:=by rw[Bool.eq_false_iff];intro h;simp at h;omega
  clear hn hk h0 hf
  go_enter Tryz.func80,Tryz.ntmps80
  go_wp2_with (first|(go_at_call 130;refine(ref_letter _ _).mono ?_;rintro e w' ⟨rfl,rfl⟩)|(go_at_call 131;refine(ref_digit _ _).mono ?_;rintro e w' ⟨rfl,rfl⟩)|(go_at_call 132;refine RN.mono ?_;rintro e w' ⟨rfl,rfl⟩))
  go_ret2
  exact⟨ret_2 (by rw[H1.out.1];rfl) (by rw[H1.out.2]),rfl⟩
set_option maxHeartbeats 800000 in
theorem one_quest(s:ByteArray)(i:Nat)(w:World)(hs:s.size<=4000)(hi:i<s.size)(hl:isLet s[i]=false)(hd:isDig s[i]=false)(hq:s[i]=63) :
  Calls Tryz.prog 80 #[.string s,.int .i64 i] w λe w'=>e=.returned (.tuple #[.int .i64 ((first (s.data.toList.drop i)).1:Nat),.int .i64 ((i+(first (s.data.toList.drop i)).2:Nat):Int)])/\w=w':=by
 obtain⟨K,hK⟩:∃K,K=(first (s.data.toList.drop i)).1:=⟨_,rfl⟩
 obtain⟨E,hE⟩:∃E,E=i+(first (s.data.toList.drop i)).2:=⟨_,rfl⟩
 have HK:=hidE hK
 have HE:=hidE hE
 rw[<-hK,<-hE]
 clear hK hE
 have hns:=num_size s (i+1) (by omega)
 have RN:=ref_number s (i+1) w hs (by omega)
 obtain⟨n,hn⟩:∃n,(number (s.data.toList.drop (i+1))).2=n:=⟨_,rfl⟩
 obtain⟨k,hk⟩:∃k,i+1+n=k:=⟨_,rfl⟩
 rw[hn,hk]at RN hns
 have RN:Calls Tryz.prog 132 #[.string s,.int .i64 ((i:Int)+1)] w λe w'=>e=.returned (.int .i64 (k:Nat))/\w=w':=RN
 have hf:=one_meta s i hi hl hd hq
 have q1:((s[i].toNat:Int)==63)=true:=u8t _ 63 hq
 have hdd:(s.data.toList.drop i).drop 1=s.data.toList.drop (i+1):=by rw[List.drop_drop]
 by_cases h0:n=0
 ·have H1:=hidE (show K=0/\E=i by rw[HK.out,HE.out,hf,meta_,hdd,if_pos (hn.trans h0)];exact⟨rfl,rfl⟩)
  have dk:((k:Int) ==(i:Int)+1)=true:=by simp;omega
  clear hn hk h0 hf hq hdd
  go_enter Tryz.func80,Tryz.ntmps80
  go_wp2_with (first|(go_at_call 130;refine(ref_letter _ _).mono ?_;rintro e w' ⟨rfl,rfl⟩)|(go_at_call 131;refine(ref_digit _ _).mono ?_;rintro e w' ⟨rfl,rfl⟩)|(go_at_call 132;refine RN.mono ?_;rintro e w' ⟨rfl,rfl⟩))
  go_ret2
  exact⟨ret_2 (by rw[H1.out.1];rfl) (by rw[H1.out.2]),rfl⟩
 ·have H1:=hidE (show K=5/\E=k by rw[HK.out,HE.out,hf,meta_,hdd,if_neg (by rw[hn];exact h0),hn];exact⟨rfl,by simp;omega⟩)
  have dk:((k:Int) ==(i:Int)+1)=false:=by rw[Bool.eq_false_iff];intro h;simp at h;omega
  clear hn hk h0 hf hq hdd
  go_enter Tryz.func80,Tryz.ntmps80
  go_wp2_with (first|(go_at_call 130;refine(ref_letter _ _).mono ?_;rintro e w' ⟨rfl,rfl⟩)|(go_at_call 131;refine(ref_digit _ _).mono ?_;rintro e w' ⟨rfl,rfl⟩)|(go_at_call 132;refine RN.mono ?_;rintro e w' ⟨rfl,rfl⟩))
  go_ret2
  exact⟨ret_2 (by rw[H1.out.1];rfl) (by rw[H1.out.2]),rfl⟩
theorem pre_at(s:ByteArray)(i:Nat)(a:UInt8)(hi:i<s.size):pre [a,62] (s.data.toList.drop i)=(a==s[i] &&(if h:i+1<s.size then(62:UInt8)==s[i+1] else false)):=by
 rw[drop_at s i hi]
 by_cases h:i+1<s.size
 ·rw[dif_pos h,drop_at s (i+1) h]
  simp[pre,List.isPrefixOf]
 ·rw[dif_neg h,List.drop_eq_nil_of_le (by rw[<-Lib.size_eq];omega)]
  simp[pre,List.isPrefixOf]
theorem sign_arrow(s:ByteArray)(i:Nat)(hi:i<s.size)(h1:i+1<s.size)(h62:s[i+1]=62)(h:s[i]=45\/s[i]=124):sign (s.data.toList.drop i)=(6,2):=by
 refine sign_two _ ?_
 rw[pre_at s i 45 hi,pre_at s i 124 hi,dif_pos h1,h62]
 rcases h with h|h <;> rw[h] <;> decide
theorem no_arrow(s:ByteArray)(i:Nat)(hi:i<s.size)(h:∀h1:i+1<s.size,s[i+1]=62->¬(s[i]=45\/s[i]=124)):pre [45,62] (s.data.toList.drop i)=false/\pre [124,62] (s.data.toList.drop i)=false:=by
 rw[pre_at s i 45 hi,pre_at s i 124 hi]
 by_cases h1:i+1<s.size
 ·rw[dif_pos h1]
  by_cases h62:s[i+1]=62
  ·have:=h h1 h62
   constructor <;> rw[Bool.and_eq_false_iff] <;> left <;> rw[beq_eq_false_iff_ne] <;> intro e <;> exact this (by simp[<-e])
  ·have e:((62:UInt8)==s[i+1])=false:=by rw[beq_eq_false_iff_ne];exact λe=>h62 e.symm
   rw[e];simp
 ·rw[dif_neg h1];simp
def SG:ByteArray:=⟨#[92,58,61,59,123,125,40,41,46,126,64,60,62,44,91,93,33]⟩
theorem sg_size:SG.size=17:=rfl
theorem sg_mem(c:UInt8):c∈signs↔∃(k:Nat)(h:k<SG.size),SG[k]=c:=by
 rw[show signs=SG.data.toList from rfl]
 constructor
 ·intro h
  obtain⟨k,hk,e⟩:=List.getElem_of_mem h
  exact⟨k,by simpa using hk,by rw[<-e];rfl⟩
 ·rintro⟨k,hk,e⟩
  rw[<-e]
  exact List.mem_iff_getElem.2 ⟨k,by simpa using hk,rfl⟩
set_option maxHeartbeats 800000 in
theorem one_arrow(s:ByteArray)(i:Nat)(w:World)(hs:s.size<=4000)(hi:i<s.size)(hl:isLet s[i]=false)(hd:isDig s[i]=false)(hq:¬s[i]=63)(h1:i+1<s.size)(h62:s[i+1]=62)(h:s[i]=45\/s[i]=124) :
  Calls Tryz.prog 80 #[.string s,.int .i64 i] w λe w'=>e=.returned (.tuple #[.int .i64 ((first (s.data.toList.drop i)).1:Nat),.int .i64 ((i+(first (s.data.toList.drop i)).2:Nat):Int)])/\w=w':=by
 obtain⟨K,hK⟩:∃K,K=(first (s.data.toList.drop i)).1:=⟨_,rfl⟩
 obtain⟨E,hE⟩:∃E,E=i+(first (s.data.toList.drop i)).2:=⟨_,rfl⟩
 have HK:=hidE hK
 have HE:=hidE hE
 rw[<-hK,<-hE]
 clear hK hE
 have hf:=one_sign s i hi hl hd hq
 have H1:=hidE (show K=6/\E=i+2 by rw[HK.out,HE.out,hf,sign_arrow s i hi h1 h62 h];exact⟨rfl,rfl⟩)
 have q1:((s[i].toNat:Int)==63)=false:=u8f _ 63 hq
 have q2:((s[i+1].toNat:Int)==62)=true:=u8t _ 62 h62
 clear hf hq h62
 rcases h with h|h
 ·have q3:((s[i].toNat:Int)==45)=true:=u8t _ 45 h
  clear h
  go_enter Tryz.func80,Tryz.ntmps80
  go_wp2_with (first|(go_at_call 130;refine(ref_letter _ _).mono ?_;rintro e w' ⟨rfl,rfl⟩)|(go_at_call 131;refine(ref_digit _ _).mono ?_;rintro e w' ⟨rfl,rfl⟩))
  go_ret2
  exact⟨ret_2 (by rw[H1.out.1];rfl) (by rw[H1.out.2];simp),rfl⟩
 ·have q3:((s[i].toNat:Int)==45)=false:=u8f _ 45 (by rw[h];decide)
  have q4:((s[i].toNat:Int)==124)=true:=u8t _ 124 h
  clear h
  go_enter Tryz.func80,Tryz.ntmps80
  go_wp2_with (first|(go_at_call 130;refine(ref_letter _ _).mono ?_;rintro e w' ⟨rfl,rfl⟩)|(go_at_call 131;refine(ref_digit _ _).mono ?_;rintro e w' ⟨rfl,rfl⟩))
  go_ret2
  exact⟨ret_2 (by rw[H1.out.1];rfl) (by rw[H1.out.2];simp),rfl⟩
set_option maxHeartbeats 1600000 in
theorem one_other(s:ByteArray)(i:Nat)(w:World)(hs:s.size<=4000)(hi:i<s.size)(hl:isLet s[i]=false)(hd:isDig s[i]=false)(hq:¬s[i]=63)(hno:∀h1:i+1<s.size,s[i+1]=62->¬(s[i]=45\/s[i]=124)) :
  Calls Tryz.prog 80 #[.string s,.int .i64 i] w λe w'=>e=.returned (.tuple #[.int .i64 ((first (s.data.toList.drop i)).1:Nat),.int .i64 ((i+(first (s.data.toList.drop i)).2:Nat):Int)])/\∃n,w'=w.drewN n:=by
 obtain⟨K,hK⟩:∃K,K=(first (s.data.toList.drop i)).1:=⟨_,rfl⟩
 obtain⟨E,hE⟩:∃E,E=i+(first (s.data.toList.drop i)).2:=⟨_,rfl⟩
 have HK:=hidE hK
 have HE:=hidE hE
 rw[<-hK,<-hE]
 clear hK hE
 have hf:=one_sign s i hi hl hd hq
 have hna:=no_arrow s i hi hno
 obtain⟨G,hG⟩:∃G,(⟨#[92,58,61,59,123,125,40,41,46,126,64,60,62,44,91,93,33]⟩:ByteArray)=G:=⟨_,rfl⟩
 have q1:((s[i].toNat:Int)==63)=false:=u8f _ 63 hq
 clear hq
 by_cases h1:i+1<s.size
 ·by_cases h62:s[i+1]=62
  ·have hn2:=hno h1 h62
   have q2:((s[i+1].toNat:Int)==62)=true:=u8t _ 62 h62
   have q3:((s[i].toNat:Int)==45)=false:=u8f _ 45 (λe=>hn2 (.inl e))
   have q4:((s[i].toNat:Int)==124)=false:=u8f _ 124 (λe=>hn2 (.inr e))
   clear hno hn2 h62
   go_enter Tryz.func80,Tryz.ntmps80
   go_wp2_with (first|(go_at_call 130;refine(ref_letter _ _).mono ?_;rintro e w' ⟨rfl,rfl⟩)|(go_at_call 131;refine(ref_digit _ _).mono ?_;rintro e w' ⟨rfl,rfl⟩))
   go_loopg [12] 17 (λgg v wr=>∃k m:Nat,gg=17-k/\v=.int .i64 k/\wr=w.drewN m/\k<=17/\∀j (hj:j<SG.size),j<k->SG[j]≠s[i])
   case atStart=>exact⟨0,0,rfl,rfl,rfl,by omega,λj _ h=>absurd h (by omega)⟩
   case round =>
    obtain⟨k,m,rfl,rfl,rfl,hk,hn⟩:=hrel
    have HNO:=hidE hn
    clear hn
    have hz:G.size<=17/\17<=G.size:=by rw[<-hG];exact⟨Nat.le_refl _,Nat.le_refl _⟩
    obtain⟨hz1,hz2⟩:=hz
    by_cases hlt:k<G.size
    ·have hlt2:k<SG.size:=by rw[sg_size];omega
     have hGk:G[k]=SG[k]:=by simp only[<-hG];rfl
     by_cases he:SG[k]=s[i]
     ·have q9:((G[k].toNat:Int) ==(s[i].toNat:Int))=true:=u8t _ _ (hGk.trans he)
      have H1:=hidE (show K=6/\E=i+1 by rw[HK.out,HE.out,hf,sign_one _ hna.1 hna.2 (by rw[head_drop s i hi];exact(sg_mem _).2 ⟨k,hlt2,he⟩)];exact⟨rfl,rfl⟩)
      clear hf hna hGk he
      go_wp2_with fail
      go_quiet (fail)
      go_wp2_with fail
      go_ret2
      exact⟨ret_2 (by rw[H1.out.1];rfl) (by rw[H1.out.2];simp),_,rfl⟩
     ·have q9:((G[k].toNat:Int) ==(s[i].toNat:Int))=false:=u8f _ _ (λe=>he (hGk.symm.trans e))
      have HS:Hid (∀j (hj:j<SG.size),j<k+1->SG[j]≠s[i]):=by
       intro j hj hjk
       by_cases e:j=k
       ·subst e;exact he
       ·exact HNO.out j hj (by omega)
      clear hf hna hGk he
      go_wp2_with fail
      go_quiet (fail)
      go_wp2_with fail
      go_roundg (17-(k+1))
      case measure=>omega
      case rel=>exact⟨k+1,_,rfl,by go_num,rfl,by omega,HS.out⟩
    ·have H1:=hidE (show K=0/\E=i by
      rw[HK.out,HE.out,hf,sign_none _ hna.1 hna.2 (by
       rw[head_drop s i hi]
       intro hm
       obtain⟨j,hj,e⟩:=(sg_mem _).1 hm
       exact HNO.out j hj (by rw[sg_size]at hj;omega) e)]
      exact⟨rfl,rfl⟩)
     clear hf hna
     go_wp2_with fail
     go_ret2
     exact⟨ret_2 (by rw[H1.out.1];rfl) (by rw[H1.out.2]),_,rfl⟩
  ·have q2:((s[i+1].toNat:Int)==62)=false:=u8f _ 62 h62
   clear hno h62
   go_enter Tryz.func80,Tryz.ntmps80
   go_wp2_with (first|(go_at_call 130;refine(ref_letter _ _).mono ?_;rintro e w' ⟨rfl,rfl⟩)|(go_at_call 131;refine(ref_digit _ _).mono ?_;rintro e w' ⟨rfl,rfl⟩))
   go_loopg [12] 17 (λgg v wr=>∃k m:Nat,gg=17-k/\v=.int .i64 k/\wr=w.drewN m/\k<=17/\∀j (hj:j<SG.size),j<k->SG[j]≠s[i])
   case atStart=>exact⟨0,0,rfl,rfl,rfl,by omega,λj _ h=>absurd h (by omega)⟩
   case round =>
    obtain⟨k,m,rfl,rfl,rfl,hk,hn⟩:=hrel
    have HNO:=hidE hn
    clear hn
    have hz:G.size<=17/\17<=G.size:=by rw[<-hG];exact⟨Nat.le_refl _,Nat.le_refl _⟩
    obtain⟨hz1,hz2⟩:=hz
    by_cases hlt:k<G.size
    ·have hlt2:k<SG.size:=by rw[sg_size];omega
     have hGk:G[k]=SG[k]:=by simp only[<-hG];rfl
     by_cases he:SG[k]=s[i]
     ·have q9:((G[k].toNat:Int) ==(s[i].toNat:Int))=true:=u8t _ _ (hGk.trans he)
      have H1:=hidE (show K=6/\E=i+1 by rw[HK.out,HE.out,hf,sign_one _ hna.1 hna.2 (by rw[head_drop s i hi];exact(sg_mem _).2 ⟨k,hlt2,he⟩)];exact⟨rfl,rfl⟩)
      clear hf hna hGk he
      go_wp2_with fail
      go_quiet (fail)
      go_wp2_with fail
      go_ret2
      exact⟨ret_2 (by rw[H1.out.1];rfl) (by rw[H1.out.2];simp),_,rfl⟩
     ·have q9:((G[k].toNat:Int) ==(s[i].toNat:Int))=false:=u8f _ _ (λe=>he (hGk.symm.trans e))
      have HS:Hid (∀j (hj:j<SG.size),j<k+1->SG[j]≠s[i]):=by
       intro j hj hjk
       by_cases e:j=k
       ·subst e;exact he
       ·exact HNO.out j hj (by omega)
      clear hf hna hGk he
      go_wp2_with fail
      go_quiet (fail)
      go_wp2_with fail
      go_roundg (17-(k+1))
      case measure=>omega
      case rel=>exact⟨k+1,_,rfl,by go_num,rfl,by omega,HS.out⟩
    ·have H1:=hidE (show K=0/\E=i by
      rw[HK.out,HE.out,hf,sign_none _ hna.1 hna.2 (by
       rw[head_drop s i hi]
       intro hm
       obtain⟨j,hj,e⟩:=(sg_mem _).1 hm
       exact HNO.out j hj (by rw[sg_size]at hj;omega) e)]
      exact⟨rfl,rfl⟩)
     clear hf hna
     go_wp2_with fail
     go_ret2
     exact⟨ret_2 (by rw[H1.out.1];rfl) (by rw[H1.out.2]),_,rfl⟩
 ·clear hno
  go_enter Tryz.func80,Tryz.ntmps80
  go_wp2_with (first|(go_at_call 130;refine(ref_letter _ _).mono ?_;rintro e w' ⟨rfl,rfl⟩)|(go_at_call 131;refine(ref_digit _ _).mono ?_;rintro e w' ⟨rfl,rfl⟩))
  go_loopg [12] 17 (λgg v wr=>∃k m:Nat,gg=17-k/\v=.int .i64 k/\wr=w.drewN m/\k<=17/\∀j (hj:j<SG.size),j<k->SG[j]≠s[i])
  case atStart=>exact⟨0,0,rfl,rfl,rfl,by omega,λj _ h=>absurd h (by omega)⟩
  case round =>
   obtain⟨k,m,rfl,rfl,rfl,hk,hn⟩:=hrel
   have HNO:=hidE hn
   clear hn
   have hz:G.size<=17/\17<=G.size:=by rw[<-hG];exact⟨Nat.le_refl _,Nat.le_refl _⟩
   obtain⟨hz1,hz2⟩:=hz
   by_cases hlt:k<G.size
   ·have hlt2:k<SG.size:=by rw[sg_size];omega
    have hGk:G[k]=SG[k]:=by simp only[<-hG];rfl
    by_cases he:SG[k]=s[i]
    ·have q9:((G[k].toNat:Int) ==(s[i].toNat:Int))=true:=u8t _ _ (hGk.trans he)
     have H1:=hidE (show K=6/\E=i+1 by rw[HK.out,HE.out,hf,sign_one _ hna.1 hna.2 (by rw[head_drop s i hi];exact(sg_mem _).2 ⟨k,hlt2,he⟩)];exact⟨rfl,rfl⟩)
     clear hf hna hGk he
     go_wp2_with fail
     go_quiet (fail)
     go_wp2_with fail
     go_ret2
     exact⟨ret_2 (by rw[H1.out.1];rfl) (by rw[H1.out.2];simp),_,rfl⟩
    ·have q9:((G[k].toNat:Int) ==(s[i].toNat:Int))=false:=u8f _ _ (λe=>he (hGk.symm.trans e))
     have HS:Hid (∀j (hj:j<SG.size),j<k+1->SG[j]≠s[i]):=by
      intro j hj hjk
      by_cases e:j=k
      ·subst e;exact he
      ·exact HNO.out j hj (by omega)
     clear hf hna hGk he
     go_wp2_with fail
     go_quiet (fail)
     go_wp2_with fail
     go_roundg (17-(k+1))
     case measure=>omega
     case rel=>exact⟨k+1,_,rfl,by go_num,rfl,by omega,HS.out⟩
   ·have H1:=hidE (show K=0/\E=i by
     rw[HK.out,HE.out,hf,sign_none _ hna.1 hna.2 (by
      rw[head_drop s i hi]
      intro hm
      obtain⟨j,hj,e⟩:=(sg_mem _).1 hm
      exact HNO.out j hj (by rw[sg_size]at hj;omega) e)]
     exact⟨rfl,rfl⟩)
    clear hf hna
    go_wp2_with fail
    go_ret2
    exact⟨ret_2 (by rw[H1.out.1];rfl) (by rw[H1.out.2]),_,rfl⟩
set_option maxHeartbeats 400000 in
theorem ref_one(s:ByteArray)(i:Nat)(w:World)(hs:s.size<=4000)(hi:i<s.size) :
  Calls Tryz.prog 80 #[.string s,.int .i64 i] w λe w'=>e=.returned (.tuple #[.int .i64 ((first (s.data.toList.drop i)).1:Nat),.int .i64 ((i+(first (s.data.toList.drop i)).2:Nat):Int)])/\∃n,w'=w.drewN n:=by
 by_cases hl:isLet s[i]=true
 ·exact(one_letter s i w hs hi hl).mono λe w' h=>⟨h.1,0,h.2.symm⟩
 ·have hl:isLet s[i]=false:=by simpa using hl
  by_cases hd:isDig s[i]=true
  ·exact(one_digit s i w hs hi hl hd).mono λe w' h=>⟨h.1,0,h.2.symm⟩
  ·have hd:isDig s[i]=false:=by simpa using hd
   by_cases hq:s[i]=63
   ·exact(one_quest s i w hs hi hl hd hq).mono λe w' h=>⟨h.1,0,h.2.symm⟩
   ·by_cases h:∃h1:i+1<s.size,s[i+1]=62/\(s[i]=45\/s[i]=124)
    ·obtain⟨h1,h62,ha⟩:=h
     exact(one_arrow s i w hs hi hl hd hq h1 h62 ha).mono λe w' h=>⟨h.1,0,h.2.symm⟩
    ·exact one_other s i w hs hi hl hd hq (λh1 h62 ha=>h ⟨h1,h62,ha⟩)
end Go.Proofs.YtknkclefoiohpaaGreatDoor

namespace Go.Proofs.YtknkclefoiohpaaGreatDoor
open Go.RowKit Lx
set_option maxRecDepth 100000
def scM(m:Bool)(i:Nat)(l:List UInt8):Except Nat (List Tok) :=
 if l.drop (btw m l)=[] then .ok []
 else if(first (l.drop (btw m l))).1=0 then .error (i+btw m l)
 else(sc (i+btw m l+(first (l.drop (btw m l))).2) ((l.drop (btw m l)).drop (first (l.drop (btw m l))).2)).map (⟨(first (l.drop (btw m l))).1,(l.drop (btw m l)).take (first (l.drop (btw m l))).2,i+btw m l⟩::·)
theorem sc_scM(i:Nat)(l:List UInt8):sc i l=scM false i l:=sc_unfold i l
theorem scM_shift(m m':Bool)(i:Nat)(c:UInt8)(r:List UInt8)(h:btw m (c::r)=btw m' r+1):scM m i (c::r)=scM m' (i+1) r:=by
 unfold scM
 rw[h,List.drop_succ_cons,show i+(btw m' r+1)=i+1+btw m' r by omega]
theorem scM_same(m m':Bool)(i:Nat)(l:List UInt8)(h:btw m l=btw m' l):scM m i l=scM m' i l:=by
 unfold scM
 rw[h]
def KnownT(s:ByteArray)(k:Nat)(ts:List Tok):Prop:=lex s.data.toList=(scM true k (s.data.toList.drop k)).map (ts++·)/\ts.length<=k
theorem known_blank(s:ByteArray)(i:Nat)(ts:List Tok)(hk:Known s i ts)(hi:i<s.size)(hb:s[i]=32\/s[i]=9\/s[i]=10):Known s (i+1) ts:=by
 refine⟨?_,by have:=hk.2;omega⟩
 rw[hk.1,drop_at s i hi,sc_scM,scM_shift false false i _ _ (by rw[btw,if_pos hb]),sc_scM]
theorem known_hash(s:ByteArray)(i:Nat)(ts:List Tok)(hk:Known s i ts)(hi:i<s.size)(h35:s[i]=35):KnownT s i ts:=by
 refine⟨?_,hk.2⟩
 rw[hk.1,sc_scM,scM_same false true i _ (bt_remark s i hi h35)]
theorem knownT_step(s:ByteArray)(k:Nat)(ts:List Tok)(hk:KnownT s k ts)(hi:k<s.size)(h:¬s[k]=10):KnownT s (k+1) ts:=by
 refine⟨?_,by have:=hk.2;omega⟩
 have hb:(s[k] != 10)=true:=by simpa using h
 rw[hk.1,drop_at s k hi,scM_shift true true k _ _ (by rw[btw,hb])]
theorem knownT_nl(s:ByteArray)(k:Nat)(ts:List Tok)(hk:KnownT s k ts)(hi:k<s.size)(h:s[k]=10):Known s k ts:=by
 refine⟨?_,hk.2⟩
 rw[hk.1,sc_scM,drop_at s k hi,h,scM_same true false k _ (by simp[btw])]
theorem knownT_end(s:ByteArray)(k:Nat)(ts:List Tok)(hk:KnownT s k ts)(hi:s.size<=k):Known s k ts:=by
 refine⟨?_,hk.2⟩
 rw[hk.1,sc_scM,List.drop_eq_nil_of_le (by rw[<-Lib.size_eq];exact hi)]
 rfl
theorem tok_step(s:ByteArray)(i:Nat)(hi:i<s.size)(hb:¬(s[i]=32\/s[i]=9\/s[i]=10))(h35:¬s[i]=35):Step s i i (i+(first (s.data.toList.drop i)).2) (first (s.data.toList.drop i)).1:=by
 have h2:=first_le (s.data.toList.drop i)
 rw[List.length_drop,<-Lib.size_eq]at h2
 refine⟨Nat.le_refl _,by omega,by omega,?_,by rw[Nat.add_sub_cancel_left]⟩
 rw[drop_at s i hi,btw,if_neg hb,if_neg h35]
 omega
def RHead(s:ByteArray)(g:Nat)(w:World)(v x:Value)(wr:World):Prop :=
 ∃i ts,g=s.size-i/\i<=s.size/\x=.int .i64 (i:Nat)/\Known s i ts/\wr.ownsRow w.heap.size 152 3 v ts.length (toksV ts)/\Below w.heap.size w wr
theorem ownsRow_drewN {w:World} {base:Nat} {e:TypeId} {v:Value} {n:Nat} {xs:List Value}(h:w.ownsRow base e 3 v n xs)(k:Nat):(w.drewN k).ownsRow base e 3 v n xs:=h
theorem rhead_next(s:ByteArray)(w wr w2:World)(v v':Value)(i q k:Nat)(ts:List Tok)
  (st:Step s i i q k)(kn:Known s i ts)(hi:i<s.size)(h0:k≠0)(hbel:Below w.heap.size w wr)
  (hown:wr.ownsRow w.heap.size 152 3 v ts.length (toksV ts))
  (hgr:(wr.alloc (.cells #[.int .i64 (k:Nat),.string (s.extract i q),.int .i64 (i:Nat)] 152)).grownBy w2 v.ownBlock)
  (how:w2.ownsRow w.heap.size 152 3 v' (ts.length+1) (toksV ts++[.int .i64 (k:Nat),.string (s.extract i q),.int .i64 (i:Nat)])) :
  i<q/\RHead s (s.size-q) w v' (.int .i64 (q:Nat)) w2:=by
 obtain⟨hq,kn'⟩:=known_next s i i q k ts kn st hi h0
 refine⟨hq,q,_,rfl,st.2.2.1,rfl,kn',?_,?_⟩
 ·rw[toksV_snoc,tokV_extract,List.length_append]
  exact how
 ·exact(hbel.alloc hbel.size _).grown hgr (by have:=hbel.size;simp;omega) (λm hm=>(hown.lt m hm).1)
theorem ref_long(s:ByteArray)(w:World)(hs:s.size<=maxLen)(hl:4000<s.size):Calls Tryz.prog 32 #[.string s] w (ScanPost s w):=by
 have HS:Hid (scanS s.data.toList=([],0,2)):=by
  refine hidE ?_
  unfold scanS
  rw[if_pos (by rw[<-Lib.size_eq];exact hl)]
 unfold maxLen at hs
 go_enter Tryz.func32,Tryz.ntmps32
 go_wp2
 go_ret3
 exact⟨Below.refl _ _,_,[],0,2,HS.out,rfl,World.ownsRow_nil _ _ _ _⟩
set_option maxHeartbeats 1600000 in
theorem ref_short(s:ByteArray)(w:World)(hl:s.size<=4000):Calls Tryz.prog 32 #[.string s] w (ScanPost s w):=by
 obtain⟨i0,hi0,hz0,hz1,hz2⟩:=info_parts tok_info
 go_enter Tryz.func32,Tryz.ntmps32
 go_wp2_with fail
 go_loopg [5,6] s.size (λg v x wr=>RHead s g w v x wr)
 case atStart=>exact⟨0,[],rfl,Nat.zero_le _,rfl,known_start s,World.ownsRow_nil _ _ _ _,Below.refl _ _⟩
 case round =>
  obtain⟨i,ts,rfl,hi,rfl,kn,hown,hbel⟩:=hrel
  have KN:=hidE kn
  have HOWN:=hidE hown
  have HBEL:=hidE hbel
  clear kn hown hbel
  by_cases hlt:i<s.size
  ·by_cases hb:s[i]=32\/s[i]=9\/s[i]=10
   ·have HK:=hidE (known_blank s i ts KN.out hlt hb)
    have bb:(((s[i].toNat:Int)==32)=true)\/(((s[i].toNat:Int)==32)=false/\((s[i].toNat:Int)==9)=true)\/(((s[i].toNat:Int)==32)=false/\((s[i].toNat:Int)==9)=false/\((s[i].toNat:Int)==10)=true):=by
     rcases hb with h|h|h
     ·exact .inl (u8t _ 32 h)
     ·exact .inr (.inl ⟨u8f _ 32 (by rw[h];decide),u8t _ 9 h⟩)
     ·exact .inr (.inr ⟨u8f _ 32 (by rw[h];decide),u8f _ 9 (by rw[h];decide),u8t _ 10 h⟩)
    clear hb
    rcases bb with b1|⟨b1,b2⟩|⟨b1,b2,b3⟩
    all_goals
     go_wp2_with fail
     go_roundg (s.size-(i+1))
     case measure=>omega
     case rel=>exact⟨i+1,ts,rfl,by omega,by go_num,HK.out,HOWN.out,HBEL.out⟩
   ·have b1:((s[i].toNat:Int)==32)=false:=u8f _ 32 (λe=>hb (.inl e))
    have b2:((s[i].toNat:Int)==9)=false:=u8f _ 9 (λe=>hb (.inr (.inl e)))
    have b3:((s[i].toNat:Int)==10)=false:=u8f _ 10 (λe=>hb (.inr (.inr e)))
    by_cases h35:s[i]=35
    ·have b4:((s[i].toNat:Int)==35)=true:=u8t _ 35 h35
     have HT:=hidE (known_hash s i ts KN.out hlt h35)
     have H35:=hidE h35
     clear hb h35
     go_wp2_with fail
     obtain⟨wo,hwo⟩:∃wo:World,wo=wr:=⟨_,rfl⟩
     have HWO:=hidE hwo
     clear hwo
     go_loopg [6] (s.size-i) (λg x wi=>∃k:Nat,g=s.size-k/\x=.int .i64 k/\wi=wr/\i<=k/\k<=s.size/\KnownT s k ts)
     case atStart=>exact⟨i,rfl,rfl,rfl,Nat.le_refl _,by omega,HT.out⟩
     case round =>
      obtain⟨k,rfl,rfl,rfl,hik,hk,kt⟩:=hrel
      have KT:=hidE kt
      clear kt
      by_cases hkl:k<s.size
      ·by_cases h10:s[k]=10
       ·have b5:((s[k].toNat:Int) != 10)=false:=by rw[h10];rfl
        have HKN:=hidE (knownT_nl s k ts KT.out hkl h10)
        have hne:i<k:=by
         rcases Nat.lt_or_ge i k with h|h
         ·exact h
         ·have e:i=k:=by omega
          have h35':=H35.out
          subst e
          rw[h35']at h10
          exact absurd h10 (by decide)
        clear h10
        go_wp2_with fail
        go_roundg (s.size-k)
        case measure=>omega
        case rel=>exact⟨k,ts,rfl,hk,rfl,HKN.out,HOWN.out,HBEL.out⟩
       ·have b5:((s[k].toNat:Int) != 10)=true:=by
         have h10f:((s[k].toNat:Int)==10)=false:=u8f _ 10 h10
         rw[bne,h10f];rfl
        have HKT:=hidE (knownT_step s k ts KT.out hkl h10)
        clear h10
        go_wp2_with fail
        go_roundg (s.size-(k+1))
        case measure=>omega
        case rel=>exact⟨k+1,rfl,by go_num,rfl,by omega,by omega,HKT.out⟩
      ·have HKN:=hidE (knownT_end s k ts KT.out (by omega))
       go_wp2_with fail
       go_roundg (s.size-k)
       case measure=>omega
       case rel=>exact⟨k,ts,rfl,hk,rfl,HKN.out,HOWN.out,HBEL.out⟩
    ·have b4:((s[i].toNat:Int)==35)=false:=u8f _ 35 h35
     have hst:=tok_step s i hlt hb h35
     have RO:=λw=>ref_one s i w hl hlt
     obtain⟨k,hk⟩:∃k,(first (s.data.toList.drop i)).1=k:=⟨_,rfl⟩
     obtain⟨q,hq⟩:∃q,i+(first (s.data.toList.drop i)).2=q:=⟨_,rfl⟩
     rw[hk,hq]at hst RO
     have ST:=hidE hst
     have htl:=KN.out.2
     have hqs:=hst.2.2.1
     have hiq:=hst.2.1
     clear hst hk hq hb h35
     by_cases h0:k=0
     ·have hkb:((k:Int)==0)=true:=by rw[h0];rfl
      have H0:=hidE h0
      clear h0
      go_wp2_with (go_at_call 80;refine(RO _).mono ?_;rintro e w' ⟨rfl,m,rfl⟩)
      go_ret3
      exact⟨below_drewN' HBEL.out _,_,[],i,10,scan_bad s i hl (known_bad s i i q ts KN.out (H0.out▸ST.out) hlt),rfl,World.ownsRow_nil _ _ _ _⟩
     ·have hkb:((k:Int)==0)=false:=by rw[Bool.eq_false_iff];intro h;simp at h;omega
      have H0:=hidE h0
      clear h0
      go_wp2_with (first
       |(go_at_call 80;refine(RO _).mono ?_;rintro e w' ⟨rfl,m,rfl⟩)
       |(at_builtin;refine wpList_append_own _ rfl (.tmp 59) (.tmp 67) 76 rfl w.heap.size 152 i0 _ 3 32 Tryz.underlying76 hi0 hz0 hz1 hz2 rfl (by decide) u5 ts.length (toksV ts) rfl (ownsRow_drewN (HOWN.out.alloc _) m) ⟨wr.heap.size,0,none⟩ 1 1 [.int .i64 (k:Nat),.string (s.extract i q),.int .i64 (i:Nat)] rfl rfl (new_cells wr #[.int .i64 (k:Nat),.string (s.extract i q),.int .i64 (i:Nat)] _) (by intro u hu;simp at hu;rcases hu with rfl|rfl|rfl <;> rfl) (by unfold maxLen;omega) (by omega) (by have:=HBEL.out.size;simp;omega) ?_;intro v' w2 hown' hgrow _;have HGR:=hidE hgrow;have HOW2:=hidE hown';clear hown' hgrow))
      have hnx:=rhead_next s w wr w2 u5 v' i q k ts ST.out KN.out hlt H0.out HBEL.out HOWN.out ⟨HGR.out.os,HGR.out.tape,HGR.out.output,HGR.out.size,HGR.out.block⟩ HOW2.out
      go_roundg (s.size-q)
      case measure=>have:=hnx.1;omega
      case rel=>exact hnx.2
  ·go_wp2_with fail
   go_ret3
   have hsz:i=s.size:=by omega
   obtain⟨p',q',k',st⟩:=step_of s i hi
   exact⟨HBEL.out,_,ts,0,0,scan_ok s ts hl (known_done s i p' q' k' ts KN.out st (by have:=st.1;omega)),rfl,HOWN.out⟩
theorem ref_any(s:ByteArray)(w:World)(hs:s.size<=maxLen):Calls Tryz.prog 32 #[.string s] w (ScanPost s w):=by
 by_cases h:4000<s.size
 ·exact ref_long s w hs h
 ·exact ref_short s w (by omega)
end Go.Proofs.YtknkclefoiohpaaGreatDoor
