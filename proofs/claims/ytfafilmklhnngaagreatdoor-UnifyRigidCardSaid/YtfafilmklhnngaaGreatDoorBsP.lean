import Derived.Test.YtfafilmklhnngaaGreatDoorBsM
import Derived.Shelf.Strings.BuilderK
import Derived.Lib.FrozenHead2
import Derived.Lib.OthersKept
set_option maxHeartbeats 12800000
set_option maxRecDepth 100000
namespace Go.Proofs.YtfafilmklhnngaaGreatDoor
open Tryz
section
open Go.RowKit Lx Tx
set_option maxRecDepth 100000
theorem zi7:(prog.info? 163).map (·.size)=some 2:=by kernel_rfl
theorem zhV:(prog.info? 5).map (λi=>(i.zero,i.size,i.bytes))=some (some (.int .u8 0),1,1):=by kernel_rfl
theorem zfo(b:Nat)(w:World)(h0:w.cell? ⟨b,0,none⟩=some (.pointer none))(hsh:w.shape? b=some (163,2))(Xf:w.frozen? ⟨b,0,none⟩=false):Calls prog 175 #[.pointer (some ⟨b,0,none⟩)] w λe w'=>e=.returned (.tuple #[])/\w'=w.setCell ⟨b,0,none⟩ (.pointer (some ⟨b,0,none⟩)):=by
 obtain⟨j,hj,Tw⟩:=Option.map_eq_some_iff.1 zi7;go_in;go_wp2
 rw[Lib.run_to_unsafe w ⟨b,0,none⟩ underlying161 underlying262 hj (by rw[Tw];decide) hsh (Nat.zero_lt_succ 1)];simp only[Result.andThen];rw[Oper.upon_value];go_wp2
 rw[run_callFunc_extern func194 (by kernel_rfl) (by kernel_rfl) (by kernel_rfl) (e:=Extern.AbiNoEscape.same) (by kernel_rfl)];rw[Lib.run_noEscape];simp only[Result.andThen];rw[Oper.upon_value];go_wp2
 rw[Lib.run_from_unsafe w ⟨b,0,none⟩ underlying262 underlying161 hj hsh (by kernel_rfl)];simp only[Result.andThen];rw[Oper.upon_value];go_wp2
 go_end0
 exact⟨rfl,rfl⟩
theorem zfX(b:Nat)(w:World)(h0:w.cell? ⟨b,0,none⟩=some (.pointer (some ⟨b,0,none⟩))):Calls prog 175 #[.pointer (some ⟨b,0,none⟩)] w λe w'=>e=.returned (.tuple #[])/\w'=w:=by
 obtain⟨j,hj,_⟩:=Option.map_eq_some_iff.1 zi7;go_in;go_wp2
 rw[Lib.run_neq_ptr_same w _ underlying161 hj];go_wp2
 go_end0
 exact⟨rfl,rfl⟩
theorem zfp(B b:Nat)(bs:List Value)(w:World)(h:Lib.IsBuilderF 163 5 B b bs w):Calls prog 175 #[.pointer (some ⟨b,0,none⟩)] w λe w'=>e=.returned (.tuple #[])/\(Lib.BuilderAtF 163 5 B b (.pointer (some ⟨b,0,none⟩)) bs w'/\Below B w w'/\Lib.OthersKept 5 (some b) w w'):=by
 rcases h with h|h
 ·refine(zfo b w h.cell0 h.shape h.frozen0).mono ?_
  rintro e w' ⟨rfl,rfl⟩;exact⟨rfl,h.used _,(Cc B w).setCell (p:=⟨b,0,none⟩) h.1 _,(Lib.OthersKept.refl _ _ w).setCell ⟨b,0,none⟩ rfl _⟩
 ·refine(zfX b w h.cell0).mono ?_
  rintro e w' ⟨rfl,rfl⟩;exact⟨rfl,h,Cc B _,Lib.OthersKept.refl _ _ _⟩
theorem zi8(B b:Nat)(bs:List Value)(c:Int)(w:World)(h:Lib.IsBuilderF 163 5 B b bs w)(hlen:bs.length+1<=140737488355328)(u9:B<=w.heap.size):Calls prog 138 #[.pointer (some ⟨b,0,none⟩),.int .u8 c] w λe w'=>e=.returned .nilIface/\(Lib.BuilderAtF 163 5 B b (.pointer (some ⟨b,0,none⟩)) (bs++[.int .u8 c]) w'/\Below B w w'/\Lib.OthersKept 5 (some b) w w'):=by
 obtain⟨i0,hi,cj,bS,bC⟩:=Dx zhV;go_in;go_wp2_with (go_at_call 175;refine(zfp B b bs _ h).mono ?_);rintro e w1 ⟨rfl,h1,av,aU⟩;obtain⟨hB,v,aq,aj,ai⟩:=h1;have c0:w1.cell? ⟨b,0,none⟩=some (.pointer (some ⟨b,0,none⟩)):=by rw[Lib.cell_of_heap aq];rfl
 have c1:w1.cell? ⟨b,1,none⟩=some v:=by rw[Lib.cell_of_heap aq];rfl
 go_wp2_with (at_builtin;refine wpList_append_ownF _ rfl _ _ 126 rfl B 5 i0 (.int .u8 0) 1 1 underlying126 hi cj bS bC rfl (by decide) _ _ _ rfl (aj.alloc _) ⟨w1.heap.size,0,none⟩ 1 1 [.int .u8 c] rfl rfl ?c1 ?c2 ?c3 ?c4 ?c5 ?_);case c1 =>
  intro j u hj;match j,hj with
  |0,hj=>simp at hj;subst hj;simp[Addr.add]
 case c2=>intro u hu;simp at hu;subst hu;rfl
 case c3=>unfold maxLen;omega
 case c4=>omega
 case c5=>have:=av.size;simp;omega
 intro v' w2 dG ae _;have af:b<w1.heap.size:=by
  rcases Eb b w1.heap.size with h'|h'
  ·exact h'
  ·simp[Es h']at aq
 have aV:w2.heap[b]?=some (.cells #[.pointer (some ⟨b,0,none⟩),v] 163 (0,0)):=by
  rw[ae.block b (by simp;omega) (λe=>ai e.symm),Lib.alloc_old w1 _ b af];exact aq
 have d0:w2.cell? ⟨b,0,none⟩=some (.pointer (some ⟨b,0,none⟩)):=by rw[Lib.cell_of_heap aV];rfl
 have d1:w2.cell? ⟨b,1,none⟩=some v:=by rw[Lib.cell_of_heap aV];rfl
 have f1:w2.frozen? ⟨b,1,none⟩=false:=Lib.frozen_of_heap aV 1;obtain⟨g,cap,rfl⟩:∃g cap,v'=.slice (some ⟨g,0,none⟩) (bs.length+1) cap:=by
  rcases dG.2 with⟨_,h0⟩|⟨g,cap,cur,fz,hv,_⟩
  ·omega
  ·exact⟨g,cap,hv⟩
 go_wp2
 go_ret
 refine⟨rfl,?_,?_,((aU.alloc _).grown ae (Lib.ownsRowF_kind (aj.alloc _))).setCell ⟨b,1,none⟩ rfl _⟩
 ·exact Lib.BuilderAtF.put (T:=163) (e:=5) hB aV (bs':=bs++[.int .u8 c]) (by simpa using dG) (by decide)
 ·exact((av.alloc (by have:=av.size;omega) _).grown ae (by have:=av.size;simp;omega) (λk hk=>(aj.lt k hk).1)).setCell (p:=⟨b,1,none⟩) hB _
theorem zhr(B b:Nat)(bs:List Value)(s:ByteArray)(w:World)(h:Lib.IsBuilderF 163 5 B b bs w)(hlen:bs.length+s.size<=140737488355328)(u9:B<=w.heap.size):Calls prog 172 #[.pointer (some ⟨b,0,none⟩),.string s] w λe w'=>e=.returned (.tuple #[.int .i64 s.size,.nilIface])/\(Lib.BuilderAtF 163 5 B b (.pointer (some ⟨b,0,none⟩)) (bs++Lib.strCells s) w'/\Below B w w'/\Lib.OthersKept 5 (some b) w w'):=by
 obtain⟨i0,hi,cj,bS,bC⟩:=Dx zhV;go_in;go_wp2_with (go_at_call 175;refine(zfp B b bs _ h).mono ?_);rintro e w1 ⟨rfl,h1,av,aU⟩;obtain⟨hB,v,aq,aj,ai⟩:=h1;have c0:w1.cell? ⟨b,0,none⟩=some (.pointer (some ⟨b,0,none⟩)):=by rw[Lib.cell_of_heap aq];rfl
 have c1:w1.cell? ⟨b,1,none⟩=some v:=by rw[Lib.cell_of_heap aq];rfl
 go_wp2_with (at_builtin;refine Lib.wpList_append_own_stringF _ rfl _ _ 126 9 rfl B 5 i0 underlying126 underlying9 hi cj bS bC _ _ _ rfl aj s rfl ?c3 ?c4 ?c5 ?_);case c3=>unfold maxLen;omega
 case c4=>omega
 case c5=>have:=av.size;omega
 intro v' w2 dG ae _;have af:b<w1.heap.size:=by
  rcases Eb b w1.heap.size with h'|h'
  ·exact h'
  ·simp[Es h']at aq
 have aV:w2.heap[b]?=some (.cells #[.pointer (some ⟨b,0,none⟩),v] 163 (0,0)):=by
  rw[ae.block b af (λe=>ai e.symm)];exact aq
 have d0:w2.cell? ⟨b,0,none⟩=some (.pointer (some ⟨b,0,none⟩)):=by rw[Lib.cell_of_heap aV];rfl
 have d1:w2.cell? ⟨b,1,none⟩=some v:=by rw[Lib.cell_of_heap aV];rfl
 have f1:w2.frozen? ⟨b,1,none⟩=false:=Lib.frozen_of_heap aV 1;obtain⟨ao,n',cap,rfl⟩:∃ao n' cap,v'=.slice ao n' cap:=by
  rcases dG.2 with⟨hv,_⟩|⟨g,cap,cur,fz,hv,_⟩
  ·exact⟨_,_,_,hv⟩
  ·exact⟨_,_,_,hv⟩
 go_wp2
 go_ret2
 refine⟨rfl,?_,?_,(aU.grown ae (Lib.ownsRowF_kind aj)).setCell ⟨b,1,none⟩ rfl _⟩
 ·exact Lib.BuilderAtF.put (T:=163) (e:=5) hB aV (bs':=bs++Lib.strCells s) (by simpa[Lib.strCells_length] using dG) (by decide)
 ·exact(av.grown ae (by have:=av.size;omega) (λk hk=>(aj.lt k hk).1)).setCell (p:=⟨b,1,none⟩) hB _
def Lu(B b:Nat)(l:List UInt8)(w:World):Prop:=Lib.IsBuilderF 163 5 B b (Lib.byteCells l) w
def v_(B b:Nat)(l:List UInt8)(w w':World):Prop:=Lu B b l w'/\Below B w w'/\Lib.OthersKept 5 (some b) w w'
theorem zhs {w w':World}(h:Below w.heap.size w w'):w.grownBy w' none:=⟨h.os,h.tape,h.output,h.size,λi hi _=>h.block i hi⟩
theorem Lu.below {B b:Nat} {l:List UInt8} {w w':World}(h:Lu B b l w)(hb:Below w.heap.size w w'):Lu B b l w':=by
 have key:∀p,Lib.BuilderAtF 163 5 B b p (Lib.byteCells l) w->Lib.BuilderAtF 163 5 B b p (Lib.byteCells l) w':=by
  intro p h;have af:=h.lt;obtain⟨hB,v,aq,aj,ai⟩:=h;exact⟨hB,v,(hb.block b af).trans aq,aj.kept (zhs hb) (by cases hv:v.ownBlock <;> simp),ai⟩
 rcases h with h|h
 ·exact .inl (key _ h)
 ·exact .inr (key _ h)
theorem Lu.lt {B b:Nat} {l:List UInt8} {w:World}(h:Lu B b l w):B<=b/\b<w.heap.size:=by
 rcases h with h|h
 ·exact⟨h.1,h.lt⟩
 ·exact⟨h.1,h.lt⟩
theorem zi9 {e:TypeId} {b:Option Nat} {w w':World}(h:Below w.heap.size w w'):Lib.OthersKept e b w w':=λk o hk _ _=>by
 rw[h.block k (BV.1 hk).1];exact hk
theorem v_.refl {B b:Nat} {l:List UInt8} {w:World}(h:Lu B b l w):v_ B b l w w:=⟨h,Cc _ _,Lib.OthersKept.refl _ _ _⟩
theorem v_.trans {B b:Nat} {l l':List UInt8} {w w1 w2:World}(h:v_ B b l w w1)(k:v_ B b l' w1 w2):v_ B b l' w w2:=⟨k.1,h.2.1.trans k.2.1,h.2.2.trans k.2.2⟩
theorem v_.below {B b:Nat} {l:List UInt8} {w w1 w2:World}(h:v_ B b l w w1)(hB:B<=w1.heap.size)(k:Below w1.heap.size w1 w2):v_ B b l w w2 :=
 ⟨h.1.below k,h.2.1.trans (k.mono hB),h.2.2.trans (zi9 k)⟩
theorem v_.Jm {B b g:Nat} {l:List UInt8} {t:TypeId} {cs:Array Value} {w w1:World}(h:v_ B b l w w1)(k:ar w g t cs)(hg:g≠b)(ht:t≠5):ar w1 g t cs :=
 h.2.2 g _ k (by simpa using hg) (λc fz e=>ht (by injection e))
theorem Qd(B b:Nat)(l:List UInt8)(c:UInt8)(k:Int)(hk:k=c.toNat)(w:World)(h:Lu B b l w)(hlen:l.length<=60000000000000)(u9:B<=w.heap.size):Calls prog 138 #[.pointer (some ⟨b,0,none⟩),.int .u8 k] w λe w'=>e=.returned .nilIface/\v_ B b (l++[c]) w w':=by
 subst hk;refine(zi8 B b _ _ w h (by rw[Lib.byteCells_length];omega) u9).mono ?_;rintro e w' ⟨rfl,h1,h2,h3⟩;exact⟨rfl,.inr (by rw[Lib.byteCells_append];exact h1),h2,h3⟩
theorem Pr(B b:Nat)(l:List UInt8)(s:ByteArray)(w:World)(h:Lu B b l w)(hlen:l.length<=60000000000000)(hs:s.size<=60000000000000)(u9:B<=w.heap.size):Calls prog 172 #[.pointer (some ⟨b,0,none⟩),.string s] w λe w'=>e=.returned (.tuple #[.int .i64 s.size,.nilIface])/\v_ B b (l++s.data.toList) w w':=by
 refine(zhr B b _ _ w h (by rw[Lib.byteCells_length];omega) u9).mono ?_;rintro e w' ⟨rfl,h1,h2,h3⟩;exact⟨rfl,.inr (by rw[Lib.byteCells_append];exact h1),h2,h3⟩
end
end Go.Proofs.YtfafilmklhnngaaGreatDoor
