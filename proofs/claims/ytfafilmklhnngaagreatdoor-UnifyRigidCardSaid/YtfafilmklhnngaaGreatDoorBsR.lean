import Derived.Test.YtfafilmklhnngaaGreatDoorBsQ
import Derived.Defers
import Derived.Recover
set_option maxHeartbeats 12800000
set_option maxRecDepth 100000
namespace Go.Proofs.YtfafilmklhnngaaGreatDoor
open Tryz
section
open Go.RowKit Lx Tx Go.Maps Go.WideMaps
def LP(w:World)(N mb:Nat)(X:ByteArray)(env:List (Name × Nat)):Prop :=
 ar w N 116 #[.map (some mb)]/\ar w (N+1) 9 #[.string X]/\ar w (N+2) 3 #[mkInt.J7 (look X.data.toList env)]/\ar w (N+3) 4 #[.bool (look X.data.toList env).isSome]
theorem LP.al {w w':World} {N mb:Nat} {X:ByteArray} {env:List (Name × Nat)}(h:LP w N mb X env)(hk:∀k,N<=k->k<=N+3->w'.heap[k]?=w.heap[k]?):LP w' N mb X env :=
 ⟨h.1.same (hk _ (by omega) (by omega)),h.2.1.same (hk _ (by omega) (by omega)),h.2.2.1.same (hk _ (by omega) (by omega)),h.2.2.2.same (hk _ (by omega) (by omega))⟩
def RT(N:Nat):Value:=.func (.func 151) #[] #[.pointer (some ⟨N+3,0,none⟩),.pointer (some ⟨N+2,0,none⟩),.pointer (some ⟨N,0,none⟩),.pointer (some ⟨N+1,0,none⟩)]
theorem Vr(mb:Nat)(env:List (Name × Nat))(X:ByteArray)(v:Nat)(V:Int)(hV:V=v)(w:World)(h:iT mkInt w mb env)(hX:X.size<=maxLen)(hn:env.length<100000000000000):Calls prog 105 #[.map (some mb),.string X,.int .i64 V] w λe w'=>e=.returned (RT w.heap.size)/\LP w' w.heap.size mb X env/\iT mkInt w' mb ((X.data.toList,v)::env)/\b_ (only mb) w w':=by
 subst hV;have af:=h.lt;have h1:iT mkInt ((w.alloc (.cells #[.map (some mb)] 116)).alloc (.cells #[.string X] 9)) mb env :=
  h.al ((BX _ _ _ (by simp;omega)).trans (BX _ _ _ af))
 have bw:=h1.He X hX;have Ze:(Instr.lookup 116 (.map (some mb)) (.string X) true).run prog ((w.alloc (.cells #[.map (some mb)] 116)).alloc (.cells #[.string X] 9))=.ok (.tuple #[mkInt.J7 (look X.data.toList env),.bool (look X.data.toList env).isSome]) ((w.alloc (.cells #[.map (some mb)] 116)).alloc (.cells #[.string X] 9)):=bw;obtain⟨o,ho⟩:∃o:Int,mkInt.J7 (look X.data.toList env)=.int .i64 o:=by
  cases look X.data.toList env with
  |none=>exact⟨0,rfl⟩
  |some u=>exact⟨(u:Nat),rfl⟩
 obtain⟨q,hq⟩:∃q,(look X.data.toList env).isSome=q:=⟨_,rfl⟩;unfold LP;rw[ho,hq]at Ze;rw[ho,hq];have bL:iT mkInt ((((w.alloc (.cells #[.map (some mb)] 116)).alloc (.cells #[.string X] 9)).alloc (.cells #[.int .i64 o] 3)).alloc (.cells #[.bool q] 4)) mb env :=
  h1.al ((BX _ _ _ (by simp;omega)).trans (BX _ _ _ (by simp;omega)))
 have HM:=EP bL;have HX:=EP hX;have HN:=EP hn;have iZ:∀(fn:Fn) (first cap:Array Value) (w:World),(Instr.makeFunc fn first cap).run prog w=.ok (.func fn first cap) w:=λ_ _ _ _=>rfl;clear h h1 bw ho hq bL hX hn;go_in
 go_wp2_with (at_mapUpdate;refine QW mkInt _ rfl _ _ _ rfl mb env rfl HM.o HN.o X HX.o rfl v trivial rfl ?_;intro w1 aT aS);go_ret
 have hk:∀k,k<w.heap.size+4->k≠mb->w1.heap[k]? =((((w.alloc (.cells #[.map (some mb)] 116)).alloc (.cells #[.string X] 9)).alloc (.cells #[.int .i64 o] 3)).alloc (.cells #[.bool q] 4)).heap[k]?:=λk hk ai=>aS.block k (by simp;omega) (λe=>ai (by injection e));refine⟨rfl,⟨?_,?_,?_,?_⟩,aT,?_⟩
 ·exact(hk _ (by omega) (by omega)).trans ((((ar.alloc (BZ w _) _).alloc _).alloc _))
 ·refine(hk _ (by omega) (by omega)).trans ?_
  have:=BZ (w.alloc (.cells #[.map (some mb)] 116)) (.cells #[.string X] 9);rw[show(w.alloc (.cells #[.map (some mb)] 116)).heap.size=w.heap.size+1 by simp]at this;exact(ar.alloc this _).alloc _
 ·refine(hk _ (by omega) (by omega)).trans ?_
  have:=BZ ((w.alloc (.cells #[.map (some mb)] 116)).alloc (.cells #[.string X] 9)) (.cells #[.int .i64 o] 3);rw[show((w.alloc (.cells #[.map (some mb)] 116)).alloc (.cells #[.string X] 9)).heap.size=w.heap.size+2 by simp]at this;exact ar.alloc this _
 ·refine(hk _ (by omega) (by omega)).trans ?_
  have:=BZ (((w.alloc (.cells #[.map (some mb)] 116)).alloc (.cells #[.string X] 9)).alloc (.cells #[.int .i64 o] 3)) (.cells #[.bool q] 4);rw[show(((w.alloc (.cells #[.map (some mb)] 116)).alloc (.cells #[.string X] 9)).alloc (.cells #[.int .i64 o] 3)).heap.size=w.heap.size+3 by simp]at this;exact this
 ·exact(((((b_.refl (only mb) w).alloc _).alloc _).alloc _).alloc _).grown aS (λk hk=>.inr (by injection hk with hk;exact hk.symm))
theorem GG {w:World} {g:Nat} {t:TypeId} {a0:Value}(h:ar w g t #[a0]):w.cell? ⟨g,0,none⟩=some a0/\w.frozen? ⟨g,0,none⟩=false/\g<w.heap.size:=⟨h.cell 0,h.frozen 0,h.lt⟩
theorem V8(N mb:Nat)(env:List (Name × Nat))(X:ByteArray)(v:Nat)(u:FrameMode)(w:World)(hc:LP w N mb X env)(h:iT mkInt w mb ((X.data.toList,v)::env))(e9:Canon (Fi mkInt.enc env))(hX:X.size<=maxLen)(hn:env.length<100000000000000):CallsD prog 151 #[.pointer (some ⟨N+3,0,none⟩),.pointer (some ⟨N+2,0,none⟩),.pointer (some ⟨N,0,none⟩),.pointer (some ⟨N+1,0,none⟩)] u w λe u' w'=>u'=u/\e=.returned (.tuple #[])/\iT mkInt w' mb env/\b_ (only mb) w w':=by
 obtain⟨h0,h1,h2,h3⟩:=hc;obtain⟨a0,-,l0⟩:=GG h0;obtain⟨a1,-,l1⟩:=GG h1;obtain⟨a2,-,l2⟩:=GG h2;obtain⟨a3,-,l3⟩:=GG h3;clear h0 h1 h2 h3;have HM:=EP h;have HX:=EP hX;have HN:=EP hn;have HC:=EP e9;cases hl:look X.data.toList env with
 |none =>
  rw[hl]at a2 a3;replace a3:w.cell? ⟨N+3,0,none⟩=some (.bool false):=a3;have HL:=EP hl;clear h hX hn e9 hl a2;go_enter_d func151,ntmps151;go_wp2_with (at_delete;refine zf9 mkInt _ rfl _ _ rfl mb env rfl X v HM.o HL.o HC.o HX.o rfl ?_;intro w1 aT aS);go_end0
  exact⟨rfl,aT,(b_.refl (only mb) w).grown aS (λk hk=>.inr (by injection hk with hk;exact hk.symm))⟩
 |some y =>
  rw[hl]at a2 a3;replace a3:w.cell? ⟨N+3,0,none⟩=some (.bool true):=a3;replace a2:w.cell? ⟨N+2,0,none⟩=some (.int .i64 (y:Nat)):=a2;have HL:=EP hl;clear h hX hn e9 hl;go_enter_d func151,ntmps151;go_wp2_with (at_mapUpdate;refine zf8 mkInt _ rfl _ _ _ rfl mb env rfl X v y HM.o HL.o HC.o HN.o HX.o rfl trivial rfl ?_;intro w1 aT aS);go_end0
  exact⟨rfl,aT,(b_.refl (only mb) w).grown aS (λk hk=>.inr (by injection hk with hk;exact hk.symm))⟩
end
end Go.Proofs.YtfafilmklhnngaaGreatDoor
