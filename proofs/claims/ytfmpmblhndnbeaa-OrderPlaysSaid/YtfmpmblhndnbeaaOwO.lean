/-
  Order: going through numbers from their end, by the library's iterator; appending whatever lies.
-/
import Derived.Test.YtfmpmblhndnbeaaOwN
import Derived.Test.YtfmpmblhndnbeaaOwK
import Derived.Test.YtfmpmblhndnbeaaUaB
import Derived.Shelf.RegionOpen
import Derived.OwnWalkIn
import Derived.TacticsInMore
import Derived.LoopNIn
import Derived.LoopIn
import Derived.Maps.OwnIn
namespace Go.Proofs.Ytfmpmblhndnbeaa
open Go.RowKit Go.Shelf Go.Proofs.Ytfmpmblhndnbeaa.Od
set_option maxRecDepth 100000
attribute [local go_sem] Oper.semAt_some

/-- what is appended lies here -/
def SrcR (w : World) (u : Value) (m size : Nat) (ys : List Value) : Prop :=
  ys.length = m * size ∧ ((u = .slice none 0 0 ∧ m = 0) ∨ ∃ g cap, u = .slice (some ⟨g, 0, none⟩) m cap ∧ ∀ j y, ys[j]? = some y → w.cell? ⟨g, j, none⟩ = some y)
theorem SrcR.of_own {w : World} {N size m : Nat} {e : TypeId} {u : Value} {ys : List Value} (h : w.ownsRow N e size u m ys) : SrcR w u m size ys := by
  refine ⟨h.1, ?_⟩
  rcases h.2 with ⟨rfl, rfl⟩ | ⟨g, cap, cur, rfl, _⟩
  · exact .inl ⟨rfl, rfl⟩
  · refine .inr ⟨g, cap, rfl, fun j y hy => ?_⟩
    have := h.cells (g := g) rfl j y hy
    rwa [add_blk] at this
theorem wpList_append_any {P : Program} {ops : Array Oper} {rest : List Oper} {o : Oper} {a : Act} {w : World} {Q : Exit → Act → World → Prop} (hgd : o.guard = none) (s x : Operand) (t : TypeId)
    (ho : o.op = .call { callee := .builtin .append, args := #[s, x], argTypes := #[t, t] })
    (N : Nat) (e : TypeId) (i : TypeInfo) (z : Value) (size bytes : Nat) (ht : P.underlying t = some (.slice e)) (hi : P.info? e = some i) (hz : i.zero = some z)
    (hsize : i.size = size) (hby : i.bytes = bytes) (hzs : z.cells.size = size) (hsz : 0 < size)
    (v u : Value) (n m : Nat) (xs ys : List Value) (hs : a.eval s = v) (hx : a.eval x = u) (hv : w.ownsRow N e size v n xs) (hu : SrcR w u m size ys) (h1 : ∀ y ∈ ys, y.oneCell' = true)
    (h63 : n + m ≤ maxLen) (hbytes : (n + m) * bytes ≤ 140737488355328) (hN : N ≤ w.heap.size)
    (h : ∀ A c w', w'.ownsRow N e size (.slice A (n + m) c) (n + m) (xs ++ ys) → Below N w w' → wpList P ops Q rest (a.put o.dst (.slice A (n + m) c)) w') :
    wpList P ops Q (o :: rest) a w := by
  refine wpList_plain hgd fun K hK => ?_
  obtain ⟨hl, ⟨rfl, rfl⟩ | ⟨g, cap, rfl, hc⟩⟩ := hu
  · have hrun := run_append_owned_none (P := P) (w := w) N t o.type e i size ht hi v n xs hv
    have hys : ys = [] := List.length_eq_zero_iff.1 (by omega)
    subst hys
    obtain ⟨A, c, rfl⟩ := own_shape hv
    have hk := h A c w (by rw [List.append_nil]; exact hv) (Below.refl _ w)
    unfold Oper.wp execOp
    simp only [ho, resolve, invoke, builtin, Sem.run_bind, Sem.run_pure, Result.andThen_ok, List.map_toArray, List.map_cons, List.map_nil, hs, hx, hrun]
    exact hK _ _ hk
  · obtain ⟨v', w', hr, h2, h3, -, -⟩ := run_append_own_at (P := P) (w := w) N t o.type e i z size bytes ht hi hz hsize hby hzs hsz v n xs hv ⟨g, 0, none⟩ m cap ys hl
      (fun j y hy => by rw [add_blk]; exact hc j y hy) h1 h63 hbytes hN
    obtain ⟨A, c, rfl⟩ := own_shape h2
    have hk := h A c w' h2 (Below.grown (Below.refl _ w) h3 hN (fun k hk => (hv.lt k hk).1))
    unfold Oper.wp execOp
    simp only [ho, resolve, invoke, builtin, Sem.run_bind, Sem.run_pure, Result.andThen_ok, List.map_toArray, List.map_cons, List.map_nil, hs, hx, hr]
    exact hK _ _ hk

set_option maxHeartbeats 1600000 in
theorem it_backI (F : Fence) (n : Nat) (hF : F.fn 33) (hro : F.round = none) (hn : 1 ≤ n) (l bx : Nat) (ids : List Nat) (A : Option Addr) (c : Nat) (J : Nat → World → Prop) (hm : ids.length ≤ 5000000000000)
    (hb : ∀ k W, J k W → W.cell? ⟨bx, 0, none⟩ = some (.slice A ids.length c))
    (hc : ∀ k W, J k W → ∀ (j q : Nat), ids[j]? = some q → ∃ g, A = some ⟨g, 0, none⟩ ∧ W.cell? ⟨g, j, none⟩ = some (.int .i64 (q : Nat)))
    (hY : ∀ (k q : Nat) (W : World), J (k + 1) W → ids[k]? = some q → YieldAt F (n - 1) Try.prog l #[.int .i64 (k : Nat), .int .i64 (q : Nat)] W fun e W' => e = .returned (.bool true) ∧ J k W')
    (W : World) (h0 : J ids.length W) :
    CallsIn F n Try.prog 33 #[.func (.yield l) #[] #[], .pointer (some ⟨bx, 0, none⟩)] W fun e W' => (∃ v, e = .returned v) ∧ J 0 W' := by
  obtain ⟨m, hmm⟩ : ∃ m, ids.length = m := ⟨_, rfl⟩
  have hb0 := hb _ _ h0
  rw [hmm] at hb0 h0 hm
  have HMM := hidE hmm
  have HB := hidE hb
  have HC := hidE hc
  have HY := hidE hY
  have HJ := hidE h0
  clear hb hc hY h0 hmm
  refine callsIn_of_wp Try.func33 rfl hF ?_ hro
  simp only [Try.ntmps33, List.size_toArray, List.length_cons, List.length_nil, Nat.reduceAdd, Nat.reduceSub, Array.replicate_succ, Array.replicate_zero, List.push_toArray, List.append_toArray, List.nil_append, List.cons_append]
  gi_wp2
  gi_loopw [3] (fun i wr => ∃ (k : Nat) (z : Int), z = (k : Int) - 1 ∧ i = .int .i64 z ∧ k ≤ m ∧ Hid (J k wr)) (fun i _ => (intOf i + 1).toNat)
  case atStart => exact ⟨m, (m : Int) - 1, rfl, rfl, Nat.le_refl _, HJ⟩
  case round =>
    obtain ⟨k, z, hz, rfl, hk, hj⟩ := hrel
    clear HJ hb0
    cases k with
    | zero =>
      obtain rfl : z = -1 := by omega
      have HJ0 := hj
      clear hz hj
      gi_wp2
      go_end0
      exact ⟨⟨_, rfl⟩, HJ0.out⟩
    | succ k =>
      obtain rfl : z = (k : Int) := by omega
      obtain ⟨q, hq⟩ : ∃ q, ids[k]? = some q := ⟨_, List.getElem?_eq_getElem (by rw [HMM.out]; omega)⟩
      obtain ⟨g, rfl, hcell⟩ := HC.out _ _ hj.out k q hq
      have hbr := HB.out _ _ hj.out
      rw [HMM.out] at hbr
      obtain ⟨fn, tmps, assign, body, hy, hR⟩ := HY.out k q wr hj.out hq
      have HR := hidE hR
      have hkm : k < m := by omega
      clear hz hj hq hR
      gi_wp2
      refine HR.out.mono ?_
      rintro e W3 ⟨rfl, hJ3⟩
      have HJ3 := hidE hJ3
      clear hJ3
      gi_wp2
      go_roundw
      case rel => exact ⟨k, (k : Int) - 1, rfl, rfl, by omega, HJ3⟩
      case measure => simp [intOf]

theorem it_makeI (F : Fence) (n : Nat) (hF : F.fn 26) (hro : F.round = none) (a : Option Addr) (len cap : Nat) (w : World) :
    CallsIn F n Try.prog 26 #[.slice a len cap] w fun e w' => e = .returned (.func (.func 33) #[] #[.pointer (some ⟨w.heap.size, 0, none⟩)]) ∧ w' = w.alloc (.cells #[.slice a len cap] 30) := by
  have hmf : ∀ (fn : Fn) (first cap : Array Value) (w : World), (Instr.makeFunc fn first cap).run Try.prog w = .ok (.func fn first cap) w := fun _ _ _ _ => rfl
  refine callsIn_of_wp Try.func26 rfl hF ?_ hro
  simp only [Try.ntmps26, List.size_toArray, List.length_cons, List.length_nil, Nat.reduceAdd, Nat.reduceSub, Array.replicate_succ, Array.replicate_zero, List.push_toArray, List.append_toArray, List.nil_append, List.cons_append]
  gi_wp2
  go_ret
  exact ⟨rfl, rfl⟩

end Go.Proofs.Ytfmpmblhndnbeaa
