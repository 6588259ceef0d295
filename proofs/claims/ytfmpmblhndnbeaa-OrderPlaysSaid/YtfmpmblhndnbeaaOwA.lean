/-
  Order, a small base: rows of cells at any address; `has` of the document's groups.
-/
import Derived.Test.YtfmpmblhndnbeaaProg
import Derived.WalkKit
import Derived.WalkSpells
import Derived.WalkLawsBesides
import Derived.BigQuiet
import Derived.Deep.QuietTactic
import Derived.Deep.AppendLies
import Derived.Deep.RegionLaw
import Derived.IntWalk
import Derived.Deep.LoopGhost
namespace Go.Proofs.Ytfmpmblhndnbeaa
open Go.RowKit
set_option maxRecDepth 100000

theorem hidE {p : Prop} (h : p) : RowKit.Hid p := h
theorem ret_bool {a b : Bool} (h : a = b) : Ending.returned (.bool a) = .returned (.bool b) := by rw [h]
theorem not_take {α : Type} [DecidableEq α] (x : α) (l : List α) (k : Nat) (hk : k < l.length) (h : x ∉ l.take k) (hx : ¬ l[k] = x) : x ∉ l.take (k + 1) := by
  rw [List.take_succ_eq_append_getElem hk]
  intro hm
  rcases List.mem_append.1 hm with h1 | h1
  · exact h h1
  · simp at h1; exact hx h1.symm
theorem addr_add_block (a : Addr) (i : Nat) : (a.add i).block = a.block := by unfold Addr.add; split <;> rfl
/-- a row of cells, at any address -/
def RowA (w : World) (v : Value) (l : List Value) : Prop :=
  ∃ A c, v = .slice A l.length c ∧ (0 < l.length → ∃ a, A = some a ∧ a.block < w.heap.size ∧ ∀ j u, l[j]? = some u → w.cell? (a.add j) = some u)
theorem RowA.below {w w' : World} {v : Value} {l : List Value} (h : RowA w v l) (hb : Below w.heap.size w w') : RowA w' v l := by
  obtain ⟨A, c, h1, h2⟩ := h
  refine ⟨A, c, h1, fun hp => ?_⟩
  obtain ⟨a, h3, h4, h5⟩ := h2 hp
  exact ⟨a, h3, Nat.lt_of_lt_of_le h4 hb.size, fun j u hu => (hb.cell (p := a.add j) (by rw [addr_add_block]; exact h4)).trans (h5 j u hu)⟩
def intV (l : List Nat) : List Value := l.map fun n => .int .i64 (n : Nat)
theorem intV_len (l : List Nat) : (intV l).length = l.length := by simp [intV]
theorem intV_at (l : List Nat) (k : Nat) (h : k < l.length) : (intV l)[k]? = some (.int .i64 (l[k] : Nat)) := by simp [intV, List.getElem?_map, List.getElem?_eq_getElem h]
theorem natEq (a b : Nat) : (((a : Nat) : Int) == ((b : Nat) : Int)) = decide (a = b) := by
  by_cases h : a = b
  · subst h; simp
  · simp [h]; omega

set_option maxHeartbeats 800000 in
theorem od_has (v : Value) (l : List Nat) (x : Nat) (w : World) (h : RowA w v (intV l)) (hl : l.length ≤ 1000000) :
    Calls Try.prog 17 #[v, .int .i64 (x : Nat)] w fun e w' => e = .returned (.bool (decide (x ∈ l))) ∧ w = w' := by
  obtain ⟨A, c, rfl, hp⟩ := h
  rw [intV_len] at *
  obtain ⟨n, hn⟩ : ∃ n, l.length = n := ⟨_, rfl⟩
  rw [hn] at hl hp ⊢
  have HP := hidE hp
  obtain ⟨R, hR⟩ : ∃ R, decide (x ∈ l) = R := ⟨_, rfl⟩
  have HR := hidE hR
  have HN := hidE hn
  rw [hR]
  clear hp hR hn
  go_enter Try.func17, Try.ntmps17
  go_wp2
  go_loopg [5] n (fun gg v wr => ∃ k : Nat, gg = n - k ∧ v = .int .i64 k ∧ wr = w ∧ k ≤ n ∧ Hid (x ∉ l.take k))
  case atStart => exact ⟨0, rfl, rfl, rfl, by omega, hidE (by simp)⟩
  case round =>
    obtain ⟨k, rfl, rfl, rfl, hk, hn⟩ := hrel
    by_cases hlt : k < n
    · obtain ⟨a, rfl, _, hc⟩ := HP.out (by omega)
      have hck := hc k _ (intV_at l k (by rw [HN.out]; exact hlt))
      clear hc
      obtain ⟨X, hX⟩ : ∃ X : Nat, (l[k]'(by rw [HN.out]; exact hlt)) = X := ⟨_, rfl⟩
      rw [hX] at hck
      have HX := hidE hX
      have hk1 : a.add (k * 1) = a.add k := by rw [Nat.mul_one]
      clear hX
      by_cases he : X = x
      · have hr := hidE (show R = true by rw [← HR.out, ← he, ← HX.out]; simp)
        have dq : (((X : Nat) : Int) == ((x : Nat) : Int)) = true := by rw [natEq]; simp [he]
        clear he
        go_wp2
        go_ret
        exact ⟨ret_bool hr.out.symm, rfl⟩
      · have hr := hidE (not_take _ l k (by rw [HN.out]; exact hlt) hn (fun e => he (by rw [← HX.out, e])))
        have dq : (((X : Nat) : Int) == ((x : Nat) : Int)) = false := by rw [natEq]; simp [he]
        clear he
        go_wp2
        go_roundg (n - (k + 1))
        case measure => omega
        case rel => exact ⟨k + 1, rfl, by go_num, rfl, by omega, hr⟩
    · have hr := hidE (show R = false by rw [← HR.out]; rw [List.take_of_length_le (by rw [HN.out]; omega)] at hn; exact decide_eq_false hn.out)
      go_wp2
      go_ret
      exact ⟨ret_bool hr.out.symm, rfl⟩
end Go.Proofs.Ytfmpmblhndnbeaa
