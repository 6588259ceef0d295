/-
  Contracts of the code's functions, part 13.
-/
import Derived.Test.YtefldbbiajkbnaaGreatDoorDaJ
import Derived.Test.YtefldbbiajkbnaaGreatDoorDaI
import Derived.Laws.IdiomStrings
import Derived.Deep.RegionWith
import Derived.Deep.RegionHeld3
import Derived.Deep.AppendLies
import Derived.IntWalk
/-
  Small lemmas on types that are written, gone through, numbered: for every walk over types.
-/
namespace Go.Proofs.YtefldbbiajkbnaaGreatDoor
open Go.RowKit Lx Tx
set_option maxRecDepth 100000

theorem ret_string {a b : ByteArray} (h : a = b) : Ending.returned (.string a) = .returned (.string b) := by rw [h]

theorem app_mk (l : List UInt8) (b : UInt8) : ((⟨l.toArray⟩ : ByteArray) ++ (⟨#[b]⟩ : ByteArray)) = ⟨(l ++ [b]).toArray⟩ := by
  apply ByteArray.ext
  simp



end Go.Proofs.YtefldbbiajkbnaaGreatDoor

/-
  The walks over Decimal, number, Has, Is of the document's answer for types.
-/
namespace Go.Proofs.YtefldbbiajkbnaaGreatDoor
open Go.RowKit Lx Tx
set_option maxRecDepth 100000

/-- a slice of one byte, as a string -/
theorem conv_byte (W : World) (x : Int) (b : UInt8) (hx : x = b.toNat) :
    (convert 55 9 (.slice (some ⟨W.heap.size, 0, none⟩) 1 1)).run Tryz.prog (W.alloc (.cells #[.int .u8 x] 5)) = .ok (.string ⟨#[b]⟩) (W.alloc (.cells #[.int .u8 x] 5)) := by
  subst hx
  refine run_convert_bytes_back (W.alloc (.cells #[.int .u8 (b.toNat : Int)] 5)) 55 9 5 ⟨W.heap.size, 0, none⟩ 1 [b] Tryz.underlying55 Tryz.underlying5 Tryz.underlying9 ?_
  intro j hj
  simp at hj
  subst hj
  rw [show (⟨W.heap.size, 0, none⟩ : Addr).add 0 = ⟨W.heap.size, 0, none⟩ from rfl, cell_of_row _ _ _ _ 5 (0, 0) (heap_alloc_new _ _)]
  rfl

/-- the same, wherever that byte lies -/
theorem conv_cell (W : World) (g : Nat) (x : Int) (b : UInt8) (hx : x = b.toNat) (hc : W.cell? ⟨g, 0, none⟩ = some (.int .u8 x)) :
    (convert 55 9 (.slice (some ⟨g, 0, none⟩) 1 1)).run Tryz.prog W = .ok (.string ⟨#[b]⟩) W := by
  subst hx
  refine run_convert_bytes_back W 55 9 5 ⟨g, 0, none⟩ 1 [b] Tryz.underlying55 Tryz.underlying5 Tryz.underlying9 ?_
  intro j hj
  simp at hj
  subst hj
  rw [show (⟨g, 0, none⟩ : Addr).add 0 = ⟨g, 0, none⟩ from rfl]
  exact hc

set_option maxHeartbeats 400000 in
theorem ref2_decF (f : Nat) : ∀ (n : Nat) (w : World), n < 10 ^ f → n < 10 ^ 18 → 1 ≤ f → f ≤ 20 →
    Calls Tryz.prog 104 #[.int .i64 n] w fun e w' => e = .returned (.string ⟨(decF f n).toArray⟩) ∧ Below w.heap.size w w' := by
  induction f with
  | zero => intro n w _ _ h; omega
  | succ f ih =>
    intro n w hn h18 _ hf20
    by_cases h10 : n < 10
    · have hconv := fun W => conv_byte W (48 + (n : Int)) (digit n) (by rw [digit_nat]; omega)
      have hd := hidE (show decF (f + 1) n = [digit n] by rw [decF, if_pos h10])
      clear ih hn
      go_enter Tryz.func104, Tryz.ntmps104
      go_wp2_with fail
      go_ret
      exact ⟨ret_string (by rw [hd.out]), (Below.refl _ _).alloc (Nat.le_refl _) _⟩
    · obtain ⟨m, hm⟩ : ∃ m, n / 10 = m := ⟨_, rfl⟩
      obtain ⟨d, hd0⟩ : ∃ d, n % 10 = d := ⟨_, rfl⟩
      have hd := hidE (show decF (f + 1) n = decF f m ++ [digit n] by rw [decF, if_neg h10, hm])
      have hf : 1 ≤ f := by
        rcases Nat.eq_zero_or_pos f with e | e
        · subst e; simp at hn; omega
        · exact e
      have hconv := fun W g => conv_cell W g (48 + (d : Int)) (digit n) (by rw [digit_nat, hd0]; omega)
      have IH := fun w => ih m w (by rw [Nat.pow_succ] at hn; omega) (by omega) hf (by omega)
      have hlen : (decF f m).length ≤ 20 := decF_len f 20 m (by omega) (by omega)
      obtain ⟨D, hD⟩ : ∃ D : ByteArray, ⟨(decF f m).toArray⟩ = D := ⟨_, rfl⟩
      have hDz : D.size ≤ 20 := by rw [← hD]; exact hlen
      rw [hD] at IH
      have HD := hidE hD
      have q1 : IntKind.i64.wrap ((n : Int) / 10) = (m : Int) := by rw [IntWalk.i64_in _ (by omega)]; omega
      have q2 : (n : Int).tmod 10 = (d : Int) := by rw [Int.tmod_eq_emod_of_nonneg (by omega)]; omega
      have q3 : IntKind.i64.wrap (48 + (d : Int)) = 48 + (d : Int) := IntWalk.i64_in _ (by omega)
      have q4 : IntKind.u8.wrap (48 + (d : Int)) = 48 + (d : Int) := by simp [IntKind.wrap, IntKind.signed, IntKind.bits]; omega
      have hd9 : d ≤ 9 := by omega
      clear ih hn hD hlen hm hd0
      go_enter Tryz.func104, Tryz.ntmps104
      go_wp2_with fail
      go_region_with (go_at_call 104; (with_reducible refine (IH _).mono ?_); rintro e w1 ⟨rfl, b1⟩; have B1 := hidE b1; (try have hc : w1.cell? ⟨w.heap.size, 0, none⟩ = some (.int .u8 (48 + (d : Int))) := (b1.cell (p := ⟨w.heap.size, 0, none⟩) (by simp)).trans (cell_of_row _ _ _ _ _ _ (heap_alloc_new _ _))); clear b1)
      all_goals (go_wp2_with fail; go_ret)
      · have B : Below w.heap.size w w1 := (Below.refl w.heap.size w).drew.trans B1.out
        exact ⟨ret_string (by rw [hd.out, ← HD.out, app_mk]), B.alloc B.size _⟩
      all_goals
        have B : Below w.heap.size w w1 := ((Below.refl w.heap.size w).alloc (Nat.le_refl _) _).drew.trans (B1.out.mono (by simp))
        exact ⟨ret_string (by rw [hd.out, ← HD.out, app_mk]), B⟩

theorem ref2_dec (n : Nat) (w : World) (h : n < 10 ^ 18) : Calls Tryz.prog 104 #[.int .i64 n] w fun e w' => e = .returned (.string ⟨(dec n).toArray⟩) ∧ Below w.heap.size w w' :=
  ref2_decF 20 n w (by omega) h (by omega) (by omega)

end Go.Proofs.YtefldbbiajkbnaaGreatDoor

/-
  The walks over number, Has, Is of the document's answer for types.
-/
namespace Go.Proofs.YtefldbbiajkbnaaGreatDoor
open Go.RowKit Lx Tx
set_option maxRecDepth 100000

set_option maxHeartbeats 800000 in
theorem ref2_has (v : Value) (l : List (List UInt8)) (s : ByteArray) (w : World) (h : RowV w v (strV l)) (hl : l.length ≤ 1000000) :
    Calls Tryz.prog 37 #[v, .string s] w fun e w' => e = .returned (.bool (decide (s.data.toList ∈ l))) ∧ w = w' := by
  obtain ⟨A, c, rfl, hp⟩ := h
  rw [strV_len] at *
  obtain ⟨n, hn⟩ : ∃ n, l.length = n := ⟨_, rfl⟩
  rw [hn] at hl hp ⊢
  have HP := hidE hp
  obtain ⟨R, hR⟩ : ∃ R, decide (s.data.toList ∈ l) = R := ⟨_, rfl⟩
  have HR := hidE hR
  have HN := hidE hn
  rw [hR]
  clear hp hR hn
  go_enter Tryz.func37, Tryz.ntmps37
  go_wp2
  go_loopg [5] n (fun gg v wr => ∃ k : Nat, gg = n - k ∧ v = .int .i64 k ∧ wr = w ∧ k ≤ n ∧ Hid (s.data.toList ∉ l.take k))
  case atStart => exact ⟨0, rfl, rfl, rfl, by omega, hidE (by simp)⟩
  case round =>
    obtain ⟨k, rfl, rfl, rfl, hk, hn⟩ := hrel
    by_cases hlt : k < n
    · obtain ⟨g, rfl, _, hc⟩ := HP.out (by omega)
      have hck := hc k _ (strV_at l k (by rw [HN.out]; exact hlt))
      clear hc
      obtain ⟨X, hX⟩ : ∃ X : ByteArray, ⟨(l[k]'(by rw [HN.out]; exact hlt)).toArray⟩ = X := ⟨_, rfl⟩
      rw [hX] at hck
      have HX := hidE hX
      clear hX
      by_cases he : X = s
      · have hr := hidE (show R = true by rw [← HR.out, ← he, ← HX.out]; simp)
        have dq := strT X s he
        clear he
        go_wp2
        go_ret
        exact ⟨ret_bool hr.out.symm, rfl⟩
      · have hr := hidE (not_take _ l k (by rw [HN.out]; exact hlt) hn (fun e => he (by rw [← HX.out, e])))
        have dq := strF X s he
        clear he
        go_wp2
        go_roundg (n - (k + 1))
        case measure => omega
        case rel => exact ⟨k + 1, rfl, by go_num, rfl, by omega, hr⟩
    · have hr := hidE (show R = false by rw [← HR.out]; rw [List.take_of_length_le (by rw [HN.out]; omega)] at hn; exact decide_eq_false hn.out)
      go_wp2
      go_ret
      exact ⟨ret_bool hr.out.symm, rfl⟩

end Go.Proofs.YtefldbbiajkbnaaGreatDoor
