/-
  Package types and what it stands on: contracts of the code's functions, part 2.
-/
import Derived.Test.YthgkpmgcikopnaaGreatDoorBwB
import Derived.Deep.RegionHeld3
import Derived.Deep.AppendLies
/-
  The walk over free of the document's answer for types: variables.
-/
namespace Go.Proofs.YthgkpmgcikopnaaGreatDoor
open Go.RowKit Lx Tx
set_option maxRecDepth 100000

theorem ref2_str_info : (Tryz.prog.info? 9).map (fun i => (i.zero, i.size, i.bytes)) = some (some (.string ⟨#[]⟩), 1, 16) := by kernel_rfl

set_option maxRecDepth 2000 in
set_option maxHeartbeats 1600000 in
theorem ref2_free_var (x : List UInt8) (A : Option Addr) (m c : Nat) (vb vo : Value) (bound out : List (List UInt8)) (w : World) (hb : RowV w vb (strV bound)) (ho : RowN w vo (strV out)) (hbl : bound.length ≤ 1000000) (hol : out.length ≤ 1000000) :
    Calls Tryz.prog 67 #[.agg #[.int .i64 1, .string ⟨x.toArray⟩, .int .i64 0, .slice A m c], vb, vo] w fun e w' => ∃ v', e = .returned v' ∧ RowN w' v' (strV (if x ∈ bound then out else addN x out)) ∧ Below w.heap.size w w' := by
  obtain ⟨X, hX⟩ : ∃ X : ByteArray, ⟨x.toArray⟩ = X := ⟨_, rfl⟩
  have hXx : X.data.toList = x := by rw [← hX]
  have cb := hidE (fun w' (h : RowV w' vb (strV bound)) => ref2_has vb bound X w' h hbl)
  have co := hidE (fun w' (h : RowV w' vo (strV out)) => ref2_has vo out X w' h hol)
  rw [hXx] at cb co
  rw [hX]
  have HX := hidE hX
  clear hX
  obtain ⟨p, hp⟩ : ∃ p, decide (x ∈ bound) = p := ⟨_, rfl⟩
  obtain ⟨q, hq⟩ : ∃ q, decide (x ∈ out) = q := ⟨_, rfl⟩
  rw [hp] at cb
  rw [hq] at co
  have HP := hidE hp
  have HQ := hidE hq
  have HB := hidE hb
  have HO := hidE ho
  have HO1 := hidE ho.1
  clear hp hq hb ho
  have hal : ∀ o : Obj, Below w.heap.size w (w.alloc o) := fun o => (Below.refl _ _).alloc (Nat.le_refl _) _
  have HAL := hidE hal
  clear hal
  obtain ⟨i0, hi0, hz0, hz1, hz2⟩ := info_parts ref2_str_info
  obtain ⟨L, hL⟩ : ∃ L, (if x ∈ bound then out else addN x out) = L := ⟨_, rfl⟩
  rw [hL]
  have HL := hidE hL
  clear hL
  cases p
  · cases q
    · go_enter Tryz.func67, Tryz.ntmps67
      go_wp2_with (first | (go_at_call 35; (with_reducible refine (cb.out _ (HB.out.below (HAL.out _))).mono ?_); rintro e w1 ⟨rfl, rfl⟩) | (go_at_call 35; (with_reducible refine (co.out _ (HO1.out.below (HAL.out _))).mono ?_); rintro e w1 ⟨rfl, rfl⟩))
      have HRES : Hid (L = out ++ [x]) := hidE (by rw [← HL.out, if_neg (of_decide_eq_false HP.out), addN, if_neg (of_decide_eq_false HQ.out)])
      by_cases hz : out = []
      · obtain rfl := HO.out.2 (by rw [hz]; rfl)
        have HZ := hidE hz
        clear hz
        have hs0 : w.heap.size < (w.alloc (.cells #[.int .i64 1, .string X, .int .i64 0, .slice A m c] 31)).heap.size := by simp
        go_region_held3 (fun w' => w'.cell? ⟨w.heap.size, 1, none⟩ = some (.string X)) (first | go_keep | (rw [hgrow.cell_far _ (by first | omega | (simp; done) | (simp; omega)) (by simp [Value.ownBlock]; try omega)]; assumption))
          ((refine step_append_lies _ (by rfl) _ _ _ (by rfl) w.heap.size 9 i0 _ 1 16 Tryz.underlying41 hi0 hz0 hz1 hz2 rfl (by omega) _ 0 [] (by rfl) (owns_empty (by first | exact alloc_at _ _ _ (by simp) | exact alloc_below _ _ _ _ (alloc_at _ _ _ (by simp))) (by first | omega | (simp; done) | (simp; omega))) _ 1 1 [.string X] (by rfl) (by rfl) (World.news_of_block (cs := #[.string X]) (t := 9) (fr := (0, 0)) (by first | exact alloc_at _ _ _ (by simp) | exact alloc_below _ _ _ _ (alloc_at _ _ _ (by simp)))) (by simp [Value.oneCell']) (by omega) (by unfold maxLen; omega) (by omega) (by first | omega | (simp; done) | (simp; omega)) _ rfl ?_; intro gg cap w1 hown1 hgrow hat hlt; have B1 : Hid (Below w.heap.size w w1) := hidE (Below.grown (by repeat first | exact Below.refl _ _ | exact B1.out | (refine Below.alloc ?_ (by first | omega | (simp; done) | (simp; omega)) _) | (refine Below.drew ?_)) hgrow (by first | omega | (simp; done) | (simp; omega)) (by intro k hk; simp [Value.ownBlock] at hk; omega)); have HW1 := hidE hown1; clear hat hown1))
        all_goals
          go_wp2_with fail
          go_ret
          exact ⟨_, rfl, by rw [HRES.out]; exact rown_snoc out x X HW1.out HX.out (by rw [HZ.out]; rfl), B1.out⟩
      · have HZ := hidE hz
        obtain ⟨A0, c0, rfl, hcl⟩ := HO1.out
        rw [strV_len] at *
        have hk0 : 0 < out.length := List.length_pos_iff.2 hz
        obtain ⟨g0, rfl, hg0, hcells⟩ := hcl hk0
        have HSL : Hid ((strV out).length = out.length * 1) := hidE (by rw [strV_len, Nat.mul_one])
        have HCELLS : Hid (∀ W' : World, Below w.heap.size w W' → ∀ j u, (strV out)[j]? = some u → W'.cell? ((⟨g0, 0, none⟩ : Addr).add j) = some u) := hidE fun W' hb j u hu => by
          rw [add_zero_addr, hb.cell (p := ⟨g0, j, none⟩) hg0]; exact hcells j u hu
        obtain ⟨k, hk⟩ : ∃ k, out.length = k := ⟨_, rfl⟩
        rw [hk] at hk0 hol HSL ⊢
        have hs0 : w.heap.size < (w.alloc (.cells #[.int .i64 1, .string X, .int .i64 0, .slice A m c] 31)).heap.size := by simp
        clear hz hcl hcells hk
        go_region_held3 (fun w' => w'.cell? ⟨w.heap.size, 1, none⟩ = some (.string X)) (first | go_keep | (rw [hgrow2.cell_far _ (by first | omega | (simp; done) | (simp; omega)) (by intro e; injection e with e; simp at e; omega)]; assumption) | (rw [hgrow.cell_far _ (by first | omega | (simp; done) | (simp; omega)) (by simp [Value.ownBlock]; try omega)]; assumption))
          (first | ((refine step_append_lies _ (by rfl) _ _ _ (by rfl) (w.heap.size + 1) 9 i0 _ 1 16 Tryz.underlying41 hi0 hz0 hz1 hz2 rfl (by omega) _ 0 [] (by rfl) (owns_empty (by first | exact alloc_at _ _ _ (by simp) | exact alloc_below _ _ _ _ (alloc_at _ _ _ (by simp))) (by first | omega | (simp; done) | (simp; omega))) ⟨g0, 0, none⟩ k c0 (strV out) (by rfl) HSL.out (HCELLS.out _ (by repeat first | exact Below.refl _ _ | exact B1.out | (refine Below.alloc ?_ (by first | omega | (simp; done) | (simp; omega)) _) | (refine Below.drew ?_))) (one_strV out) hk0 (by unfold maxLen; omega) (by omega) (by first | omega | (simp; done) | (simp; omega)) _ rfl ?_); intro gg cap w1 hown1 hgrow hat hlt; simp only [Nat.zero_add, List.nil_append] at hown1 ⊢; have B1 : Hid (Below w.heap.size w w1) := hidE (Below.grown (by repeat first | exact Below.refl _ _ | exact B1.out | (refine Below.alloc ?_ (by first | omega | (simp; done) | (simp; omega)) _) | (refine Below.drew ?_)) hgrow (by first | omega | (simp; done) | (simp; omega)) (by intro k hk; simp [Value.ownBlock] at hk; omega)); have HW1 := hidE hown1; have HGE : w.heap.size + 1 ≤ gg := (hown1.lt gg rfl).1; first | (have HXB : Hid (w1.heap[w.heap.size + 1 + 1]? = some (.cells #[.string X] 9 (0, 0))) := hidE ((hgrow.block _ (by first | omega | (simp; done) | (simp; omega)) (by simp [Value.ownBlock])).trans (alloc_at _ _ _ (by simp)))) | (have HXB : Hid (w1.heap[w.heap.size + 1]? = some (.cells #[.string X] 9 (0, 0))) := hidE ((hgrow.block _ (by first | omega | (simp; done) | (simp; omega)) (by simp [Value.ownBlock])).trans (alloc_below _ _ _ _ (alloc_at _ _ _ (by simp))))) | skip; clear hat hown1) | ((refine step_append_lies _ (by rfl) _ _ _ (by rfl) (w.heap.size + 1) 9 i0 _ 1 16 Tryz.underlying41 hi0 hz0 hz1 hz2 rfl (by omega) _ k (strV out) (by rfl) (by first | exact HW1.out | exact HW1.out.alloc _) _ 1 1 [.string X] (by rfl) (by rfl) (World.news_of_block (cs := #[.string X]) (t := 9) (fr := (0, 0)) (by first | exact HXB.out | exact alloc_at _ _ _ (by simp))) (by simp [Value.oneCell']) (by omega) (by unfold maxLen; omega) (by omega) (by first | omega | (simp; done) | (simp; omega)) _ rfl ?_); intro gg2 cap2 w2 hown2 hgrow2' hat2 hlt2; have hgrow2 : World.grownBy _ w2 (some gg) := hgrow2'; clear hgrow2'; have B2 : Hid (Below w.heap.size w w2) := hidE (Below.grown (by repeat first | exact Below.refl _ _ | exact B1.out | (refine Below.alloc ?_ (by first | omega | (simp; done) | (simp; omega)) _) | (refine Below.drew ?_)) hgrow2 (by first | omega | (simp; done) | (simp; omega)) (by intro k hk; injection hk with hk; omega)); have HW2 := hidE hown2; clear hat2 hown2))
        all_goals
          go_wp2_with fail
          go_ret
          exact ⟨_, rfl, by rw [HRES.out]; exact rown_snoc out x X HW2.out HX.out rfl, B2.out⟩
    · have HRES : Hid (L = out) := hidE (by rw [← HL.out, if_neg (of_decide_eq_false HP.out), addN, if_pos (of_decide_eq_true HQ.out)])
      go_enter Tryz.func67, Tryz.ntmps67
      go_wp2_with (first | (go_at_call 35; (with_reducible refine (cb.out _ (HB.out.below (HAL.out _))).mono ?_); rintro e w1 ⟨rfl, rfl⟩) | (go_at_call 35; (with_reducible refine (co.out _ (HO1.out.below (HAL.out _))).mono ?_); rintro e w1 ⟨rfl, rfl⟩))
      go_ret
      exact ⟨_, rfl, by rw [HRES.out]; exact HO.out.below (HAL.out _), HAL.out _⟩
  · have HRES : Hid (L = out) := hidE (by rw [← HL.out, if_pos (of_decide_eq_true HP.out)])
    cases q
    all_goals
      go_enter Tryz.func67, Tryz.ntmps67
      go_wp2_with (first | (go_at_call 35; (with_reducible refine (cb.out _ (HB.out.below (HAL.out _))).mono ?_); rintro e w1 ⟨rfl, rfl⟩) | (go_at_call 35; (with_reducible refine (co.out _ (HO1.out.below (HAL.out _))).mono ?_); rintro e w1 ⟨rfl, rfl⟩))
      go_ret
      exact ⟨_, rfl, by rw [HRES.out]; exact HO.out.below (HAL.out _), HAL.out _⟩

end Go.Proofs.YthgkpmgcikopnaaGreatDoor

/-
  The walk over free of the document's answer for types: unknowns, constructors, functions.
-/
namespace Go.Proofs.YthgkpmgcikopnaaGreatDoor
open Go.RowKit Lx Tx
set_option maxRecDepth 100000

def FreeIH (n : Nat) : Prop := ∀ (t : Ty) (S : Nat → Prop) (v vb vo : Value) (b out : List (List UInt8)) (w : World), t.size ≤ n → RdV S w t v → (∀ g, S g → g < w.heap.size) → RowN w vb (strV b) → RowN w vo (strV out) →
  b.length + t.size ≤ 1000000 → out.length + t.size ≤ 1000000 → Calls Tryz.prog 67 #[v, vb, vo] w (FreePost t b out w)

set_option maxRecDepth 2000 in
set_option maxHeartbeats 1600000 in
theorem ref2_free_kids (n : Nat) (IH : FreeIH n) (t : Ty) (S : Nat → Prop) (K : Int) (X : ByteArray) (Z : Int) (A : Option Addr) (m c : Nat) (vb vo : Value) (b out : List (List UInt8)) (w : World) (hn : t.size ≤ n + 1)
    (d1 : ((K : Int) == 1) = false) (d5 : ((K : Int) == 5) = false) (hf : t.freeO b out = freeOL b (kids t) out) (hm : (kids t).length = m) (ha : Args S w t A) (hS : ∀ g, S g → g < w.heap.size) (hb : RowN w vb (strV b)) (ho : RowN w vo (strV out))
    (hbl : b.length + t.size ≤ 1000000) (hol : out.length + t.size ≤ 1000000) :
    Calls Tryz.prog 67 #[.agg #[.int .i64 K, .string X, .int .i64 Z, .slice A m c], vb, vo] w (FreePost t b out w) := by
  have HM := hidE hm
  have HA := hidE ha
  have HIH := hidE IH
  have HS := hidE hS
  have HN := hidE hn
  have HF := hidE hf
  have HB := hidE hb
  have HO := hidE ho
  have HBL := hidE hbl
  have HOL := hidE hol
  have hm6 : m ≤ 1000000 := by have := kids_len t; omega
  clear hm ha IH hS hn hf hb ho hbl hol
  go_enter Tryz.func67, Tryz.ntmps67
  go_wp2_with fail
  go_loopg [2, 10] m (fun gg vs vi wr => ∃ (i : Nat) (o : List (List UInt8)), gg = m - i ∧ vi = .int .i64 i ∧ i ≤ m ∧ Hid (o = freeOL b ((kids t).take i) out) ∧ RowN wr vs (strV o) ∧ Below (w.heap.size + 1) (w.alloc (.cells #[.int .i64 K, .string X, .int .i64 Z, .slice A m c] 31)) wr)
  case atStart => exact ⟨0, out, rfl, rfl, by omega, hidE rfl, HO.out.below ((Below.refl _ _).alloc (Nat.le_refl _) _), Below.refl _ _⟩
  case round =>
    obtain ⟨i, o, rfl, rfl, hi, hd, hro, hb⟩ := hrel
    have c3 : wr.cell? ⟨w.heap.size, 3, none⟩ = some (.slice A m c) := (hb.cell (p := ⟨w.heap.size, 3, none⟩) (by simp)).trans (cell_of_row _ _ _ _ _ _ (heap_alloc_new _ _))
    have HB2 := hidE hb
    have HRO := hidE hro
    clear hb hro
    by_cases hlt : i < m
    · obtain ⟨g, u, K1, X1, Z1, A1, n1, c1, rfl, hg, e0, e1, e2, e3, hu, hrd, hsz⟩ := kid_cells (w' := wr) HA.out HM.out hlt (fun g hg => by rw [HB2.out.block g (by have := HS.out g hg; omega), Below.heap_alloc _ _ _ (HS.out g hg)])
      have hbw : Below w.heap.size w wr := ((Below.refl _ w).alloc (Nat.le_refl _) _).trans (HB2.out.mono (by omega))
      have hgw : g < wr.heap.size := by have := hbw.size; have := HS.out g hg; omega
      have hlen : o.length + u.size ≤ 1000000 := by
        have h1 := freeOL_len b ((kids t).take i) out
        rw [← hd.out] at h1
        obtain ⟨hil, hul⟩ := List.getElem?_eq_some_iff.1 hu
        have h2 := sizeL_take (kids t) i
        have h3 : u.size ≤ sizeL ((kids t).drop i) := by
          rw [List.drop_eq_getElem_cons hil, sizeL, hul]; omega
        have := size_kids t
        have := HOL.out
        omega
      have hcall := HIH.out u S _ vb u2 b o wr (by have := HN.out; omega) hrd (fun g hg => by have := hbw.size; have := HS.out g hg; omega) (HB.out.below hbw) HRO.out (by have := HBL.out; omega) hlen
      have hnx := hidE (freeOL_take b _ _ _ _ _ hd hu)
      clear hrd hu hd hbw hlen
      go_wp2_with (go_at_call 67; refine hcall.mono ?_; rintro e w1 ⟨v1, rfl, hr1, b1⟩)
      have HR1 := hidE hr1
      have HB3 := hidE (bnext HB2.out b1 (by simp))
      go_roundg (m - (i + 1))
      case measure => omega
      case rel => exact ⟨i + 1, _, rfl, by go_num, by omega, hnx, HR1.out, HB3.out⟩
    · have hr := hidE (show o = t.freeO b out by rw [HF.out, hd.out, List.take_of_length_le (by rw [HM.out]; omega)])
      go_wp2_with fail
      go_ret
      exact ⟨_, rfl, by rw [← hr.out]; exact HRO.out, ((Below.refl _ w).alloc (Nat.le_refl _) _).trans (HB2.out.mono (by omega))⟩

end Go.Proofs.YthgkpmgcikopnaaGreatDoor

/-
  The walk over free of the document's answer for types: for alls; and free whole.
-/
namespace Go.Proofs.YthgkpmgcikopnaaGreatDoor
open Go.RowKit Lx Tx
set_option maxRecDepth 100000

set_option maxRecDepth 2000 in
set_option maxHeartbeats 3200000 in
theorem ref2_free_all (n : Nat) (IH : FreeIH n) (x : List UInt8) (t : Ty) (S : Nat → Prop) (Z : Int) (A : Option Addr) (c : Nat) (vb vo : Value) (b out : List (List UInt8)) (w : World) (hn : (Ty.all x t).size ≤ n + 1)
    (ha : Args S w (.all x t) A) (hS : ∀ g, S g → g < w.heap.size) (hb : RowN w vb (strV b)) (ho : RowN w vo (strV out)) (hbl : b.length + (Ty.all x t).size ≤ 1000000) (hol : out.length + (Ty.all x t).size ≤ 1000000) :
    Calls Tryz.prog 67 #[.agg #[.int .i64 5, .string ⟨x.toArray⟩, .int .i64 Z, .slice A 1 c], vb, vo] w (FreePost (.all x t) b out w) := by
  obtain ⟨X, hX⟩ : ∃ X : ByteArray, ⟨x.toArray⟩ = X := ⟨_, rfl⟩
  rw [hX]
  have HX := hidE hX
  have HA := hidE ha
  have HIH := hidE IH
  have HS := hidE hS
  have HN := hidE hn
  have HF := hidE (freeO_kids (.all x t) b out (fun _ h => by cases h))
  have HB := hidE hb
  have HB1 := hidE hb.1
  have HO := hidE ho
  have HBL := hidE hbl
  have HOL := hidE hol
  have hbl6 : b.length ≤ 1000000 := by omega
  obtain ⟨i0, hi0, hz0, hz1, hz2⟩ := info_parts ref2_str_info
  have hs0 : w.heap.size < (w.alloc (.cells #[.int .i64 5, .string X, .int .i64 Z, .slice A 1 c] 31)).heap.size := by simp
  by_cases hz : b = []
  · obtain rfl := HB.out.2 (by rw [hz]; rfl)
    have HZ := hidE hz
    clear hz hX ha IH hS hn hb ho hbl hol
    go_enter Tryz.func67, Tryz.ntmps67
    go_wp2_with fail
    go_region_held3 (fun w' => w'.cell? ⟨w.heap.size, 1, none⟩ = some (.string X) ∧ w'.cell? ⟨w.heap.size, 3, none⟩ = some (.slice A 1 c)) (first | go_keep | (go_split_ands; refine ⟨?_, ?_⟩ <;> (rw [hgrow2.cell_far _ (by first | omega | (simp; done) | (simp; omega)) (by intro e; injection e with e; simp at e; omega)]; assumption)) | (go_split_ands; refine ⟨?_, ?_⟩ <;> (rw [hgrow.cell_far _ (by first | omega | (simp; done) | (simp; omega)) (by simp [Value.ownBlock]; try omega)]; assumption)))
      (((refine step_append_lies _ (by rfl) _ _ _ (by rfl) (w.heap.size + 1) 9 i0 _ 1 16 Tryz.underlying41 hi0 hz0 hz1 hz2 rfl (by omega) _ 0 [] (by rfl) (owns_empty (by first | exact alloc_at _ _ _ (by simp) | exact alloc_below _ _ _ _ (alloc_at _ _ _ (by simp))) (by first | omega | (simp; done) | (simp; omega))) _ 1 1 [.string X] (by rfl) (by rfl) (World.news_of_block (cs := #[.string X]) (t := 9) (fr := (0, 0)) (by first | exact alloc_at _ _ _ (by simp) | exact alloc_below _ _ _ _ (alloc_at _ _ _ (by simp)))) (by simp [Value.oneCell']) (by omega) (by unfold maxLen; omega) (by omega) (by first | omega | (simp; done) | (simp; omega)) _ rfl ?_); intro gg cap w2 hown1 hgrow hat hlt; have B2 : Hid (Below (w.heap.size + 1) (w.alloc (.cells #[.int .i64 5, .string X, .int .i64 Z, .slice A 1 c] 31)) w2) := hidE (Below.grown (by repeat first | exact Below.refl _ _ | exact B1.out | (refine Below.alloc ?_ (by first | omega | (simp; done) | (simp; omega)) _) | (refine Below.drew ?_)) hgrow (by first | omega | (simp; done) | (simp; omega)) (by intro k hk; simp [Value.ownBlock] at hk; omega)); have HW2 := hidE hown1; clear hat hown1))
    all_goals (
      clear hgrow
      have c3w : w2.cell? ⟨w.heap.size, 3, none⟩ = some (.slice A 1 c) := (B2.out.cell (p := ⟨w.heap.size, 3, none⟩) (by simp)).trans (cell_of_row _ _ _ _ _ _ (heap_alloc_new _ _))
      have hbel2 : Hid (Below w.heap.size w w2) := hidE (((Below.refl _ w).alloc (Nat.le_refl _) _).trans (B2.out.mono (by omega)))
      have HRB : Hid (RowN w2 _ (strV (b ++ [x]))) := hidE (rown_snoc b x X HW2.out HX.out (by rw [HZ.out]; rfl))
      clear HW2
      go_wp2_with fail
      go_loopg [2, 10] 1 (fun gg vs vi wr => ∃ (i : Nat) (o : List (List UInt8)), gg = 1 - i ∧ vi = .int .i64 i ∧ i ≤ 1 ∧ Hid (o = freeOL (b ++ [x]) ((kids (.all x t)).take i) out) ∧ RowN wr vs (strV o) ∧ Below w2.heap.size w2 wr)
      case atStart => exact ⟨0, out, rfl, rfl, by omega, hidE rfl, HO.out.below hbel2.out, Below.refl _ _⟩
      case round =>
        obtain ⟨i, o, rfl, rfl, hi, hd, hro, hb⟩ := hrel
        have hbw : Below w.heap.size w wr := bnext hbel2.out hb (Nat.le_refl _)
        have c3 : wr.cell? ⟨w.heap.size, 3, none⟩ = some (.slice A 1 c) := (hb.cell (p := ⟨w.heap.size, 3, none⟩) (by have := B2.out.size; simp at this; simp; omega)).trans c3w
        have HB2 := hidE hb
        have HRO := hidE hro
        have HBW := hidE hbw
        clear hb hro
        by_cases hlt : i < 1
        · obtain ⟨g, u, K1, X1, Z1, A1, n1, c1, rfl, hg, e0, e1, e2, e3, hu, hrd, hsz⟩ := kid_cells (w' := wr) HA.out (show (kids (.all x t)).length = 1 from rfl) hlt (fun g hg => hbw.block g (HS.out g hg))
          have hgw : g < wr.heap.size := by have := hbw.size; have := HS.out g hg; omega
          have hlen : o.length + u.size ≤ 1000000 := by
            obtain rfl : i = 0 := by omega
            have h1 := HOL.out
            rw [hd.out]
            simp only [List.take_zero, freeOL]
            omega
          have hcall := HIH.out u S _ _ u2 (b ++ [x]) o wr (by have := HN.out; omega) hrd (fun g hg => by have := hbw.size; have := HS.out g hg; omega) (HRB.out.below HB2.out) HRO.out (by have := HBL.out; simp; omega) hlen
          have hnx := hidE (freeOL_take (b ++ [x]) _ _ _ _ _ hd hu)
          clear hrd hu hd hbw hlen
          go_wp2_with (go_at_call 67; refine hcall.mono ?_; rintro e w3 ⟨v1, rfl, hr1, b1⟩)
          have HR1 := hidE hr1
          have HB3 := hidE (bnext HB2.out b1 (Nat.le_refl _))
          go_roundg (1 - (i + 1))
          case measure => omega
          case rel => exact ⟨i + 1, _, rfl, by go_num, by omega, hnx, HR1.out, HB3.out⟩
        · have hr := hidE (show o = (Ty.all x t).freeO b out by rw [HF.out, hd.out, List.take_of_length_le (by show 1 ≤ i; omega)]; rfl)
          clear hbw
          go_wp2_with fail
          go_ret
          exact ⟨_, rfl, by rw [← hr.out]; exact HRO.out, HBW.out⟩
      )
  · have HZ := hidE hz
    obtain ⟨A0, c0, rfl, hcl⟩ := HB1.out
    rw [strV_len] at *
    have hk0 : 0 < b.length := List.length_pos_iff.2 hz
    obtain ⟨g0, rfl, hg0, hcells⟩ := hcl hk0
    have HSL : Hid ((strV b).length = b.length * 1) := hidE (by rw [strV_len, Nat.mul_one])
    have HCELLS : Hid (∀ W' : World, Below (w.heap.size + 1) (w.alloc (.cells #[.int .i64 5, .string X, .int .i64 Z, .slice A 1 c] 31)) W' → ∀ j u, (strV b)[j]? = some u → W'.cell? ((⟨g0, 0, none⟩ : Addr).add j) = some u) := hidE fun W' hb j u hu => by
      rw [add_zero_addr, hb.cell (p := ⟨g0, j, none⟩) (by simp; omega), World.cell?_of_block (w := w) (a := ⟨g0, j, none⟩) (Below.heap_alloc _ _ _ hg0)]; exact hcells j u hu
    obtain ⟨k, hk⟩ : ∃ k, b.length = k := ⟨_, rfl⟩
    rw [hk] at hk0 hbl6 HSL HB ⊢
    clear hz hcl hcells hk hX ha IH hS hn hb ho hbl hol HB1
    go_enter Tryz.func67, Tryz.ntmps67
    go_wp2_with fail
    go_region_held3 (fun w' => w'.cell? ⟨w.heap.size, 1, none⟩ = some (.string X) ∧ w'.cell? ⟨w.heap.size, 3, none⟩ = some (.slice A 1 c)) (first | go_keep | (go_split_ands; refine ⟨?_, ?_⟩ <;> (rw [hgrow2.cell_far _ (by first | omega | (simp; done) | (simp; omega)) (by intro e; injection e with e; simp at e; omega)]; assumption)) | (go_split_ands; refine ⟨?_, ?_⟩ <;> (rw [hgrow.cell_far _ (by first | omega | (simp; done) | (simp; omega)) (by simp [Value.ownBlock]; try omega)]; assumption)))
      (first | ((refine step_append_lies _ (by rfl) _ _ _ (by rfl) (w.heap.size + 1) 9 i0 _ 1 16 Tryz.underlying41 hi0 hz0 hz1 hz2 rfl (by omega) _ 0 [] (by rfl) (owns_empty (by first | exact alloc_at _ _ _ (by simp) | exact alloc_below _ _ _ _ (alloc_at _ _ _ (by simp))) (by first | omega | (simp; done) | (simp; omega))) ⟨g0, 0, none⟩ k c0 (strV b) (by rfl) HSL.out (HCELLS.out _ (by repeat first | exact Below.refl _ _ | exact B1.out | (refine Below.alloc ?_ (by first | omega | (simp; done) | (simp; omega)) _) | (refine Below.drew ?_))) (one_strV b) hk0 (by unfold maxLen; omega) (by omega) (by first | omega | (simp; done) | (simp; omega)) _ rfl ?_); intro gg cap w1 hown1 hgrow hat hlt; simp only [Nat.zero_add, List.nil_append] at hown1 ⊢; have B1 : Hid (Below (w.heap.size + 1) (w.alloc (.cells #[.int .i64 5, .string X, .int .i64 Z, .slice A 1 c] 31)) w1) := hidE (Below.grown (by repeat first | exact Below.refl _ _ | exact B1.out | (refine Below.alloc ?_ (by first | omega | (simp; done) | (simp; omega)) _) | (refine Below.drew ?_)) hgrow (by first | omega | (simp; done) | (simp; omega)) (by intro k hk; simp [Value.ownBlock] at hk; omega)); have HW1 := hidE hown1; have HGE : (w.heap.size + 1) ≤ gg := (hown1.lt gg rfl).1; first | (have HXB : Hid (w1.heap[w.heap.size + 1 + 1]? = some (.cells #[.string X] 9 (0, 0))) := hidE ((hgrow.block _ (by first | omega | (simp; done) | (simp; omega)) (by simp [Value.ownBlock])).trans (alloc_at _ _ _ (by simp)))) | (have HXB : Hid (w1.heap[w.heap.size + 1]? = some (.cells #[.string X] 9 (0, 0))) := hidE ((hgrow.block _ (by first | omega | (simp; done) | (simp; omega)) (by simp [Value.ownBlock])).trans (alloc_below _ _ _ _ (alloc_at _ _ _ (by simp))))) | skip; clear hat hown1) | ((refine step_append_lies _ (by rfl) _ _ _ (by rfl) (w.heap.size + 1) 9 i0 _ 1 16 Tryz.underlying41 hi0 hz0 hz1 hz2 rfl (by omega) _ k (strV b) (by rfl) (by first | exact HW1.out | exact HW1.out.alloc _) _ 1 1 [.string X] (by rfl) (by rfl) (World.news_of_block (cs := #[.string X]) (t := 9) (fr := (0, 0)) (by first | exact HXB.out | exact alloc_at _ _ _ (by simp))) (by simp [Value.oneCell']) (by omega) (by unfold maxLen; omega) (by omega) (by first | omega | (simp; done) | (simp; omega)) _ rfl ?_); intro gg2 cap2 w2 hown2 hgrow2' hat2 hlt2; have hgrow2 : World.grownBy _ w2 (some gg) := hgrow2'; clear hgrow2'; have B2 : Hid (Below (w.heap.size + 1) (w.alloc (.cells #[.int .i64 5, .string X, .int .i64 Z, .slice A 1 c] 31)) w2) := hidE (Below.grown (by repeat first | exact Below.refl _ _ | exact B1.out | (refine Below.alloc ?_ (by first | omega | (simp; done) | (simp; omega)) _) | (refine Below.drew ?_)) hgrow2 (by first | omega | (simp; done) | (simp; omega)) (by intro k hk; injection hk with hk; omega)); have HW2 := hidE hown2; clear hat2 hown2))
    all_goals (
      clear hgrow hgrow2
      have c3w : w2.cell? ⟨w.heap.size, 3, none⟩ = some (.slice A 1 c) := (B2.out.cell (p := ⟨w.heap.size, 3, none⟩) (by simp)).trans (cell_of_row _ _ _ _ _ _ (heap_alloc_new _ _))
      have hbel2 : Hid (Below w.heap.size w w2) := hidE (((Below.refl _ w).alloc (Nat.le_refl _) _).trans (B2.out.mono (by omega)))
      have HRB : Hid (RowN w2 _ (strV (b ++ [x]))) := hidE (rown_snoc b x X HW2.out HX.out rfl)
      clear HW2
      go_wp2_with fail
      go_loopg [2, 10] 1 (fun gg vs vi wr => ∃ (i : Nat) (o : List (List UInt8)), gg = 1 - i ∧ vi = .int .i64 i ∧ i ≤ 1 ∧ Hid (o = freeOL (b ++ [x]) ((kids (.all x t)).take i) out) ∧ RowN wr vs (strV o) ∧ Below w2.heap.size w2 wr)
      case atStart => exact ⟨0, out, rfl, rfl, by omega, hidE rfl, HO.out.below hbel2.out, Below.refl _ _⟩
      case round =>
        obtain ⟨i, o, rfl, rfl, hi, hd, hro, hb⟩ := hrel
        have hbw : Below w.heap.size w wr := bnext hbel2.out hb (Nat.le_refl _)
        have c3 : wr.cell? ⟨w.heap.size, 3, none⟩ = some (.slice A 1 c) := (hb.cell (p := ⟨w.heap.size, 3, none⟩) (by have := B2.out.size; simp at this; simp; omega)).trans c3w
        have HB2 := hidE hb
        have HRO := hidE hro
        have HBW := hidE hbw
        clear hb hro
        by_cases hlt : i < 1
        · obtain ⟨g, u, K1, X1, Z1, A1, n1, c1, rfl, hg, e0, e1, e2, e3, hu, hrd, hsz⟩ := kid_cells (w' := wr) HA.out (show (kids (.all x t)).length = 1 from rfl) hlt (fun g hg => hbw.block g (HS.out g hg))
          have hgw : g < wr.heap.size := by have := hbw.size; have := HS.out g hg; omega
          have hlen : o.length + u.size ≤ 1000000 := by
            obtain rfl : i = 0 := by omega
            have h1 := HOL.out
            rw [hd.out]
            simp only [List.take_zero, freeOL]
            omega
          have hcall := HIH.out u S _ _ u2 (b ++ [x]) o wr (by have := HN.out; omega) hrd (fun g hg => by have := hbw.size; have := HS.out g hg; omega) (HRB.out.below HB2.out) HRO.out (by have := HBL.out; simp; omega) hlen
          have hnx := hidE (freeOL_take (b ++ [x]) _ _ _ _ _ hd hu)
          clear hrd hu hd hbw hlen
          go_wp2_with (go_at_call 67; refine hcall.mono ?_; rintro e w3 ⟨v1, rfl, hr1, b1⟩)
          have HR1 := hidE hr1
          have HB3 := hidE (bnext HB2.out b1 (Nat.le_refl _))
          go_roundg (1 - (i + 1))
          case measure => omega
          case rel => exact ⟨i + 1, _, rfl, by go_num, by omega, hnx, HR1.out, HB3.out⟩
        · have hr := hidE (show o = (Ty.all x t).freeO b out by rw [HF.out, hd.out, List.take_of_length_le (by show 1 ≤ i; omega)]; rfl)
          clear hbw
          go_wp2_with fail
          go_ret
          exact ⟨_, rfl, by rw [← hr.out]; exact HRO.out, HBW.out⟩
      )

theorem ref2_freeN (n : Nat) : FreeIH n := by
  induction n with
  | zero => intro t S v vb vo b out w h; have := size_kids t; omega
  | succ n ih =>
    intro t S v vb vo b out w hn hv hS hb ho hbl hol
    obtain ⟨A, c, rfl, ha⟩ := hv
    cases t with
    | var x =>
      refine (ref2_free_var x A _ c vb vo b out w hb.1 ho (by omega) (by omega)).mono ?_
      rintro e w' ⟨v', h1, h2, h3⟩
      exact ⟨v', h1, by rw [Ty.freeO]; exact h2, h3⟩
    | mt k => exact ref2_free_kids n ih (.mt k) S _ _ _ A _ c vb vo b out w hn rfl rfl (freeO_kids _ _ _ (fun _ h => by cases h)) rfl ha hS hb ho hbl hol
    | con k l => exact ref2_free_kids n ih (.con k l) S _ _ _ A _ c vb vo b out w hn rfl rfl (freeO_kids _ _ _ (fun _ h => by cases h)) rfl ha hS hb ho hbl hol
    | fn t u => exact ref2_free_kids n ih (.fn t u) S _ _ _ A _ c vb vo b out w hn rfl rfl (freeO_kids _ _ _ (fun _ h => by cases h)) rfl ha hS hb ho hbl hol
    | all x t => exact ref2_free_all n ih x t S _ A c vb vo b out w hn ha hS hb ho hbl hol

/-- Free: what is free, in a row of the call's own, or nil -/
theorem ref2_free (t : Ty) (S : Nat → Prop) (v : Value) (w : World) (hs : t.size ≤ 1000000) (hv : RdV S w t v) (hS : ∀ g, S g → g < w.heap.size) :
    Calls Tryz.prog 30 #[v] w fun e w' => ∃ v', e = .returned v' ∧ RowN w' v' (strV t.free) ∧ Below w.heap.size w w' := by
  obtain ⟨K, X, Z, A, m, c, rfl, -, -, -, hm, ha⟩ := hv.parts
  have hcall := hidE (fun w' (hv' : RdV S w' t (.agg #[.int .i64 K, .string X, .int .i64 Z, .slice A m c])) hS' => ref2_freeN 1000000 t S _ (.slice none 0 0) (.slice none 0 0) [] [] w' hs hv' hS' (RowN.nil w') (RowN.nil w') (by simpa using hs) (by simpa using hs))
  have HV := hidE (hv.keep (S' := S) (w' := w.alloc (.cells #[.int .i64 K, .string X, .int .i64 Z, .slice A m c] 31)) (fun _ h => h) (fun g hg => Below.heap_alloc _ _ _ (hS g hg)))
  have HS := hidE hS
  clear hv hm ha hS
  go_enter Tryz.func30, Tryz.ntmps30
  go_wp2_with (go_at_call 67; refine (hcall.out _ HV.out (fun g hg => by have := HS.out g hg; simp; omega)).mono ?_; rintro e w1 ⟨v1, rfl, hr1, b1⟩)
  go_ret
  exact ⟨_, rfl, hr1, below_pre b1 (Nat.le_refl _)⟩

end Go.Proofs.YthgkpmgcikopnaaGreatDoor

/-
  The walk over metas of the document's answer for types: unknowns.
-/
namespace Go.Proofs.YthgkpmgcikopnaaGreatDoor
open Go.RowKit Lx Tx
set_option maxRecDepth 100000

theorem ref2_int_info : (Tryz.prog.info? 3).map (fun i => (i.zero, i.size, i.bytes)) = some (some (.int .i64 0), 1, 8) := by kernel_rfl

set_option maxRecDepth 2000 in
set_option maxHeartbeats 1600000 in
theorem ref2_metas_mt (k : Nat) (X : ByteArray) (A : Option Addr) (m c : Nat) (vo : Value) (out : List Nat) (w : World) (ho : RowN w vo (intV out)) (hol : out.length ≤ 100000) :
    Calls Tryz.prog 90 #[.agg #[.int .i64 2, .string X, .int .i64 k, .slice A m c], vo] w fun e w' => ∃ v', e = .returned v' ∧ RowN w' v' (intV (addN k out)) ∧ Below w.heap.size w w' := by
  obtain ⟨L, hL⟩ : ∃ L, addN k out = L := ⟨_, rfl⟩
  rw [hL]
  have HL := hidE hL
  clear hL
  have HO := hidE ho
  have HO1 := hidE ho.1
  obtain ⟨i0, hi0, hz0, hz1, hz2⟩ := info_parts ref2_int_info
  have hs0 : w.heap.size < (w.alloc (.cells #[.int .i64 2, .string X, .int .i64 k, .slice A m c] 31)).heap.size := by simp
  by_cases hz : out = []
  · obtain rfl := HO.out.2 (by rw [hz]; rfl)
    have HZ := hidE hz
    have HRES : Hid (L = out ++ [k]) := hidE (by rw [← HL.out, hz]; rfl)
    clear hz ho hol
    go_enter Tryz.func90, Tryz.ntmps90
    go_wp2_with fail
    go_loopg [5] 0 (fun gg vi wr => gg = 0 ∧ vi = .int .i64 0 ∧ wr = w.alloc (.cells #[.int .i64 2, .string X, .int .i64 k, .slice A m c] 31))
    case atStart => exact ⟨rfl, rfl, rfl⟩
    case round =>
      obtain ⟨rfl, rfl, rfl⟩ := hrel
      go_wp2_with fail
      go_region_held3 (fun w' => w'.cell? ⟨w.heap.size, 2, none⟩ = some (.int .i64 k)) (first | go_keep | (rw [hgrow2.cell_far _ (by first | omega | (simp; done) | (simp; omega)) (by intro e; injection e with e; simp at e; omega)]; assumption) | (rw [hgrow.cell_far _ (by first | omega | (simp; done) | (simp; omega)) (by simp [Value.ownBlock]; try omega)]; assumption))
        (((refine step_append_lies _ (by rfl) _ _ _ (by rfl) (w.heap.size + 1) 3 i0 _ 1 8 Tryz.underlying68 hi0 hz0 hz1 hz2 rfl (by omega) _ 0 [] (by rfl) (owns_empty (by first | exact alloc_at _ _ _ (by simp) | exact alloc_below _ _ _ _ (alloc_at _ _ _ (by simp))) (by first | omega | (simp; done) | (simp; omega))) _ 1 1 [.int .i64 k] (by rfl) (by rfl) (World.news_of_block (cs := #[.int .i64 k]) (t := 3) (fr := (0, 0)) (by first | exact alloc_at _ _ _ (by simp) | exact alloc_below _ _ _ _ (alloc_at _ _ _ (by simp)))) (by simp [Value.oneCell']) (by omega) (by unfold maxLen; omega) (by omega) (by first | omega | (simp; done) | (simp; omega)) _ rfl ?_); intro gg cap w2 hown1 hgrow hat hlt; have B2 : Hid (Below w.heap.size w w2) := hidE (Below.grown (by repeat first | exact Below.refl _ _ | exact B1.out | (refine Below.alloc ?_ (by first | omega | (simp; done) | (simp; omega)) _) | (refine Below.drew ?_)) hgrow (by first | omega | (simp; done) | (simp; omega)) (by intro k hk; simp [Value.ownBlock] at hk; omega)); have HW2 := hidE hown1; clear hat hown1))
      all_goals
        go_wp2_with fail
        go_ret
        exact ⟨_, rfl, by rw [HRES.out]; exact rown_snocI out k HW2.out (by rw [HZ.out]; rfl), B2.out⟩
  · have HZ := hidE hz
    obtain ⟨A0, c0, rfl, hcl⟩ := HO1.out
    rw [intV_len] at *
    have hk0 : 0 < out.length := List.length_pos_iff.2 hz
    obtain ⟨g0, rfl, hg0, hcells⟩ := hcl hk0
    have HSL : Hid ((intV out).length = out.length * 1) := hidE (by rw [intV_len, Nat.mul_one])
    have HCELLS : Hid (∀ W' : World, Below w.heap.size w W' → ∀ j u, (intV out)[j]? = some u → W'.cell? ((⟨g0, 0, none⟩ : Addr).add j) = some u) := hidE fun W' hb j u hu => by
      rw [add_zero_addr, hb.cell (p := ⟨g0, j, none⟩) hg0]; exact hcells j u hu
    have HAT : Hid (∀ j (h : j < out.length), w.cell? ⟨g0, j, none⟩ = some (.int .i64 (out[j] : Nat))) := hidE fun j h => hcells j _ (intV_at out j h)
    obtain ⟨z, hk⟩ : ∃ z, out.length = z := ⟨_, rfl⟩
    have HK := hidE hk
    rw [hk] at hk0 hol HSL ⊢
    have HO2 := hidE ho
    rw [hk] at HO2
    clear hz hcl hcells hk ho HO HO1
    go_enter Tryz.func90, Tryz.ntmps90
    go_wp2_with fail
    go_loopg [5] z (fun gg vi wr => ∃ (i : Nat) (nd : Nat), gg = z - i ∧ vi = .int .i64 i ∧ i ≤ z ∧ wr = (w.alloc (.cells #[.int .i64 2, .string X, .int .i64 k, .slice A m c] 31)).drewN nd ∧ Hid (k ∉ out.take i))
    case atStart => exact ⟨0, 0, rfl, rfl, by omega, rfl, hidE (by simp)⟩
    case round =>
      obtain ⟨i, nd, rfl, rfl, hi, rfl, hni⟩ := hrel
      by_cases hlt : i < z
      · have hol' : i < out.length := by rw [HK.out]; exact hlt
        obtain ⟨y, hy⟩ : ∃ y, out[i] = y := ⟨_, rfl⟩
        have e0 := HAT.out i hol'
        rw [hy] at e0
        have hlI : (i : Int) < (z : Int) := by omega
        have hiI : (0 : Int) ≤ (i : Int) := by omega
        by_cases hyk : y = k
        · have dy := kT y k hyk
          have HRES : Hid (L = out) := hidE (by rw [← HL.out, addN, if_pos (by rw [← hyk, ← hy]; exact List.getElem_mem hol')])
          clear hyk hy
          go_wp2_with fail
          go_quiet (fail)
          go_wp2_with fail
          go_ret
          have hb2 : Below w.heap.size w (((w.alloc (.cells #[.int .i64 2, .string X, .int .i64 k, .slice A m c] 31)).drewN nd).drewN nq) := below_drewN' (below_drewN' ((Below.refl _ w).alloc (Nat.le_refl _) _) nd) nq
          exact ⟨_, rfl, by rw [HRES.out]; exact HO2.out.below hb2, hb2⟩
        · have dy := kF y k hyk
          have hnx := hidE (not_take k out i hol' hni (by rw [hy]; exact hyk))
          clear hyk hy
          go_wp2_with fail
          go_quiet (fail)
          go_wp2_with fail
          go_roundg (z - (i + 1))
          case measure => omega
          case rel => exact ⟨i + 1, nd + nq, rfl, by go_num, by omega, by rw [drewN_add], hnx⟩
      · have HRES : Hid (L = out ++ [k]) := hidE (by rw [← HL.out, addN, if_neg (by have := hni.out; rwa [List.take_of_length_le (by rw [HK.out]; omega)] at this)])
        obtain ⟨W, hW⟩ : ∃ W : World, (w.alloc (.cells #[.int .i64 2, .string X, .int .i64 k, .slice A m c] 31)).drewN nd = W := ⟨_, rfl⟩
        have hwb : Hid (Below w.heap.size w W) := hidE (hW ▸ below_drewN' ((Below.refl _ w).alloc (Nat.le_refl _) _) nd)
        have x0 : W.cell? ⟨w.heap.size, 0, none⟩ = some (.int .i64 2) := hW ▸ cell_of_row _ _ _ _ _ _ (heap_alloc_new w (.cells #[.int .i64 2, .string X, .int .i64 k, .slice A m c] 31))
        have x2 : W.cell? ⟨w.heap.size, 2, none⟩ = some (.int .i64 k) := hW ▸ cell_of_row _ _ _ _ _ _ (heap_alloc_new w (.cells #[.int .i64 2, .string X, .int .i64 k, .slice A m c] 31))
        have hs1 : w.heap.size + 1 ≤ W.heap.size := by rw [← hW]; simp
        have hs2 : w.heap.size < W.heap.size := by omega
        rw [hW]
        clear hW hni
        go_wp2_with fail
        go_region_held3 (fun w' => w'.cell? ⟨w.heap.size, 2, none⟩ = some (.int .i64 k)) (first | go_keep | (rw [hgrow2.cell_far _ (by first | omega | (simp; done) | (simp; omega)) (by intro e; injection e with e; simp at e; omega)]; assumption) | (rw [hgrow.cell_far _ (by first | omega | (simp; done) | (simp; omega)) (by simp [Value.ownBlock]; try omega)]; assumption))
          (first | ((refine step_append_lies _ (by rfl) _ _ _ (by rfl) (w.heap.size + 1) 3 i0 _ 1 8 Tryz.underlying68 hi0 hz0 hz1 hz2 rfl (by omega) _ 0 [] (by rfl) (owns_empty (by first | exact alloc_at _ _ _ (by simp) | exact alloc_below _ _ _ _ (alloc_at _ _ _ (by simp))) (by first | omega | (simp; done) | (simp; omega))) ⟨g0, 0, none⟩ z c0 (intV out) (by rfl) HSL.out (HCELLS.out _ (by repeat first | exact hwb.out | exact B1.out | (refine Below.alloc ?_ (by first | omega | (simp; done) | (simp; omega)) _) | (refine Below.drew ?_))) (one_intV out) hk0 (by unfold maxLen; omega) (by omega) (by first | omega | (simp; done) | (simp; omega)) _ rfl ?_); intro gg cap w1 hown1 hgrow hat hlt; simp only [Nat.zero_add, List.nil_append] at hown1 ⊢; have B1 : Hid (Below w.heap.size w w1) := hidE (Below.grown (by repeat first | exact hwb.out | exact B1.out | (refine Below.alloc ?_ (by first | omega | (simp; done) | (simp; omega)) _) | (refine Below.drew ?_)) hgrow (by first | omega | (simp; done) | (simp; omega)) (by intro k hk; simp [Value.ownBlock] at hk; omega)); have HW1 := hidE hown1; have HGE : (w.heap.size + 1) ≤ gg := (hown1.lt gg rfl).1; first | (have HXB : Hid (w1.heap[W.heap.size + 1]? = some (.cells #[.int .i64 k] 3 (0, 0))) := hidE ((hgrow.block _ (by first | omega | (simp; done) | (simp; omega)) (by simp [Value.ownBlock])).trans (alloc_at _ _ _ (by simp)))) | (have HXB : Hid (w1.heap[W.heap.size]? = some (.cells #[.int .i64 k] 3 (0, 0))) := hidE ((hgrow.block _ (by first | omega | (simp; done) | (simp; omega)) (by simp [Value.ownBlock])).trans (alloc_below _ _ _ _ (alloc_at _ _ _ (by simp))))) | skip; clear hat hown1) | ((refine step_append_lies _ (by rfl) _ _ _ (by rfl) (w.heap.size + 1) 3 i0 _ 1 8 Tryz.underlying68 hi0 hz0 hz1 hz2 rfl (by omega) _ z (intV out) (by rfl) (by first | exact HW1.out | exact HW1.out.alloc _) _ 1 1 [.int .i64 k] (by rfl) (by rfl) (World.news_of_block (cs := #[.int .i64 k]) (t := 3) (fr := (0, 0)) (by first | exact HXB.out | exact alloc_at _ _ _ (by simp))) (by simp [Value.oneCell']) (by omega) (by unfold maxLen; omega) (by omega) (by first | omega | (simp; done) | (simp; omega)) _ rfl ?_); intro gg2 cap2 w2 hown2 hgrow2' hat2 hlt2; have hgrow2 : World.grownBy _ w2 (some gg) := hgrow2'; clear hgrow2'; have B2 : Hid (Below w.heap.size w w2) := hidE (Below.grown (by repeat first | exact Below.refl _ _ | exact B1.out | (refine Below.alloc ?_ (by first | omega | (simp; done) | (simp; omega)) _) | (refine Below.drew ?_)) hgrow2 (by first | omega | (simp; done) | (simp; omega)) (by intro k hk; injection hk with hk; omega)); have HW2 := hidE hown2; clear hat2 hown2))
        all_goals
          go_wp2_with fail
          go_ret
          exact ⟨_, rfl, by rw [HRES.out]; exact rown_snocI out k HW2.out rfl, B2.out⟩

end Go.Proofs.YthgkpmgcikopnaaGreatDoor

/-
  The walk over metas of the document's answer for types: whole.
-/
namespace Go.Proofs.YthgkpmgcikopnaaGreatDoor
open Go.RowKit Lx Tx
set_option maxRecDepth 100000

def MetasIH (n : Nat) : Prop := ∀ (t : Ty) (S : Nat → Prop) (v vo : Value) (out : List Nat) (w : World), t.size ≤ n → RdV S w t v → (∀ g, S g → g < w.heap.size) → RowN w vo (intV out) →
  out.length + t.size ≤ 100000 → Calls Tryz.prog 90 #[v, vo] w (MetasPost t out w)

set_option maxRecDepth 2000 in
set_option maxHeartbeats 1600000 in
theorem ref2_metas_kids (n : Nat) (IH : MetasIH n) (t : Ty) (S : Nat → Prop) (K : Int) (X : ByteArray) (Z : Int) (A : Option Addr) (m c : Nat) (vo : Value) (out : List Nat) (w : World) (hn : t.size ≤ n + 1)
    (d2 : ((K : Int) == 2) = false) (hf : t.metasO out = metasOL (kids t) out) (hm : (kids t).length = m) (ha : Args S w t A) (hS : ∀ g, S g → g < w.heap.size) (ho : RowN w vo (intV out))
    (hol : out.length + t.size ≤ 100000) :
    Calls Tryz.prog 90 #[.agg #[.int .i64 K, .string X, .int .i64 Z, .slice A m c], vo] w (MetasPost t out w) := by
  have HM := hidE hm
  have HA := hidE ha
  have HIH := hidE IH
  have HS := hidE hS
  have HN := hidE hn
  have HF := hidE hf
  have HO := hidE ho
  have HOL := hidE hol
  have hm6 : m ≤ 100000 := by have := kids_len t; omega
  clear hm ha IH hS hn hf ho hol
  go_enter Tryz.func90, Tryz.ntmps90
  go_wp2_with fail
  go_loopg [1, 6] m (fun gg vs vi wr => ∃ (i : Nat) (o : List Nat), gg = m - i ∧ vi = .int .i64 i ∧ i ≤ m ∧ Hid (o = metasOL ((kids t).take i) out) ∧ RowN wr vs (intV o) ∧ Below (w.heap.size + 1) (w.alloc (.cells #[.int .i64 K, .string X, .int .i64 Z, .slice A m c] 31)) wr)
  case atStart => exact ⟨0, out, rfl, rfl, by omega, hidE rfl, HO.out.below ((Below.refl _ _).alloc (Nat.le_refl _) _), Below.refl _ _⟩
  case round =>
    obtain ⟨i, o, rfl, rfl, hi, hd, hro, hb⟩ := hrel
    have c3 : wr.cell? ⟨w.heap.size, 3, none⟩ = some (.slice A m c) := (hb.cell (p := ⟨w.heap.size, 3, none⟩) (by simp)).trans (cell_of_row _ _ _ _ _ _ (heap_alloc_new _ _))
    have HB2 := hidE hb
    have HRO := hidE hro
    clear hb hro
    by_cases hlt : i < m
    · obtain ⟨g, u, K1, X1, Z1, A1, n1, c1, rfl, hg, e0, e1, e2, e3, hu, hrd, hsz⟩ := kid_cells (w' := wr) HA.out HM.out hlt (fun g hg => by rw [HB2.out.block g (by have := HS.out g hg; omega), Below.heap_alloc _ _ _ (HS.out g hg)])
      have hbw : Below w.heap.size w wr := ((Below.refl _ w).alloc (Nat.le_refl _) _).trans (HB2.out.mono (by omega))
      have hgw : g < wr.heap.size := by have := hbw.size; have := HS.out g hg; omega
      have hlen : o.length + u.size ≤ 100000 := by
        have h1 := metasOL_len ((kids t).take i) out
        rw [← hd.out] at h1
        obtain ⟨hil, hul⟩ := List.getElem?_eq_some_iff.1 hu
        have h2 := sizeL_take (kids t) i
        have h3 : u.size ≤ sizeL ((kids t).drop i) := by
          rw [List.drop_eq_getElem_cons hil, sizeL, hul]; omega
        have := size_kids t
        have := HOL.out
        omega
      have hcall := HIH.out u S _ u1 o wr (by have := HN.out; omega) hrd (fun g hg => by have := hbw.size; have := HS.out g hg; omega) HRO.out hlen
      have hnx := hidE (metasOL_take _ _ _ _ _ hd hu)
      clear hrd hu hd hbw hlen
      go_wp2_with (go_at_call 90; refine hcall.mono ?_; rintro e w1 ⟨v1, rfl, hr1, b1⟩)
      have HR1 := hidE hr1
      have HB3 := hidE (bnext HB2.out b1 (by simp))
      go_roundg (m - (i + 1))
      case measure => omega
      case rel => exact ⟨i + 1, _, rfl, by go_num, by omega, hnx, HR1.out, HB3.out⟩
    · have hr := hidE (show o = t.metasO out by rw [HF.out, hd.out, List.take_of_length_le (by rw [HM.out]; omega)])
      go_wp2_with fail
      go_ret
      exact ⟨_, rfl, by rw [← hr.out]; exact HRO.out, ((Below.refl _ w).alloc (Nat.le_refl _) _).trans (HB2.out.mono (by omega))⟩

theorem ref2_metasN (n : Nat) : MetasIH n := by
  induction n with
  | zero => intro t S v vo out w h; have := size_kids t; omega
  | succ n ih =>
    intro t S v vo out w hn hv hS ho hol
    obtain ⟨A, c, rfl, ha⟩ := hv
    cases t with
    | var x => exact ref2_metas_kids n ih (.var x) S _ _ _ A _ c vo out w hn rfl (metasO_kids _ _ (fun _ h => by cases h)) rfl ha hS ho hol
    | mt k =>
      refine (ref2_metas_mt k _ A _ c vo out w ho (by omega)).mono ?_
      rintro e w' ⟨v', h1, h2, h3⟩
      exact ⟨v', h1, by rw [Ty.metasO]; exact h2, h3⟩
    | con k l => exact ref2_metas_kids n ih (.con k l) S _ _ _ A _ c vo out w hn rfl (metasO_kids _ _ (fun _ h => by cases h)) rfl ha hS ho hol
    | fn t u => exact ref2_metas_kids n ih (.fn t u) S _ _ _ A _ c vo out w hn rfl (metasO_kids _ _ (fun _ h => by cases h)) rfl ha hS ho hol
    | all x t => exact ref2_metas_kids n ih (.all x t) S _ _ _ A _ c vo out w hn rfl (metasO_kids _ _ (fun _ h => by cases h)) rfl ha hS ho hol

/-- Metas: the unknowns' numbers, in a row of the call's own, or nil -/
theorem ref2_metas (t : Ty) (S : Nat → Prop) (v : Value) (w : World) (hs : t.size ≤ 100000) (hv : RdV S w t v) (hS : ∀ g, S g → g < w.heap.size) :
    Calls Tryz.prog 58 #[v] w fun e w' => ∃ v', e = .returned v' ∧ RowN w' v' (intV t.metas) ∧ Below w.heap.size w w' := by
  obtain ⟨K, X, Z, A, m, c, rfl, -, -, -, hm, ha⟩ := hv.parts
  have hcall := hidE (fun w' (hv' : RdV S w' t (.agg #[.int .i64 K, .string X, .int .i64 Z, .slice A m c])) hS' => ref2_metasN 100000 t S _ (.slice none 0 0) [] w' hs hv' hS' (RowN.nil w') (by simpa using hs))
  have HV := hidE (hv.keep (S' := S) (w' := w.alloc (.cells #[.int .i64 K, .string X, .int .i64 Z, .slice A m c] 31)) (fun _ h => h) (fun g hg => Below.heap_alloc _ _ _ (hS g hg)))
  have HS := hidE hS
  clear hv hm ha hS
  go_enter Tryz.func58, Tryz.ntmps58
  go_wp2_with (go_at_call 90; refine (hcall.out _ HV.out (fun g hg => by have := HS.out g hg; simp; omega)).mono ?_; rintro e w1 ⟨v1, rfl, hr1, b1⟩)
  go_ret
  exact ⟨_, rfl, hr1, below_pre b1 (Nat.le_refl _)⟩

end Go.Proofs.YthgkpmgcikopnaaGreatDoor
