/-
  Package types and what it stands on: contracts of the code's functions, part 3.
-/
import Derived.Test.YthgkpmgcikopnaaGreatDoorBvA
import Derived.Test.YthgkpmgcikopnaaGreatDoorBvB
/-
  The document's answer for types: Put and Fill.
-/
namespace Go.Proofs.YthgkpmgcikopnaaGreatDoor
open Go.RowKit Lx Tx
set_option maxRecDepth 100000

theorem atP_var (Y : ByteArray) : AtP 1 0 Y (isPV Y.data.toList) := by
  intro t
  cases t with
  | var x =>
    show (((1 : Nat) : Int) == 1 && (⟨x.toArray⟩ : ByteArray).toList == Y.toList && ((0 : Nat) : Int) == 0) = (x == Y.data.toList)
    rw [Lib.toList_data, Lib.toList_data]
    simp
  | mt n => rfl
  | con c l => rfl
  | fn a b => rfl
  | all x t => rfl
theorem atP_mt (n : Int) : AtP 2 n ⟨#[]⟩ (isPM n) := by
  intro t
  cases t with
  | var x => rfl
  | mt k =>
    show (((2 : Nat) : Int) == 2 && (⟨#[]⟩ : ByteArray).toList == (⟨#[]⟩ : ByteArray).toList && ((k : Nat) : Int) == n) = ((k : Int) == n)
    simp
  | con c l => rfl
  | fn a b => rfl
  | all x t => rfl

/-- the cells that Put and Fill read -/
def Ct (W : World) (b : Nat) (K : Int) (X : ByteArray) (Z : Int) (A : Option Addr) (m c : Nat) (Ku : Int) (Xu : ByteArray) (Zu : Int) (Au : Option Addr) (mu cu : Nat) : Prop :=
  W.cell? ⟨b, 0, none⟩ = some (.int .i64 K) ∧ W.cell? ⟨b, 1, none⟩ = some (.string X) ∧ W.cell? ⟨b, 2, none⟩ = some (.int .i64 Z) ∧ W.cell? ⟨b, 3, none⟩ = some (.slice A m c) ∧ W.cell? ⟨b + 1, 0, none⟩ = some (.int .i64 Ku) ∧ W.cell? ⟨b + 1, 1, none⟩ = some (.string Xu) ∧ W.cell? ⟨b + 1, 2, none⟩ = some (.int .i64 Zu) ∧ W.cell? ⟨b + 1, 3, none⟩ = some (.slice Au mu cu)
/-- what Put and Fill leave, in a result's box -/
theorem rpst_end {Su : Nat → Prop} {w V : World} {b n1 n2 : Nat} {t : Ty} {K Z : Int} {X : ByteArray} {A : Option Addr} {m c : Nat} (hSu : ∀ g, Su g → g < w.heap.size) (hb : w.heap.size ≤ b) (h : Below w.heap.size w V) (h1 : b < n1) (h2 : n2 ≤ V.heap.size) (hr : RdV (fun g => Su g ∨ n1 ≤ g ∧ g < n2) V t (.agg #[.int .i64 K, .string X, .int .i64 Z, .slice A m c])) :
    RPst Su w t (.returned (.agg #[.int .i64 K, .string X, .int .i64 Z, .slice A m c])) ((((V.setCell ⟨b, 0, none⟩ (.int .i64 K)).setCell ⟨b, 1, none⟩ (.string X)).setCell ⟨b, 2, none⟩ (.int .i64 Z)).setCell ⟨b, 3, none⟩ (.slice A m c)) :=
  ⟨below_set4 h _ _ _ _ hb, K, X, Z, A, m, c, rfl, hr.keep (fun g hg => hg.elim .inl (fun hg => .inr ⟨by omega, by simp; omega⟩)) (fun g hg => heap_set4 _ _ _ _ _ _ _ (by rcases hg with hg | hg; (have := hSu g hg; omega); omega))⟩

set_option maxRecDepth 2000 in
set_option maxHeartbeats 3200000 in
/-- Put -/
theorem ref2_Put (t u : Ty) (S Su : Nat → Prop) (Y : ByteArray) (v uv : Value) (w : World) (hs : t.size ≤ 100000) (hsu : u.size ≤ 100000) (hv : RdV S w t v) (hS : ∀ g, S g → g < w.heap.size) (hu : RdV Su w u uv) (hSu : ∀ g, Su g → g < w.heap.size) :
    Calls Tryz.prog 20 #[v, .string Y, uv] w (RPst Su w (raw (isPV Y.data.toList) u (numb 121 (butA Y t u) [] [] t 0).1)) := by
  obtain ⟨K, X, Z, A, m, c, rfl, -, -, -, -, -⟩ := hv.parts
  obtain ⟨Ku, Xu, Zu, Au, mu, cu, rfl, -, -, -, -, -⟩ := hu.parts
  obtain ⟨W0, hW⟩ : ∃ W, ((w.alloc (.cells #[.int .i64 K, .string X, .int .i64 Z, .slice A m c] 31)).alloc (.cells #[.int .i64 Ku, .string Xu, .int .i64 Zu, .slice Au mu cu] 31)).alloc (.cells #[.int .i64 0, .string ⟨#[]⟩, .int .i64 0, .slice none 0 0] 31) = W := ⟨_, rfl⟩
  have k3 : Blk W0 w.heap.size 31 #[.int .i64 K, .string X, .int .i64 Z, .slice A m c] := hW ▸ alloc_below _ _ _ _ (alloc_below _ _ _ _ (heap_alloc_new _ _))
  have k4 : Blk W0 (w.heap.size + 1) 31 #[.int .i64 Ku, .string Xu, .int .i64 Zu, .slice Au mu cu] := hW ▸ alloc_below _ _ _ _ (alloc_at _ _ _ (by simp))
  have k6 : Blk W0 (w.heap.size + 2) 31 #[.int .i64 0, .string ⟨#[]⟩, .int .i64 0, .slice none 0 0] := hW ▸ alloc_at _ _ _ (by simp)
  have hb0 : Below w.heap.size w W0 := hW ▸ ((((Below.refl _ w).alloc (Nat.le_refl _) _).alloc (by simp) _).alloc (by simp; omega) _)
  have hsz0 : w.heap.size + 2 < W0.heap.size := by rw [← hW]; simp
  have hv0 : RdV S W0 t (.agg #[.int .i64 K, .string X, .int .i64 Z, .slice A m c]) := hv.keep (fun _ h => h) (fun g hg => hb0.block g (hS g hg))
  have hu0 : RdV Su W0 u (.agg #[.int .i64 Ku, .string Xu, .int .i64 Zu, .slice Au mu cu]) := hu.keep (fun _ h => h) (fun g hg => hb0.block g (hSu g hg))
  have hS0 : ∀ g, S g → g < W0.heap.size := fun g hg => by have := hS g hg; omega
  have hSu0 : ∀ g, Su g → g < W0.heap.size := fun g hg => by have := hSu g hg; omega
  have F1 := hidE (fun W (h : Below W0.heap.size W0 W) => ref2_apart t u S Su Y _ _ W hs hsu (hv0.keep (S' := S) (fun _ h => h) (fun g hg => h.block g (hS0 g hg))) (fun g hg => by have := hS0 g hg; have := h.size; omega)
    (hu0.keep (S' := Su) (fun _ h => h) (fun g hg => h.block g (hSu0 g hg))) (fun g hg => by have := hSu0 g hg; have := h.size; omega))
  obtain ⟨o, ho⟩ : ∃ o, (numb 121 (butA Y t u) [] [] t 0).1 = o := ⟨_, rfl⟩
  have hos : o.size = t.size := by rw [← ho]; exact numb_size _ _ t _ _ _
  rw [ho] at F1 ⊢
  have F2 := hidE (fun W V (S' : Nat → Prop) (h : Below W0.heap.size W0 W) (hr : RdV S' W o V) (hS' : ∀ g, S' g → g < W.heap.size) => ref2_putN 1 0 Y (isPV Y.data.toList) (atP_var Y) u 100000 (by omega) o S' Su V Ku Xu Zu Au mu cu W (by omega) hr hS'
    (hu0.keep (S' := Su) (fun _ h => h) (fun g hg => h.block g (hSu0 g hg))) (fun g hg => by have := hSu0 g hg; have := h.size; omega))
  obtain ⟨r, hr⟩ : ∃ r, raw (isPV Y.data.toList) u o = r := ⟨_, rfl⟩
  rw [hr] at F2 ⊢
  have SOF : Hid (∀ W, Below W0.heap.size W0 W → (fun W => W.cell? ⟨w.heap.size, 0, none⟩ = some (.int .i64 K) ∧ W.cell? ⟨w.heap.size, 1, none⟩ = some (.string X) ∧ W.cell? ⟨w.heap.size, 2, none⟩ = some (.int .i64 Z) ∧ W.cell? ⟨w.heap.size, 3, none⟩ = some (.slice A m c) ∧ W.cell? ⟨w.heap.size + 1, 0, none⟩ = some (.int .i64 Ku) ∧ W.cell? ⟨w.heap.size + 1, 1, none⟩ = some (.string Xu) ∧ W.cell? ⟨w.heap.size + 1, 2, none⟩ = some (.int .i64 Zu) ∧ W.cell? ⟨w.heap.size + 1, 3, none⟩ = some (.slice Au mu cu)) W) :=
    hidE fun W h => by
      obtain ⟨a0, a1, a2, a3, -, -, -, -, -⟩ := blk_facts4 (k3.below h (by omega))
      obtain ⟨b0, b1, b2, b3, -, -, -, -, -⟩ := blk_facts4 (k4.below h (by omega))
      exact ⟨a0, a1, a2, a3, b0, b1, b2, b3⟩
  have SOT : Hid (∀ W, Below W0.heap.size W0 W → ∀ x0 x1 x2 x3, (fun W => W.cell? ⟨w.heap.size, 0, none⟩ = some (.int .i64 K) ∧ W.cell? ⟨w.heap.size, 1, none⟩ = some (.string X) ∧ W.cell? ⟨w.heap.size, 2, none⟩ = some (.int .i64 Z) ∧ W.cell? ⟨w.heap.size, 3, none⟩ = some (.slice A m c) ∧ W.cell? ⟨w.heap.size + 1, 0, none⟩ = some (.int .i64 Ku) ∧ W.cell? ⟨w.heap.size + 1, 1, none⟩ = some (.string Xu) ∧ W.cell? ⟨w.heap.size + 1, 2, none⟩ = some (.int .i64 Zu) ∧ W.cell? ⟨w.heap.size + 1, 3, none⟩ = some (.slice Au mu cu)) ((((W.setCell ⟨w.heap.size + 2, 0, none⟩ x0).setCell ⟨w.heap.size + 2, 1, none⟩ x1).setCell ⟨w.heap.size + 2, 2, none⟩ x2).setCell ⟨w.heap.size + 2, 3, none⟩ x3)) :=
    hidE fun W h x0 x1 x2 x3 => by
      have e3 : Blk W _ _ _ := k3.below h (by omega)
      have e4 : Blk W _ _ _ := k4.below h (by omega)
      have f3 : Blk ((((W.setCell ⟨w.heap.size + 2, 0, none⟩ x0).setCell ⟨w.heap.size + 2, 1, none⟩ x1).setCell ⟨w.heap.size + 2, 2, none⟩ x2).setCell ⟨w.heap.size + 2, 3, none⟩ x3) _ _ _ := (heap_set4 W (w.heap.size + 2) x0 x1 x2 x3 w.heap.size (by omega)).trans e3
      have f4 : Blk ((((W.setCell ⟨w.heap.size + 2, 0, none⟩ x0).setCell ⟨w.heap.size + 2, 1, none⟩ x1).setCell ⟨w.heap.size + 2, 2, none⟩ x2).setCell ⟨w.heap.size + 2, 3, none⟩ x3) _ _ _ := (heap_set4 W (w.heap.size + 2) x0 x1 x2 x3 (w.heap.size + 1) (by omega)).trans e4
      obtain ⟨a0, a1, a2, a3, -, -, -, -, -⟩ := blk_facts4 f3
      obtain ⟨b0, b1, b2, b3, -, -, -, -, -⟩ := blk_facts4 f4
      exact ⟨a0, a1, a2, a3, b0, b1, b2, b3⟩
  have B0 : Hid (Below W0.heap.size W0 W0.drew) := hidE (Below.refl _ W0).drew
  have HB0 := hidE hb0
  have K6 := hidE k6
  have HSZ := hidE hsz0
  have HSU := hidE hSu
  clear hv hu hS hSu hs hsu k3 k4 k6 hb0 hsz0 hv0 hu0 hS0 hSu0 ho hos hr
  go_enter Tryz.func20, Tryz.ntmps20
  go_upto_region 1 with fail
  clear hW
  go_region_held3 (fun W => W.cell? ⟨w.heap.size, 0, none⟩ = some (.int .i64 K) ∧ W.cell? ⟨w.heap.size, 1, none⟩ = some (.string X) ∧ W.cell? ⟨w.heap.size, 2, none⟩ = some (.int .i64 Z) ∧ W.cell? ⟨w.heap.size, 3, none⟩ = some (.slice A m c) ∧ W.cell? ⟨w.heap.size + 1, 0, none⟩ = some (.int .i64 Ku) ∧ W.cell? ⟨w.heap.size + 1, 1, none⟩ = some (.string Xu) ∧ W.cell? ⟨w.heap.size + 1, 2, none⟩ = some (.int .i64 Zu) ∧ W.cell? ⟨w.heap.size + 1, 3, none⟩ = some (.slice Au mu cu))
    (first | (with_reducible exact SOF.out _ B0.out) | (with_reducible exact SOF.out _ B2.out) | (with_reducible exact SOF.out _ B1.out) | (exact SOT.out _ B2.out _ _ _ _))
    ((first
      | ((with_reducible refine (F1.out _ B0.out).mono ?_); rintro e w1 ⟨b1, K1, X1, Z1, A1, m1, c1, rfl, hr1⟩; have R1 := hidE hr1; have B1 := hidE (below_tr' B0.out b1); clear hr1 b1)
      | ((with_reducible refine (F2.out _ _ _ B1.out R1.out (fun _ h => h.2)).mono ?_); rintro e w2 ⟨b2, K2, X2, Z2, A2, m2, c2, rfl, hr2⟩; have R2 := hidE hr2; have B2 := hidE (below_tr' B1.out b2); have hz6 := K6.out.below B2.out HSZ.out; obtain ⟨y0, y1, y2, y3, y4, y5, y6, y7, y8⟩ := blk_facts4 hz6; have HZ6 := hidE hz6; clear hr2 b2 hz6)))
  all_goals
    go_wp2_with fail
    try simp only [Exit.inBlock, Exit.then]
    refine bodyPost_ret (results_cell_row rfl _ _ (w.heap.size + 2) 31 _ (0, 0) _ rfl (blk_set4 (.int .i64 K2) (.string X2) (.int .i64 Z2) (.slice A2 m2 c2) HZ6.out) Tryz.underlying31 rfl (by kernel_rfl)) rfl ?_
    exact rpst_end HSU.out (by omega) (HB0.out.trans (B2.out.mono HB0.out.size)) (by have := HSZ.out; have := B1.out.size; omega) (Nat.le_refl _) R2.out

set_option maxRecDepth 2000 in
set_option maxHeartbeats 3200000 in
/-- Fill -/
theorem ref2_Fill (t u : Ty) (S Su : Nat → Prop) (n : Int) (v uv : Value) (w : World) (hs : t.size ≤ 100000) (hsu : u.size ≤ 100000) (hv : RdV S w t v) (hS : ∀ g, S g → g < w.heap.size) (hu : RdV Su w u uv) (hSu : ∀ g, Su g → g < w.heap.size) :
    Calls Tryz.prog 21 #[v, .int .i64 n, uv] w (RPst Su w (raw (isPM n) u (numb 121 (butA ⟨#[]⟩ t u) [] [] t 0).1)) := by
  obtain ⟨K, X, Z, A, m, c, rfl, -, -, -, -, -⟩ := hv.parts
  obtain ⟨Ku, Xu, Zu, Au, mu, cu, rfl, -, -, -, -, -⟩ := hu.parts
  obtain ⟨W0, hW⟩ : ∃ W, ((w.alloc (.cells #[.int .i64 K, .string X, .int .i64 Z, .slice A m c] 31)).alloc (.cells #[.int .i64 Ku, .string Xu, .int .i64 Zu, .slice Au mu cu] 31)).alloc (.cells #[.int .i64 0, .string ⟨#[]⟩, .int .i64 0, .slice none 0 0] 31) = W := ⟨_, rfl⟩
  have k3 : Blk W0 w.heap.size 31 #[.int .i64 K, .string X, .int .i64 Z, .slice A m c] := hW ▸ alloc_below _ _ _ _ (alloc_below _ _ _ _ (heap_alloc_new _ _))
  have k4 : Blk W0 (w.heap.size + 1) 31 #[.int .i64 Ku, .string Xu, .int .i64 Zu, .slice Au mu cu] := hW ▸ alloc_below _ _ _ _ (alloc_at _ _ _ (by simp))
  have k6 : Blk W0 (w.heap.size + 2) 31 #[.int .i64 0, .string ⟨#[]⟩, .int .i64 0, .slice none 0 0] := hW ▸ alloc_at _ _ _ (by simp)
  have hb0 : Below w.heap.size w W0 := hW ▸ ((((Below.refl _ w).alloc (Nat.le_refl _) _).alloc (by simp) _).alloc (by simp; omega) _)
  have hsz0 : w.heap.size + 2 < W0.heap.size := by rw [← hW]; simp
  have hv0 : RdV S W0 t (.agg #[.int .i64 K, .string X, .int .i64 Z, .slice A m c]) := hv.keep (fun _ h => h) (fun g hg => hb0.block g (hS g hg))
  have hu0 : RdV Su W0 u (.agg #[.int .i64 Ku, .string Xu, .int .i64 Zu, .slice Au mu cu]) := hu.keep (fun _ h => h) (fun g hg => hb0.block g (hSu g hg))
  have hS0 : ∀ g, S g → g < W0.heap.size := fun g hg => by have := hS g hg; omega
  have hSu0 : ∀ g, Su g → g < W0.heap.size := fun g hg => by have := hSu g hg; omega
  have F1 := hidE (fun W (h : Below W0.heap.size W0 W) => ref2_apart t u S Su ⟨#[]⟩ _ _ W hs hsu (hv0.keep (S' := S) (fun _ h => h) (fun g hg => h.block g (hS0 g hg))) (fun g hg => by have := hS0 g hg; have := h.size; omega)
    (hu0.keep (S' := Su) (fun _ h => h) (fun g hg => h.block g (hSu0 g hg))) (fun g hg => by have := hSu0 g hg; have := h.size; omega))
  obtain ⟨o, ho⟩ : ∃ o, (numb 121 (butA ⟨#[]⟩ t u) [] [] t 0).1 = o := ⟨_, rfl⟩
  have hos : o.size = t.size := by rw [← ho]; exact numb_size _ _ t _ _ _
  rw [ho] at F1 ⊢
  have F2 := hidE (fun W V (S' : Nat → Prop) (h : Below W0.heap.size W0 W) (hr : RdV S' W o V) (hS' : ∀ g, S' g → g < W.heap.size) => ref2_putN 2 n ⟨#[]⟩ (isPM n) (atP_mt n) u 100000 (by omega) o S' Su V Ku Xu Zu Au mu cu W (by omega) hr hS'
    (hu0.keep (S' := Su) (fun _ h => h) (fun g hg => h.block g (hSu0 g hg))) (fun g hg => by have := hSu0 g hg; have := h.size; omega))
  obtain ⟨r, hr⟩ : ∃ r, raw (isPM n) u o = r := ⟨_, rfl⟩
  rw [hr] at F2 ⊢
  have SOF : Hid (∀ W, Below W0.heap.size W0 W → (fun W => W.cell? ⟨w.heap.size, 0, none⟩ = some (.int .i64 K) ∧ W.cell? ⟨w.heap.size, 1, none⟩ = some (.string X) ∧ W.cell? ⟨w.heap.size, 2, none⟩ = some (.int .i64 Z) ∧ W.cell? ⟨w.heap.size, 3, none⟩ = some (.slice A m c) ∧ W.cell? ⟨w.heap.size + 1, 0, none⟩ = some (.int .i64 Ku) ∧ W.cell? ⟨w.heap.size + 1, 1, none⟩ = some (.string Xu) ∧ W.cell? ⟨w.heap.size + 1, 2, none⟩ = some (.int .i64 Zu) ∧ W.cell? ⟨w.heap.size + 1, 3, none⟩ = some (.slice Au mu cu)) W) :=
    hidE fun W h => by
      obtain ⟨a0, a1, a2, a3, -, -, -, -, -⟩ := blk_facts4 (k3.below h (by omega))
      obtain ⟨b0, b1, b2, b3, -, -, -, -, -⟩ := blk_facts4 (k4.below h (by omega))
      exact ⟨a0, a1, a2, a3, b0, b1, b2, b3⟩
  have SOT : Hid (∀ W, Below W0.heap.size W0 W → ∀ x0 x1 x2 x3, (fun W => W.cell? ⟨w.heap.size, 0, none⟩ = some (.int .i64 K) ∧ W.cell? ⟨w.heap.size, 1, none⟩ = some (.string X) ∧ W.cell? ⟨w.heap.size, 2, none⟩ = some (.int .i64 Z) ∧ W.cell? ⟨w.heap.size, 3, none⟩ = some (.slice A m c) ∧ W.cell? ⟨w.heap.size + 1, 0, none⟩ = some (.int .i64 Ku) ∧ W.cell? ⟨w.heap.size + 1, 1, none⟩ = some (.string Xu) ∧ W.cell? ⟨w.heap.size + 1, 2, none⟩ = some (.int .i64 Zu) ∧ W.cell? ⟨w.heap.size + 1, 3, none⟩ = some (.slice Au mu cu)) ((((W.setCell ⟨w.heap.size + 2, 0, none⟩ x0).setCell ⟨w.heap.size + 2, 1, none⟩ x1).setCell ⟨w.heap.size + 2, 2, none⟩ x2).setCell ⟨w.heap.size + 2, 3, none⟩ x3)) :=
    hidE fun W h x0 x1 x2 x3 => by
      have e3 : Blk W _ _ _ := k3.below h (by omega)
      have e4 : Blk W _ _ _ := k4.below h (by omega)
      have f3 : Blk ((((W.setCell ⟨w.heap.size + 2, 0, none⟩ x0).setCell ⟨w.heap.size + 2, 1, none⟩ x1).setCell ⟨w.heap.size + 2, 2, none⟩ x2).setCell ⟨w.heap.size + 2, 3, none⟩ x3) _ _ _ := (heap_set4 W (w.heap.size + 2) x0 x1 x2 x3 w.heap.size (by omega)).trans e3
      have f4 : Blk ((((W.setCell ⟨w.heap.size + 2, 0, none⟩ x0).setCell ⟨w.heap.size + 2, 1, none⟩ x1).setCell ⟨w.heap.size + 2, 2, none⟩ x2).setCell ⟨w.heap.size + 2, 3, none⟩ x3) _ _ _ := (heap_set4 W (w.heap.size + 2) x0 x1 x2 x3 (w.heap.size + 1) (by omega)).trans e4
      obtain ⟨a0, a1, a2, a3, -, -, -, -, -⟩ := blk_facts4 f3
      obtain ⟨b0, b1, b2, b3, -, -, -, -, -⟩ := blk_facts4 f4
      exact ⟨a0, a1, a2, a3, b0, b1, b2, b3⟩
  have B0 : Hid (Below W0.heap.size W0 W0.drew) := hidE (Below.refl _ W0).drew
  have HB0 := hidE hb0
  have K6 := hidE k6
  have HSZ := hidE hsz0
  have HSU := hidE hSu
  clear hv hu hS hSu hs hsu k3 k4 k6 hb0 hsz0 hv0 hu0 hS0 hSu0 ho hos hr
  go_enter Tryz.func21, Tryz.ntmps21
  go_upto_region 1 with fail
  clear hW
  go_region_held3 (fun W => W.cell? ⟨w.heap.size, 0, none⟩ = some (.int .i64 K) ∧ W.cell? ⟨w.heap.size, 1, none⟩ = some (.string X) ∧ W.cell? ⟨w.heap.size, 2, none⟩ = some (.int .i64 Z) ∧ W.cell? ⟨w.heap.size, 3, none⟩ = some (.slice A m c) ∧ W.cell? ⟨w.heap.size + 1, 0, none⟩ = some (.int .i64 Ku) ∧ W.cell? ⟨w.heap.size + 1, 1, none⟩ = some (.string Xu) ∧ W.cell? ⟨w.heap.size + 1, 2, none⟩ = some (.int .i64 Zu) ∧ W.cell? ⟨w.heap.size + 1, 3, none⟩ = some (.slice Au mu cu))
    (first | (with_reducible exact SOF.out _ B0.out) | (with_reducible exact SOF.out _ B2.out) | (with_reducible exact SOF.out _ B1.out) | (exact SOT.out _ B2.out _ _ _ _))
    ((first
      | ((with_reducible refine (F1.out _ B0.out).mono ?_); rintro e w1 ⟨b1, K1, X1, Z1, A1, m1, c1, rfl, hr1⟩; have R1 := hidE hr1; have B1 := hidE (below_tr' B0.out b1); clear hr1 b1)
      | ((with_reducible refine (F2.out _ _ _ B1.out R1.out (fun _ h => h.2)).mono ?_); rintro e w2 ⟨b2, K2, X2, Z2, A2, m2, c2, rfl, hr2⟩; have R2 := hidE hr2; have B2 := hidE (below_tr' B1.out b2); have hz6 := K6.out.below B2.out HSZ.out; obtain ⟨y0, y1, y2, y3, y4, y5, y6, y7, y8⟩ := blk_facts4 hz6; have HZ6 := hidE hz6; clear hr2 b2 hz6)))
  all_goals
    go_wp2_with fail
    try simp only [Exit.inBlock, Exit.then]
    refine bodyPost_ret (results_cell_row rfl _ _ (w.heap.size + 2) 31 _ (0, 0) _ rfl (blk_set4 (.int .i64 K2) (.string X2) (.int .i64 Z2) (.slice A2 m2 c2) HZ6.out) Tryz.underlying31 rfl (by kernel_rfl)) rfl ?_
    exact rpst_end HSU.out (by omega) (HB0.out.trans (B2.out.mono HB0.out.size)) (by have := HSZ.out; have := B1.out.size; omega) (Nat.le_refl _) R2.out

end Go.Proofs.YthgkpmgcikopnaaGreatDoor
