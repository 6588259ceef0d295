/-
  Package types and what it stands on: contracts of the code's functions, part 2.
-/
import Derived.Test.YthgkpmgcikopnaaGreatDoorByB
import Derived.Test.YthgkpmgcikopnaaGreatDoorBwB
import Derived.Test.YthgkpmgcikopnaaGreatDoorBzA
import Derived.Deep.RegionHeld3
import Derived.Deep.RegionLaw
import Derived.Deep.AppendLies
import Derived.Deep.Cut
import Derived.Deep.CutRange
/-
  The walk over put of the document's answer for types.
-/
namespace Go.Proofs.YthgkpmgcikopnaaGreatDoor
open Go.RowKit Lx Tx
set_option maxRecDepth 100000

theorem below_trP {w0 w w' : World} (h : Below w0.heap.size w0 w) (hb : Below w.heap.size w w') : Below w0.heap.size w0 w' := h.trans (hb.mono h.size)
/-- what put leaves -/
def RPst (Su : Nat → Prop) (w : World) (r : Ty) (e : Ending) (w' : World) : Prop :=
  Below w.heap.size w w' ∧ ∃ K X Z A m c, e = .returned (.agg #[.int .i64 K, .string X, .int .i64 Z, .slice A m c]) ∧ RdV (fun g => Su g ∨ w.heap.size ≤ g ∧ g < w'.heap.size) w' r (.agg #[.int .i64 K, .string X, .int .i64 Z, .slice A m c])
/-- the test for a place -/
def AtP (k z : Int) (Y : ByteArray) (isP : Ty → Bool) : Prop :=
  ∀ t : Ty, (((kd t : Nat) : Int) == k && (nmB t).toList == Y.toList && ((nn t : Nat) : Int) == z) = (match t with | .var _ => isP t | .mt _ => isP t | _ => false)
def RPutIH (k z : Int) (Y : ByteArray) (isP : Ty → Bool) (u : Ty) (n : Nat) : Prop :=
  ∀ (t : Ty) (S Su : Nat → Prop) (v : Value) (Ku : Int) (Xu : ByteArray) (Zu : Int) (Au : Option Addr) (mu cu : Nat) (w : World), t.size ≤ n → RdV S w t v → (∀ g, S g → g < w.heap.size) → RdV Su w u (.agg #[.int .i64 Ku, .string Xu, .int .i64 Zu, .slice Au mu cu]) → (∀ g, Su g → g < w.heap.size) →
    Calls Tryz.prog 57 #[v, .int .i64 k, .string Y, .int .i64 z, .agg #[.int .i64 Ku, .string Xu, .int .i64 Zu, .slice Au mu cu]] w (RPst Su w (raw isP u t))

theorem rawL_take (isP : Ty → Bool) (u : Ty) (l : List Ty) (i : Nat) (x : Ty) (done : List Ty) (h : Hid (rawL isP u (l.take i) = done)) (hx : l[i]? = some x) : rawL isP u (l.take (i + 1)) = done ++ [raw isP u x] := by
  have key : ∀ (a : List Ty) (y : Ty), rawL isP u (a ++ [y]) = rawL isP u a ++ [raw isP u y] := by
    intro a y
    induction a with
    | nil => simp [rawL]
    | cons b r ih => rw [List.cons_append, rawL, ih, rawL]; rfl
  obtain ⟨hi, e⟩ := List.getElem?_eq_some_iff.1 hx
  rw [take_snoc l i hi, key, e, h.out]
theorem raw_place (k z : Int) (Y : ByteArray) (isP : Ty → Bool) (u t : Ty) (hP : AtP k z Y isP) (h : (((kd t : Nat) : Int) == k && (nmB t).toList == Y.toList && ((nn t : Nat) : Int) == z) = true) : raw isP u t = u := by
  rw [hP t] at h
  cases t with
  | var x => rw [raw, if_pos h]
  | mt n => rw [raw, if_pos h]
  | con c l => cases h
  | fn a b => cases h
  | all x t => cases h
theorem raw_kids (k z : Int) (Y : ByteArray) (isP : Ty → Bool) (u t : Ty) (hP : AtP k z Y isP) (h : (((kd t : Nat) : Int) == k && (nmB t).toList == Y.toList && ((nn t : Nat) : Int) == z) = false) :
    kd (raw isP u t) = kd t ∧ nmB (raw isP u t) = nmB t ∧ nn (raw isP u t) = nn t ∧ kids (raw isP u t) = rawL isP u (kids t) := by
  rw [hP t] at h
  cases t with
  | var x => rw [raw, if_neg (by simpa using h), kids, rawL]; exact ⟨rfl, rfl, rfl, rfl⟩
  | mt n => rw [raw, if_neg (by simpa using h), kids, rawL]; exact ⟨rfl, rfl, rfl, rfl⟩
  | con c l => rw [raw, kids]; exact ⟨rfl, rfl, rfl, rfl⟩
  | fn a b => simp only [raw, kids, rawL]; exact ⟨rfl, rfl, rfl, trivial⟩
  | all x t => simp only [raw, kids, rawL]; exact ⟨rfl, rfl, rfl, trivial⟩

/-- what stands at the head of each round over the arguments -/
def HeadPutR (isP : Ty → Bool) (u t : Ty) (Su : Nat → Prop) (m B b11 : Nat) (K : Int) (X : ByteArray) (Z : Int) (w W0 : World) (gg : Nat) (vi : Value) (wr : World) : Prop :=
  ∃ i done v', gg = m - i ∧ vi = .int .i64 (i : Nat) ∧ i ≤ m ∧ Hid (rawL isP u ((kids t).take i) = done) ∧ done.length = i ∧ Built Su B 31 wr done v' ∧
    Blk wr b11 31 #[.int .i64 K, .string X, .int .i64 Z, v'] ∧ B ≤ wr.heap.size ∧ (∀ g, g < B → g ≠ b11 → wr.heap[g]? = W0.heap[g]?) ∧ Below w.heap.size w wr

theorem headR_step {isP : Ty → Bool} {u t o : Ty} {Su : Nat → Prop} {m i n1 cap2 gg2 c' m2 c2 : Nat} {K Z K2 Z2 : Int} {X X2 : ByteArray} {w V1 wr w1 w3 : World} {done : List Ty} {vs : List Value} {A' A2 : Option Addr} (hi : i < m) (HSU : ∀ g, Su g → g < w.heap.size) (HB : w.heap.size + 4 ≤ wr.heap.size)
    (HOWN : wr.ownsRow (w.heap.size + 4) 31 4 (.slice A' done.length c') done.length vs) (HROW : TyRow (fun g => (Su g ∨ w.heap.size + 4 ≤ g ∧ g < wr.heap.size) ∧ some g ≠ (Value.slice A' done.length c').ownBlock) wr done vs) (HDL : done.length = i)
    (HKEEP : ∀ g, g < w.heap.size + 4 → g ≠ w.heap.size + 3 → wr.heap[g]? = V1.heap[g]?) (HBEL : Below w.heap.size w wr) (hnx : Hid (rawL isP u ((kids t).take (i + 1)) = done ++ [o])) (B1 : Below wr.heap.size wr w1)
    (HR2 : RdV (fun g => Su g ∨ wr.drew.heap.size ≤ g ∧ g < w1.heap.size) w1 o (.agg #[.int .i64 K2, .string X2, .int .i64 Z2, .slice A2 m2 c2])) (hn : n1 = done.length + 1)
    (HO3 : w3.ownsRow (w.heap.size + 4) 31 4 (.slice (some ⟨gg2, 0, none⟩) n1 cap2) n1 (vs ++ [.int .i64 K2, .string X2, .int .i64 Z2, .slice A2 m2 c2]))
    (HG3 : (w1.alloc (.cells #[.int .i64 K2, .string X2, .int .i64 Z2, .slice A2 m2 c2] 31)).grownBy w3 (Value.slice A' done.length c').ownBlock)
    (HT3 : (Value.slice A' done.length c').ownBlock = some gg2 ∨ gg2 = (w1.alloc (.cells #[.int .i64 K2, .string X2, .int .i64 Z2, .slice A2 m2 c2] 31)).heap.size)
    (HD1 : Blk w3 (w.heap.size + 3) 31 #[.int .i64 K, .string X, .int .i64 Z, .slice A' done.length c']) :
    HeadPutR isP u t Su m (w.heap.size + 4) (w.heap.size + 3) K X Z w V1 (m - (i + 1)) (.int .i64 ((i : Int) + 1)) (w3.setCell ⟨w.heap.size + 3, 3, none⟩ (.slice (some ⟨gg2, 0, none⟩) n1 cap2)) := by
  subst hn
  have HLT := HOWN.lt
  have hsz3 := HBEL.size
  have hsz2 := B1.size
  have hb := Built.next (T := Su) (w := wr) (w1 := w1) (fun g hg => by have := HSU g hg; omega) HB HOWN HROW B1 HR2 ((Below.refl _ w1).alloc (Nat.le_refl _) _) HO3 HG3 (HT3.elim (fun e => .inl e.symm) (fun e => .inr (by rw [e]; rfl)))
  have hbl : Below w.heap.size w w3 := (((HBEL.trans (B1.mono hsz3)).alloc (by omega) _).grown HG3 (by simp; omega) (fun j hj => by have := HLT j hj; omega))
  refine ⟨i + 1, done ++ [o], _, rfl, rfl, by omega, hnx, by rw [List.length_append, HDL]; rfl, ?_, heap_setCell_same _ _ 3 _ _ _ HD1, ?_, fun g hg hne => ?_, hbl.setCell (p := ⟨w.heap.size + 3, 3, none⟩) (by show w.heap.size ≤ w.heap.size + 3; omega) _⟩
  · have := hb.setCell (p := ⟨w.heap.size + 3, 3, none⟩) (.slice (some ⟨gg2, 0, none⟩) (done.length + 1) cap2) (by show w.heap.size + 3 < _; omega) (fun h => by have := HSU _ h; simp at this; omega)
    exact this
  · have := HG3.size
    simp at this ⊢
    omega
  · rw [Below.heap_setCell _ _ _ _ hne, HG3.block g (by simp; omega) (fun e => by have := HLT g e.symm; omega), Below.heap_alloc _ _ _ (by omega), B1.block g (by omega)]
    exact HKEEP g hg hne

set_option maxRecDepth 2000 in
set_option maxHeartbeats 3200000 in
theorem ref2_put_step (k z : Int) (Y : ByteArray) (isP : Ty → Bool) (hP : AtP k z Y isP) (u : Ty) (n : Nat) (h6 : n ≤ 1000000) (IH : RPutIH k z Y isP u n) : RPutIH k z Y isP u (n + 1) := by
  intro t S Su v Ku Xu Zu Au mu cu w hn hv hS hu hSu
  obtain ⟨K, X, Z, A, m, c, rfl, hK, hX, hZ, hm, ha⟩ := hv.parts
  obtain ⟨q, hq⟩ : ∃ q, ((K == k) && (X.toList == Y.toList) && (Z == z)) = q := ⟨_, rfl⟩
  have hq' : (((kd t : Nat) : Int) == k && (nmB t).toList == Y.toList && ((nn t : Nat) : Int) == z) = q := by rw [← hq, hK, hX, hZ]
  have HM := hidE hm
  have HA := hidE ha
  have HIH := hidE IH
  have HS := hidE hS
  have HN := hidE hn
  have HU := hidE hu
  have HSU := hidE hSu
  have HQ := hidE hq'
  have HK := hidE hK
  have HX := hidE hX
  have HZ := hidE hZ
  have HP := hidE hP
  have HQ0 := hidE hq
  have hm6 : m ≤ 1000000 := by have := kids_len t; omega
  obtain ⟨R, hR⟩ : ∃ R, raw isP u t = R := ⟨_, rfl⟩
  have HRR := hidE hR
  rw [hR]
  clear hR hv hm ha IH hS hn hu hSu hq hq' hK hX hZ hP
  go_enter Tryz.func57, Tryz.ntmps57
  go_upto_region 1 with fail
  obtain ⟨W0, hW⟩ : ∃ W : World, (((w.alloc (.cells #[.int .i64 K, .string X, .int .i64 Z, .slice A m c] 31)).alloc (.cells #[.int .i64 Ku, .string Xu, .int .i64 Zu, .slice Au mu cu] 31)).alloc (.cells #[.int .i64 0, .string ⟨#[]⟩, .int .i64 0, .slice none 0 0] 31)) = W := ⟨_, rfl⟩
  have k5 : Blk W0 w.heap.size 31 #[.int .i64 K, .string X, .int .i64 Z, .slice A m c] := hW ▸ alloc_below _ _ _ _ (alloc_below _ _ _ _ (heap_alloc_new _ _))
  have k9 : Blk W0 (w.heap.size + 1) 31 #[.int .i64 Ku, .string Xu, .int .i64 Zu, .slice Au mu cu] := hW ▸ alloc_below _ _ _ _ (alloc_at _ _ _ (by simp))
  have k10 : Blk W0 (w.heap.size + 2) 31 #[.int .i64 0, .string ⟨#[]⟩, .int .i64 0, .slice none 0 0] := hW ▸ alloc_at _ _ _ (by simp)
  have kb : Below w.heap.size w W0 := hW ▸ ((((Below.refl _ w).alloc (Nat.le_refl _) _).alloc (by simp) _).alloc (by simp; omega) _)
  have hsz : W0.heap.size = w.heap.size + 3 := by rw [← hW]; simp
  have HSZ := hidE hsz
  have K5 := hidE k5
  have K9 := hidE k9
  have K10 := hidE k10
  have KB := hidE kb
  obtain ⟨x0, x1, x2, x3, -, -, -, -, -⟩ := blk_facts4 k5
  rw [hW]
  clear k5 k9 k10 kb hW hsz
  go_cut [28] from 13 (fun s28 wx => s28 = .bool q ∧ wx = W0)
  case first =>
    have hq0 := HQ0.out
    cases h1 : (K == k) <;> cases h2 : (X.toList == Y.toList) <;> cases h3 : (Z == z)
    all_goals
      rw [h1, h2, h3] at hq0
      go_wp2_with fail
      go_meet
      case rel => exact ⟨by rw [← hq0]; rfl, rfl⟩
  case rest =>
    rename World => V0
    obtain ⟨rfl, rfl⟩ := hcut
    obtain ⟨y0, y1, y2, y3, -, -, -, -, yl⟩ := blk_facts4 K9.out
    obtain ⟨z0, z1, z2, z3, z4, z5, z6, z7, zl⟩ := blk_facts4 K10.out
    cases q with
    | true =>
      have hr : R = u := by rw [← HRR.out]; exact raw_place k z Y isP u t HP.out HQ.out
      have HR := hidE hr
      go_wp2_with fail
      try simp only [Exit.inBlock, Exit.then]
      refine bodyPost_ret (results_cell_row rfl _ _ (w.heap.size + 2) 31 _ (0, 0) _ rfl (blk_set4 _ _ _ _ K10.out) Tryz.underlying31 rfl (by kernel_rfl)) rfl ?_
      refine ⟨below_set4 KB.out _ _ _ _ (by omega), Ku, Xu, Zu, Au, mu, cu, rfl, ?_⟩
      rw [HR.out]
      exact HU.out.keep (fun g hg => .inl hg) (fun g hg => by
        have := HSU.out g hg
        rw [heap_set4 _ _ _ _ _ _ _ (by omega)]
        exact KB.out.block g this)
    | false =>
      obtain ⟨q2, q3, q4, q5⟩ := raw_kids k z Y isP u t HP.out HQ.out
      have HQ2 : Hid (K = (kd (raw isP u t) : Nat)) := hidE (by rw [q2]; exact HK.out)
      have HQ3 : Hid (X = nmB (raw isP u t)) := hidE (by rw [q3]; exact HX.out)
      have HQ4 : Hid (Z = (nn (raw isP u t) : Nat)) := hidE (by rw [q4]; exact HZ.out)
      have HQ5 := hidE q5
      rw [HRR.out] at HQ2 HQ3 HQ4 HQ5
      clear q2 q3 q4 q5 y0 y1 y2 y3 z0 z1 z2 z3 z4 z5 z6 z7 zl yl HK HX HZ HQ HQ0 HP
      go_wp2_with fail
      obtain ⟨V1, hV1⟩ : ∃ W, V0.alloc (.cells #[.int .i64 K, .string X, .int .i64 Z, .slice none 0 0] 31) = W := ⟨_, rfl⟩
      have v5 : Blk V1 w.heap.size 31 #[.int .i64 K, .string X, .int .i64 Z, .slice A m c] := hV1 ▸ alloc_below _ _ _ _ K5.out
      have v9 : Blk V1 (w.heap.size + 1) 31 #[.int .i64 Ku, .string Xu, .int .i64 Zu, .slice Au mu cu] := hV1 ▸ alloc_below _ _ _ _ K9.out
      have v10 : Blk V1 (w.heap.size + 2) 31 #[.int .i64 0, .string ⟨#[]⟩, .int .i64 0, .slice none 0 0] := hV1 ▸ alloc_below _ _ _ _ K10.out
      have v11 : Blk V1 (w.heap.size + 3) 31 #[.int .i64 K, .string X, .int .i64 Z, .slice none 0 0] := hV1 ▸ alloc_at _ _ _ HSZ.out.symm
      have vb : Below w.heap.size w V1 := hV1 ▸ KB.out.alloc KB.out.size _
      have vs : w.heap.size + 4 = V1.heap.size := by rw [← hV1]; simp; have := HSZ.out; omega
      obtain ⟨i0, hi0, hz0, hz1, hz2⟩ := info_parts ref2_info
      replace K5 := hidE v5
      replace K9 := hidE v9
      replace K10 := hidE v10
      have K11 := hidE v11
      have VB := hidE vb
      have VS := hidE vs
      have hA3 : V1.cell? ⟨w.heap.size, 3, none⟩ = some (.slice A m c) := v5.cell 3
      rw [hV1]
      clear hV1 v5 v9 v10 v11 vb vs
      rw [HSZ.out]
      go_loopg [12] m (fun gg vi wr => HeadPutR isP u t Su m (w.heap.size + 4) (w.heap.size + 3) K X Z w V1 gg vi wr)
      case atStart => exact ⟨0, [], .slice none 0 0, rfl, rfl, Nat.zero_le _, hidE (by simp [rawL]), rfl, Built.nil _ _ _ _, K11.out, Nat.le_of_eq VS.out, fun _ _ _ => rfl, VB.out⟩
      case round =>
        obtain ⟨i, done, v', rfl, rfl, hi, hnb, hdl, hbuilt, hb11, hB, hkeep, hbel⟩ := hrel
        obtain ⟨vs, hown, hrow⟩ := hbuilt
        obtain ⟨A', c', rfl⟩ := own_shape hown
        have c3 : wr.cell? ⟨w.heap.size, 3, none⟩ = some (.slice A m c) := (World.cell?_of_block (w := V1) (a := ⟨w.heap.size, 3, none⟩) (hkeep w.heap.size (by omega) (by omega))).trans hA3
        have hb9 : Blk wr (w.heap.size + 1) 31 #[.int .i64 Ku, .string Xu, .int .i64 Zu, .slice Au mu cu] := (hkeep _ (by omega) (by omega)).trans K9.out
        have hb10 : Blk wr (w.heap.size + 2) 31 #[.int .i64 0, .string ⟨#[]⟩, .int .i64 0, .slice none 0 0] := (hkeep _ (by omega) (by omega)).trans K10.out
        have HOWN := hidE hown
        have HROW := hidE hrow
        have HB11 := hidE hb11
        have HB9 := hidE hb9
        have HB10 := hidE hb10
        have HKEEP := hidE hkeep
        have HBEL := hidE hbel
        have HB := hidE hB
        have HDL := hidE hdl
        have HLT := hidE hown.lt
        by_cases hlt : i < m
        · obtain ⟨g, x, K1, X1, Z1, A1, n1, c1, rfl, hg, e0, e1, e2, e3, hu, hrd, hsz⟩ := kid_cells (w' := wr) HA.out HM.out hlt (fun g hg => hbel.block g (HS.out g hg))
          have hgw : g < wr.heap.size := by have := hbel.size; have := HS.out g hg; omega
          have hnx := hidE (rawL_take isP u (kids t) i x done hnb hu)
          have F1 := hidE (fun W (h : Below wr.heap.size wr W) => HIH.out x S Su _ Ku Xu Zu Au mu cu W (by have := HN.out; omega) (hrd.keep (S' := S) (fun _ h => h) (fun g hg => h.block g (by have := HS.out g hg; have := HBEL.out.size; omega))) (fun g hg => by have := HS.out g hg; have := HBEL.out.size; have := h.size; omega)
            (HU.out.keep (S' := Su) (fun _ h => h) (fun g hg => ((h.block g (by have := HSU.out g hg; have := HBEL.out.size; omega)).trans (HBEL.out.block g (HSU.out g hg))))) (fun g hg => by have := HSU.out g hg; have := HBEL.out.size; have := h.size; omega))
          obtain ⟨o, ho⟩ : ∃ o, raw isP u x = o := ⟨_, rfl⟩
          rw [ho] at F1 hnx
          obtain ⟨y0, y1, y2, y3, -, -, -, -, -⟩ := blk_facts4 hb9
          obtain ⟨z0, z1, z2, z3, -, -, -, -, -⟩ := blk_facts4 hb11
          have B0 : Hid (Below wr.heap.size wr wr.drew) := hidE (Below.refl _ wr).drew
          have hdl6 : done.length ≤ 1000000 := by omega
          clear hnb hrd hu ho hsz hown hrow hbel hb11 hb9 hb10 hkeep hdl
          go_upto_region 7 with fail
          go_region_law (first
            | (refine step_append_lies _ (by rfl) _ _ _ (by rfl) (w.heap.size + 4) 31 i0 _ 4 56 Tryz.underlying29 hi0 hz0 hz1 hz2 rfl (by decide) _ done.length vs (by rfl) (hown2.out.alloc _) _ 1 1 [.int .i64 K2, .string X2, .int .i64 Z2, .slice A2 m2 c2] (by rfl) (by rfl) (World.news_of_block (cs := #[.int .i64 K2, .string X2, .int .i64 Z2, .slice A2 m2 c2]) (t := 31) (fr := (0, 0)) (alloc_at _ _ _ rfl)) (by intro u hu; simp at hu; rcases hu with rfl | rfl | rfl | rfl <;> rfl) (by omega) (by unfold maxLen; omega) (by omega) (by have := B1.out.size; have := HB.out; first | omega | (simp; done) | (simp; omega)) _ rfl ?_; intro gg2 cap2 w3 hown3 hgrow hat3 hlt3; have HO3 := hidE hown3; have HG3 := hidE hgrow; have HT3 := hidE hat3; clear hown3 hgrow hat3; have hc1 := ((HB11.out.below B1.out (by have := HB.out; omega)).alloc (.cells #[.int .i64 K2, .string X2, .int .i64 Z2, .slice A2 m2 c2] 31)).grown HG3.out (fun e => by have := HLT.out _ e.symm; omega); obtain ⟨p0, p1, p2, p3, p4, p5, p6, p7, hly⟩ := blk_facts4 hc1; have HD1 := hidE hc1; clear hc1)
            | (go_simp; (with_reducible refine (F1.out _ B0.out).mono ?_); rintro e w1 ⟨b1, K2, X2, Z2, A2, m2, c2, rfl, hr2⟩; have HR2 := hidE hr2; have B1 := hidE (below_trP B0.out b1); have z3' : w1.cell? ⟨w.heap.size + 3, 3, none⟩ = some (.slice A' done.length c') := (B1.out.cell (p := ⟨w.heap.size + 3, 3, none⟩) (by have := HB.out; show w.heap.size + 3 < _; omega)).trans (HB11.out.cell 3); have hl1 : w.heap.size + 3 < w1.heap.size := (by have := HB.out; have := B1.out.size; omega); have hown2 := hidE (own_below HOWN.out B1.out); clear b1 hr2))
          all_goals
            go_wp2_with fail
            go_roundg (m - (i + 1))
            case measure => omega
            case rel => exact headR_step hlt HSU.out HB.out HOWN.out HROW.out HDL.out HKEEP.out HBEL.out hnx B1.out HR2.out rfl HO3.out HG3.out HT3.out HD1.out
        · have himn : i = m := by omega
          have hq5 : kids R = done := by
            rw [HQ5.out, ← hnb.out, List.take_of_length_le (by rw [HM.out]; omega)]
          have hargs := Built.args (t := R) (show Built Su (w.heap.size + 4) 31 wr (kids R) (.slice A' done.length c') from by rw [hq5]; exact ⟨vs, HOWN.out, HROW.out⟩)
          have HARG := hidE hargs.2
          have HLEN := hidE hargs.1
          obtain ⟨y0, y1, y2, y3, y4, y5, y6, y7, y8⟩ := blk_facts4 hb11
          obtain ⟨z0, z1, z2, z3, z4, z5, z6, z7, z8⟩ := blk_facts4 hb10
          clear hnb hown hrow hbel hb11 hb9 hb10 hkeep hdl hargs hq5
          go_wp2_with fail
          try simp only [Exit.inBlock, Exit.then]
          refine bodyPost_ret (results_cell_row rfl _ _ (w.heap.size + 2) 31 _ (0, 0) _ rfl (blk_set4 _ _ _ _ HB10.out) Tryz.underlying31 rfl (by kernel_rfl)) rfl ?_
          refine ⟨below_set4 HBEL.out _ _ _ _ (by omega), K, X, Z, A', done.length, c', rfl, A', c', by rw [HQ2.out, HQ3.out, HQ4.out, HLEN.out], ?_⟩
          refine Args.keep (fun g hg => ?_) (fun g hg => heap_set4 _ _ _ _ _ _ _ ?_) _ _ HARG.out
          · rcases hg with hg | hg
            · exact .inl hg
            · right; simp; omega
          · rcases hg with hg | hg
            · have := HSU.out g hg; omega
            · omega

theorem ref2_putN (k z : Int) (Y : ByteArray) (isP : Ty → Bool) (hP : AtP k z Y isP) (u : Ty) (n : Nat) (h6 : n ≤ 1000001) : RPutIH k z Y isP u n := by
  induction n with
  | zero => intro t S Su v Ku Xu Zu Au mu cu w h; have := size_kids t; omega
  | succ n ih => exact ref2_put_step k z Y isP hP u n (by omega) (ih (by omega))

end Go.Proofs.YthgkpmgcikopnaaGreatDoor
