/-
  Package types and what it stands on: contracts of the code's functions, part 3.
-/
import Derived.Test.YthgkpmgcikopnaaGreatDoorBwB
import Derived.Deep.RegionHeld3
/-
  The walk over Print of the document's answer for types: functions.
-/
namespace Go.Proofs.YthgkpmgcikopnaaGreatDoor
open Go.RowKit Lx Tx
set_option maxRecDepth 100000

set_option maxRecDepth 2000 in
set_option maxHeartbeats 1600000 in
theorem ref2_print_fn (n : Nat) (IH : PrintIH n) (a b : Ty) (S : Nat → Prop) (w : World) (A : Option Addr) (cc : Nat) (X0 : ByteArray) (Z0 : Int) (hn : (Ty.fn a b).size ≤ n + 1) (hnm : Nm (.fn a b)) (hlen : (Ty.fn a b).print.length ≤ 10 ^ 12)
    (ha : Args S w (.fn a b) A) (hS : ∀ g, S g → g < w.heap.size) :
    Calls Tryz.prog 16 #[.agg #[.int .i64 4, .string X0, .int .i64 Z0, .slice A 2 cc]] w fun e w' => e = .returned (.string ⟨(Ty.fn a b).print.toArray⟩) ∧ Below w.heap.size w w' := by
  rw [Args] at ha
  obtain ⟨g, rfl, hg, ⟨A1, c1, h1, r1⟩, ⟨A2, c2, h2, r2⟩⟩ := ha
  obtain ⟨K1, X1, Z1, n1, e0, e1, e2, e3, rd1, hK1, -⟩ := cell4_parts h1 r1
  obtain ⟨K2, X2, Z2, n2, f0, f1, f2, f3, rd2, -, -⟩ := cell4_parts h2 r2
  have hgw := hS g hg
  have hp : (Ty.fn a b).print = (if a.isFA then 40 :: (a.print ++ [41]) else a.print) ++ [32, 45, 62, 32] ++ b.print := by rw [Ty.print]
  have la : a.print.length ≤ 10 ^ 12 := by rw [hp] at hlen; split at hlen <;> simp at hlen <;> omega
  have lb : b.print.length ≤ 10 ^ 12 := by rw [hp] at hlen; split at hlen <;> simp at hlen <;> omega
  have sa : (⟨a.print.toArray⟩ : ByteArray).size ≤ 10 ^ 12 := la
  have sb : (⟨b.print.toArray⟩ : ByteArray).size ≤ 10 ^ 12 := lb
  have hna : Nm a := nm_kid hnm 0 (by simp [kids])
  have hnb : Nm b := nm_kid hnm 1 (by simp [kids])
  have hza : a.size ≤ n := by rw [Ty.size] at hn; omega
  have hzb : b.size ≤ n := by rw [Ty.size] at hn; omega
  have CA := hidE (fun w' v hv hs => IH a S v w' hza hna la hv hs)
  have CB := hidE (fun w' v hv hs => IH b S v w' hzb hnb lb hv hs)
  obtain ⟨P, hP⟩ : ∃ P : ByteArray, ⟨a.print.toArray⟩ = P := ⟨_, rfl⟩
  obtain ⟨Q, hQ⟩ : ∃ Q : ByteArray, ⟨b.print.toArray⟩ = Q := ⟨_, rfl⟩
  have HP := hidE hP
  have HQ := hidE hQ
  have HS := hidE hS
  have HR1 := hidE rd1
  have HR2 := hidE rd2
  have HPR := hidE hp
  rw [hP] at sa CA
  rw [hQ] at sb CB
  obtain ⟨R, hR⟩ : ∃ R : ByteArray, ⟨(Ty.fn a b).print.toArray⟩ = R := ⟨_, rfl⟩
  rw [hR]
  have HR := hidE hR
  -- what stays in any world behind the box
  have KEEP : ∀ w', Below (w.heap.size + 1) (w.alloc (.cells #[.int .i64 4, .string X0, .int .i64 Z0, .slice (some ⟨g, 0, none⟩) 2 cc] 31)) w' → w.heap.size < w'.heap.size ∧ (∀ k, k < w.heap.size → w'.heap[k]? = w.heap[k]?) := by
    intro w' hb
    have hs := hb.size
    simp at hs
    exact ⟨by omega, fun k hk => by rw [hb.block k (by omega), Below.heap_alloc _ _ _ hk]⟩
  have SOF : Hid (∀ w', Below (w.heap.size + 1) (w.alloc (.cells #[.int .i64 4, .string X0, .int .i64 Z0, .slice (some ⟨g, 0, none⟩) 2 cc] 31)) w' → w'.cell? ⟨w.heap.size, 3, none⟩ = some (.slice (some ⟨g, 0, none⟩) 2 cc) ∧ w'.cell? ⟨g, 0, none⟩ = some (.int .i64 K1) ∧ w'.cell? ⟨g, 1, none⟩ = some (.string X1) ∧ w'.cell? ⟨g, 2, none⟩ = some (.int .i64 Z1) ∧ w'.cell? ⟨g, 3, none⟩ = some (.slice A1 n1 c1) ∧ w'.cell? ⟨g, 4, none⟩ = some (.int .i64 K2) ∧ w'.cell? ⟨g, 5, none⟩ = some (.string X2) ∧ w'.cell? ⟨g, 6, none⟩ = some (.int .i64 Z2) ∧ w'.cell? ⟨g, 7, none⟩ = some (.slice A2 n2 c2)) := by
    refine hidE fun w' hb => ?_
    obtain ⟨hs, hk⟩ := KEEP w' hb
    have hc : ∀ i, w'.cell? ⟨g, i, none⟩ = w.cell? ⟨g, i, none⟩ := fun i => World.cell?_of_block (w := w) (a := ⟨g, i, none⟩) (hk g hgw)
    exact ⟨(hb.cell (p := ⟨w.heap.size, 3, none⟩) (by simp)).trans (cell_of_row _ _ _ _ _ _ (heap_alloc_new _ _)), (hc _).trans e0, (hc _).trans e1, (hc _).trans e2, (hc _).trans e3, (hc _).trans f0, (hc _).trans f1, (hc _).trans f2, (hc _).trans f3⟩
  have HRA : Hid (∀ w', Below (w.heap.size + 1) (w.alloc (.cells #[.int .i64 4, .string X0, .int .i64 Z0, .slice (some ⟨g, 0, none⟩) 2 cc] 31)) w' → RdV S w' a (.agg #[.int .i64 K1, .string X1, .int .i64 Z1, .slice A1 n1 c1])) := hidE fun w' hb => HR1.out.keep (fun _ h => h) (fun g hg => (KEEP w' hb).2 g (HS.out g hg))
  have HRB : Hid (∀ w', Below (w.heap.size + 1) (w.alloc (.cells #[.int .i64 4, .string X0, .int .i64 Z0, .slice (some ⟨g, 0, none⟩) 2 cc] 31)) w' → RdV S w' b (.agg #[.int .i64 K2, .string X2, .int .i64 Z2, .slice A2 n2 c2])) := hidE fun w' hb => HR2.out.keep (fun _ h => h) (fun g hg => (KEEP w' hb).2 g (HS.out g hg))
  have HSG : Hid (∀ w', Below (w.heap.size + 1) (w.alloc (.cells #[.int .i64 4, .string X0, .int .i64 Z0, .slice (some ⟨g, 0, none⟩) 2 cc] 31)) w' → ∀ g, S g → g < w'.heap.size) := hidE fun w' hb g hg => Nat.lt_trans (HS.out g hg) (KEEP w' hb).1
  have B0 : Hid (Below (w.heap.size + 1) (w.alloc (.cells #[.int .i64 4, .string X0, .int .i64 Z0, .slice (some ⟨g, 0, none⟩) 2 cc] 31)) (w.alloc (.cells #[.int .i64 4, .string X0, .int .i64 Z0, .slice (some ⟨g, 0, none⟩) 2 cc] 31)).drew) := hidE (Below.refl _ _).drew
  have hend : Hid (∀ w', Below (w.heap.size + 1) (w.alloc (.cells #[.int .i64 4, .string X0, .int .i64 Z0, .slice (some ⟨g, 0, none⟩) 2 cc] 31)) w' → Below w.heap.size w w') := hidE fun w' hb => ((Below.refl _ w).alloc (Nat.le_refl _) _).trans (hb.mono (by omega))
  obtain ⟨x3, y0, y1, y2, y3, z0, z1, z2, z3⟩ := SOF.out _ (Below.refl _ _)
  cases hfa : a.isFA with
  | true =>
    have HX : Hid (⟨#[40]⟩ ++ P ++ ⟨#[41, 32, 45, 62, 32]⟩ ++ Q = R) := hidE (by rw [← HP.out, ← HQ.out, cat_arrow2, ← HR.out, HPR.out, hfa]; simp)
    have hw := fa_ways a hfa
    rw [← hK1] at hw
    clear h1 h2 r1 r2 rd1 rd2 hK1 hS hg hp hlen la lb hna hnb hza hzb hP hQ hR e0 e1 e2 e3 f0 f1 f2 f3 KEEP hfa hn hnm IH
    have o1 : ¬ 9223372036854775807 < 1 + P.size := by omega
    have o2 : ¬ 9223372036854775807 < 1 + P.size + 5 := by omega
    have o3 : ¬ 9223372036854775807 < 1 + P.size + 5 + Q.size := by omega
    rcases hw with d4 | ⟨d4, d5⟩
    · go_enter Tryz.func16, Tryz.ntmps16
      go_wp2_with fail
      go_region_held3 (fun w' => w'.cell? ⟨w.heap.size, 3, none⟩ = some (.slice (some ⟨g, 0, none⟩) 2 cc) ∧ w'.cell? ⟨g, 0, none⟩ = some (.int .i64 K1) ∧ w'.cell? ⟨g, 1, none⟩ = some (.string X1) ∧ w'.cell? ⟨g, 2, none⟩ = some (.int .i64 Z1) ∧ w'.cell? ⟨g, 3, none⟩ = some (.slice A1 n1 c1) ∧ w'.cell? ⟨g, 4, none⟩ = some (.int .i64 K2) ∧ w'.cell? ⟨g, 5, none⟩ = some (.string X2) ∧ w'.cell? ⟨g, 6, none⟩ = some (.int .i64 Z2) ∧ w'.cell? ⟨g, 7, none⟩ = some (.slice A2 n2 c2)) (first | exact SOF.out _ B2.out | exact SOF.out _ B1.out | exact SOF.out _ B0.out) (first | ((with_reducible refine (CA.out _ _ (HRA.out _ (by first | exact B1.out | exact B0.out)) (HSG.out _ (by first | exact B1.out | exact B0.out))).mono ?_); rintro e w1 ⟨rfl, b1⟩; first | (have B2 := hidE (bnext B1.out b1 (by simp))) | (have B1 := hidE (bnext B0.out b1 (by simp))); clear b1) | ((with_reducible refine (CB.out _ _ (HRB.out _ (by first | exact B1.out | exact B0.out)) (HSG.out _ (by first | exact B1.out | exact B0.out))).mono ?_); rintro e w1 ⟨rfl, b1⟩; first | (have B2 := hidE (bnext B1.out b1 (by simp))) | (have B1 := hidE (bnext B0.out b1 (by simp))); clear b1))
      all_goals
        go_wp2_with fail
        go_ret
        exact ⟨ret_string HX.out, hend.out _ B2.out⟩
    · go_enter Tryz.func16, Tryz.ntmps16
      go_wp2_with fail
      go_region_held3 (fun w' => w'.cell? ⟨w.heap.size, 3, none⟩ = some (.slice (some ⟨g, 0, none⟩) 2 cc) ∧ w'.cell? ⟨g, 0, none⟩ = some (.int .i64 K1) ∧ w'.cell? ⟨g, 1, none⟩ = some (.string X1) ∧ w'.cell? ⟨g, 2, none⟩ = some (.int .i64 Z1) ∧ w'.cell? ⟨g, 3, none⟩ = some (.slice A1 n1 c1) ∧ w'.cell? ⟨g, 4, none⟩ = some (.int .i64 K2) ∧ w'.cell? ⟨g, 5, none⟩ = some (.string X2) ∧ w'.cell? ⟨g, 6, none⟩ = some (.int .i64 Z2) ∧ w'.cell? ⟨g, 7, none⟩ = some (.slice A2 n2 c2)) (first | exact SOF.out _ B2.out | exact SOF.out _ B1.out | exact SOF.out _ B0.out) (first | ((with_reducible refine (CA.out _ _ (HRA.out _ (by first | exact B1.out | exact B0.out)) (HSG.out _ (by first | exact B1.out | exact B0.out))).mono ?_); rintro e w1 ⟨rfl, b1⟩; first | (have B2 := hidE (bnext B1.out b1 (by simp))) | (have B1 := hidE (bnext B0.out b1 (by simp))); clear b1) | ((with_reducible refine (CB.out _ _ (HRB.out _ (by first | exact B1.out | exact B0.out)) (HSG.out _ (by first | exact B1.out | exact B0.out))).mono ?_); rintro e w1 ⟨rfl, b1⟩; first | (have B2 := hidE (bnext B1.out b1 (by simp))) | (have B1 := hidE (bnext B0.out b1 (by simp))); clear b1))
      all_goals
        go_wp2_with fail
        go_ret
        exact ⟨ret_string HX.out, hend.out _ B2.out⟩
  | false =>
    have HX : Hid (P ++ ⟨#[32, 45, 62, 32]⟩ ++ Q = R) := hidE (by rw [← HP.out, ← HQ.out, cat_arrow, ← HR.out, HPR.out, hfa]; simp)
    obtain ⟨d4, d5⟩ := fa_not a hfa
    rw [← hK1] at d4 d5
    clear h1 h2 r1 r2 rd1 rd2 hK1 hS hg hp hlen la lb hna hnb hza hzb hP hQ hR e0 e1 e2 e3 f0 f1 f2 f3 KEEP hfa hn hnm IH
    have o1 : ¬ 9223372036854775807 < P.size + 4 := by omega
    have o2 : ¬ 9223372036854775807 < P.size + 4 + Q.size := by omega
    go_enter Tryz.func16, Tryz.ntmps16
    go_wp2_with fail
    go_region_held3 (fun w' => w'.cell? ⟨w.heap.size, 3, none⟩ = some (.slice (some ⟨g, 0, none⟩) 2 cc) ∧ w'.cell? ⟨g, 0, none⟩ = some (.int .i64 K1) ∧ w'.cell? ⟨g, 1, none⟩ = some (.string X1) ∧ w'.cell? ⟨g, 2, none⟩ = some (.int .i64 Z1) ∧ w'.cell? ⟨g, 3, none⟩ = some (.slice A1 n1 c1) ∧ w'.cell? ⟨g, 4, none⟩ = some (.int .i64 K2) ∧ w'.cell? ⟨g, 5, none⟩ = some (.string X2) ∧ w'.cell? ⟨g, 6, none⟩ = some (.int .i64 Z2) ∧ w'.cell? ⟨g, 7, none⟩ = some (.slice A2 n2 c2)) (first | exact SOF.out _ B2.out | exact SOF.out _ B1.out | exact SOF.out _ B0.out) (first | ((with_reducible refine (CA.out _ _ (HRA.out _ (by first | exact B1.out | exact B0.out)) (HSG.out _ (by first | exact B1.out | exact B0.out))).mono ?_); rintro e w1 ⟨rfl, b1⟩; first | (have B2 := hidE (bnext B1.out b1 (by simp))) | (have B1 := hidE (bnext B0.out b1 (by simp))); clear b1) | ((with_reducible refine (CB.out _ _ (HRB.out _ (by first | exact B1.out | exact B0.out)) (HSG.out _ (by first | exact B1.out | exact B0.out))).mono ?_); rintro e w1 ⟨rfl, b1⟩; first | (have B2 := hidE (bnext B1.out b1 (by simp))) | (have B1 := hidE (bnext B0.out b1 (by simp))); clear b1))
    all_goals
      go_wp2_with fail
      go_ret
      exact ⟨ret_string HX.out, hend.out _ B2.out⟩

end Go.Proofs.YthgkpmgcikopnaaGreatDoor

/-
  The walk over Print of the document's answer for types: for alls; and Print whole.
-/
namespace Go.Proofs.YthgkpmgcikopnaaGreatDoor
open Go.RowKit Lx Tx
set_option maxRecDepth 100000

set_option maxRecDepth 2000 in
set_option maxHeartbeats 1600000 in
theorem ref2_print_all (n : Nat) (IH : PrintIH n) (x : List UInt8) (t : Ty) (S : Nat → Prop) (w : World) (A : Option Addr) (cc : Nat) (Z0 : Int) (hn : (Ty.all x t).size ≤ n + 1) (hnm : Nm (.all x t)) (hlen : (Ty.all x t).print.length ≤ 10 ^ 12)
    (ha : Args S w (.all x t) A) (hS : ∀ g, S g → g < w.heap.size) :
    Calls Tryz.prog 16 #[.agg #[.int .i64 5, .string ⟨x.toArray⟩, .int .i64 Z0, .slice A 1 cc]] w fun e w' => e = .returned (.string ⟨(Ty.all x t).print.toArray⟩) ∧ Below w.heap.size w w' := by
  rw [Args] at ha
  obtain ⟨g, rfl, hg, A1, c1, h1, r1⟩ := ha
  obtain ⟨K1, X1, Z1, n1, e0, e1, e2, e3, rd1, hK1, -⟩ := cell4_parts h1 r1
  have hgw := hS g hg
  have hp : (Ty.all x t).print = wForall ++ 32 :: x ++ printA t := by rw [Ty.print]
  rw [hp] at hlen ⊢
  obtain ⟨R, hR⟩ : ∃ R : ByteArray, ⟨(wForall ++ 32 :: x ++ printA t).toArray⟩ = R := ⟨_, rfl⟩
  have hRs : R.size ≤ 10 ^ 12 := by rw [← hR, mk_size]; exact hlen
  have hxs : (⟨x.toArray⟩ : ByteArray).size ≤ 10 ^ 12 := by rw [mk_size]; simp at hlen; omega
  rw [hR]
  have hx0 : ((⟨#[102, 111, 114, 97, 108, 108, 32]⟩ : ByteArray) ++ ⟨x.toArray⟩).data.toList ++ printA t = R.data.toList := by
    rw [← hR]; simp [wForall]
  obtain ⟨X0, hX0⟩ : ∃ X0 : ByteArray, ⟨x.toArray⟩ = X0 := ⟨_, rfl⟩
  rw [hX0] at hx0 hxs ⊢
  have hnt : Nm t := nm_kid hnm 0 (by simp [kids])
  have htn : t.size ≤ n := by rw [Ty.size] at hn; omega
  have HIH := hidE IH
  have HS := hidE hS
  have HX0 := hidE hx0
  have HRD := hidE rd1
  have HNT := hidE hnt
  have HK1 := hidE hK1
  clear hp hlen hR hX0 hx0 IH hS h1 r1 rd1 hg hn hnm hnt hK1
  go_enter Tryz.func16, Tryz.ntmps16
  go_wp2_with fail
  go_loopg [6] t.size (fun gg vs wr => ∃ (u : Ty) (K : Int) (X : ByteArray) (Z : Int) (A' : Option Addr) (m c : Nat) (Y : ByteArray), gg = u.size ∧ vs = .string Y ∧ Blk wr (w.heap.size + 1) 31 #[.int .i64 K, .string X, .int .i64 Z, .slice A' m c] ∧
    RdV S wr u (.agg #[.int .i64 K, .string X, .int .i64 Z, .slice A' m c]) ∧ Below w.heap.size w wr ∧ Hid (Y.data.toList ++ printA u = R.data.toList) ∧ Nm u ∧ u.size ≤ n)
  case atStart =>
    refine ⟨t, K1, X1, Z1, A1, n1, c1, _, rfl, rfl, heap_alloc2_new _ _ _, ?_, ((Below.refl _ w).alloc (Nat.le_refl _) _).alloc (by simp) _, hidE HX0.out, HNT.out, htn⟩
    exact HRD.out.keep (fun _ h => h) (fun g hg => by rw [Below.heap_alloc _ _ _ (by simp; have := HS.out g hg; omega), Below.heap_alloc _ _ _ (HS.out g hg)])
  case round =>
    clear e0 e1 e2 e3
    obtain ⟨u, K, X, Z, A', m, c, Y, rfl, rfl, hb, hrd, hbel, hY, hnu, hun⟩ := hrel
    obtain ⟨p0, p1, p2, p3, s0, s1, s2, s3, hlx⟩ := blk_facts4 hb
    have HB := hidE hb
    have HBEL := hidE hbel
    have hsz := congrArg List.length hY.out
    rw [List.length_append, ← Lib.size_eq, ← Lib.size_eq] at hsz
    by_cases hu : ∃ y u', u = .all y u'
    · obtain ⟨y, u', rfl⟩ := hu
      obtain ⟨rfl, hX, rfl, g', rfl, hg', K2, X2, Z2, A2, n2, c2, f0, f1, f2, f3, hrd2⟩ := all_open hrd
      have hgw' : g' < wr.heap.size := by have := HS.out g' hg'; have := hbel.size; omega
      have hgne : g' ≠ w.heap.size + 1 := by have := HS.out g' hg'; omega
      have hst : (Y ++ ⟨#[32]⟩ ++ X).data.toList ++ printA u' = R.data.toList := by rw [← hY.out, printA_all, cat_name _ y Y X rfl hX]; simp
      have hsz2 := congrArg List.length hst
      rw [List.length_append, ← Lib.size_eq, ← Lib.size_eq] at hsz2
      simp at hsz2
      have HST := hidE hst
      have HRD2 := hidE hrd2
      have HNU := hidE (nm_kid hnu 0 (by simp [kids]))
      have hus : u'.size + 1 = (Ty.all y u').size := by rw [Ty.size]
      clear hb hrd hbel hY hnu hsz hst hrd2 hX
      go_wp2_with fail
      go_roundg u'.size
      case measure => omega
      case rel =>
        refine ⟨u', K2, X2, Z2, A2, n2, c2, _, rfl, rfl, blk_set4 _ _ _ _ HB.out, HRD2.out.keep (fun _ h => h) (fun g hg => heap_set4 _ _ _ _ _ _ _ (by have := HS.out g hg; omega)), below_set4 HBEL.out _ _ _ _ (by omega), HST, HNU.out, by omega⟩
    · obtain ⟨d5, hpr⟩ := not_all u hu
      obtain ⟨hK, hm⟩ := rd_kind hrd
      rw [← hK] at d5
      have hps : u.print.length ≤ 10 ^ 12 := by rw [hpr] at hsz; simp at hsz; omega
      have HC := hidE (HIH.out u S _ wr hun hnu hps hrd (fun g hg => by have := HS.out g hg; have := hbel.size; omega))
      have HX : Hid (Y ++ ⟨#[46, 32]⟩ ++ ⟨u.print.toArray⟩ = R) := hidE (by rw [cat_last, ← hpr, hY.out])
      have hps' : (⟨u.print.toArray⟩ : ByteArray).size ≤ 10 ^ 12 := hps
      obtain ⟨P, hP⟩ : ∃ P : ByteArray, ⟨u.print.toArray⟩ = P := ⟨_, rfl⟩
      rw [hP] at HC HX hps'
      clear hP hb hrd hbel hY hnu hpr hu hK hm
      go_wp2_with (go_at_call 16; refine HC.out.mono ?_; rintro e w1 ⟨rfl, b1⟩)
      go_ret
      exact ⟨ret_string HX.out, bnext HBEL.out b1 (Nat.le_refl _)⟩

theorem ref2_printN (n : Nat) (h6 : n ≤ 1000000) : PrintIH n := by
  induction n with
  | zero => intro t S v w h; have := size_kids t; omega
  | succ n ih =>
    have IH := ih (by omega)
    intro t S v w hn hnm hlen hv hS
    obtain ⟨A, c, rfl, ha⟩ := hv
    cases t with
    | var x =>
      rw [Ty.print]
      exact ref2_print_var x A c _ w
    | mt k =>
      cases hnm with
      | mt _ hk =>
        rw [Ty.print]
        exact ref2_print_mt k hk _ A c _ w
    | con x l => exact ref2_print_con n IH (by omega) x l S w A c _ hn hnm hlen rfl ha hS
    | fn a b => exact ref2_print_fn n IH a b S w A c _ _ hn hnm hlen ha hS
    | all x t => exact ref2_print_all n IH x t S w A c _ hn hnm hlen ha hS

theorem ref2_print (t : Ty) (S : Nat → Prop) (v : Value) (w : World) (hs : t.size ≤ 1000000) (hnm : Nm t) (hlen : t.print.length ≤ 10 ^ 12) (hv : RdV S w t v) (hS : ∀ g, S g → g < w.heap.size) :
    Calls Tryz.prog 16 #[v] w fun e w' => e = .returned (.string ⟨t.print.toArray⟩) ∧ Below w.heap.size w w' :=
  ref2_printN 1000000 (Nat.le_refl _) t S v w hs hnm hlen hv hS

end Go.Proofs.YthgkpmgcikopnaaGreatDoor
