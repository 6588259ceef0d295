/-
  Package types and what it stands on: contracts of the code's functions, part 1.
-/
import Derived.Test.YthgkpmgcikopnaaGreatDoorByB
import Derived.Test.YthgkpmgcikopnaaGreatDoorBuK
import Derived.Test.YthgkpmgcikopnaaGreatDoorBuW
/-
  The walk over numbered of the document's answer for types: variables.
-/
namespace Go.Proofs.YthgkpmgcikopnaaGreatDoor
open Go.RowKit Lx Tx
set_option maxRecDepth 100000

set_option maxRecDepth 2000 in
set_option maxHeartbeats 1600000 in
theorem ref2_numb_var (x : List UInt8) (A : Option Addr) (m c : Nat) (vn vbut : Value) (letter : ByteArray) (lc : UInt8) (but xs ys : List (List UInt8)) (k : Nat) (w : World) (hnv : NmV w vn xs ys) (hxy : xs.length = ys.length) (hx5 : xs.length ≤ 1000000) :
    Calls Tryz.prog 52 #[.agg #[.int .i64 1, .string ⟨x.toArray⟩, .int .i64 0, .slice A m c], vn, .string letter, vbut, .int .i64 k] w (NPost (numb lc but xs ys (.var x) k) w) := by
  obtain ⟨F, T, rfl, ⟨⟨A0, c0, rfl, hF⟩, -⟩, ⟨⟨A1, c1, rfl, hT⟩, -⟩⟩ := hnv
  simp only [strV_len, List.length_reverse] at hF hT ⊢
  obtain ⟨n, hn⟩ : ∃ n, xs.length = n := ⟨_, rfl⟩
  have hn2 : ys.length = n := by omega
  rw [hn] at hx5 hF hxy ⊢
  rw [hn2] at hT ⊢
  obtain ⟨X, hX⟩ : ∃ X : ByteArray, ⟨x.toArray⟩ = X := ⟨_, rfl⟩
  rw [hX]
  have HX := hidE hX
  have HF := hidE hF
  have HT := hidE hT
  have HN := hidE hn
  have HN2 := hidE hn2
  obtain ⟨O, hO⟩ : ∃ O, numb lc but xs ys (.var x) k = O := ⟨_, rfl⟩
  have HO := hidE hO
  rw [hO]
  clear hX hF hT hn hn2 hO hxy
  go_enter Tryz.func52, Tryz.ntmps52
  go_wp2_with fail
  obtain ⟨W, hW⟩ : ∃ W : World, ((((w.alloc (.cells #[.int .i64 1, .string X, .int .i64 0, .slice A m c] 31)).alloc (.cells #[.slice A0 n c0, .slice A1 n c1] 91)).alloc (.cells #[.int .i64 0, .string ⟨#[]⟩, .int .i64 0, .slice none 0 0] 31)).alloc (.cells #[.int .i64 1, .string X, .int .i64 0, .slice none 0 0] 31)) = W := ⟨_, rfl⟩
  have hsz : W.heap.size = w.heap.size + 4 := by rw [← hW]; simp
  have k5 : Blk W w.heap.size 31 #[.int .i64 1, .string X, .int .i64 0, .slice A m c] := hW ▸ alloc_below _ _ _ _ (alloc_below _ _ _ _ (alloc_below _ _ _ _ (heap_alloc_new _ _)))
  have k6 : Blk W (w.heap.size + 1) 91 #[.slice A0 n c0, .slice A1 n c1] := hW ▸ alloc_below _ _ _ _ (alloc_below _ _ _ _ (alloc_at _ _ _ (by simp)))
  have k10 : Blk W (w.heap.size + 2) 31 #[.int .i64 0, .string ⟨#[]⟩, .int .i64 0, .slice none 0 0] := hW ▸ alloc_below _ _ _ _ (alloc_at _ _ _ (by simp))
  have k12 : Blk W (w.heap.size + 3) 31 #[.int .i64 1, .string X, .int .i64 0, .slice none 0 0] := hW ▸ alloc_at _ _ _ (by simp)
  have kb : Below w.heap.size w W := hW ▸ ((((Below.refl _ w).alloc (Nat.le_refl _) _).alloc (by simp) _).alloc (by simp; omega) _).alloc (by simp; omega) _
  rw [hW]
  have K10 := hidE k10
  have K12 := hidE k12
  have KB := hidE kb
  obtain ⟨-, x1, -, -, -, -, -, -, -⟩ := blk_facts4 k5
  have f0 : W.cell? ⟨w.heap.size + 1, 0, none⟩ = some (.slice A0 n c0) := k6.cell 0
  have f1 : W.cell? ⟨w.heap.size + 1, 1, none⟩ = some (.slice A1 n c1) := k6.cell 1
  obtain ⟨z0, z1, z2, z3, s0, s1, s2, s3, hzl⟩ := blk_facts4 k10
  obtain ⟨o0, o1, o2, o3, q0, q1, q2, q3, hol⟩ := blk_facts4 k12
  clear k5 k6 k10 k12 kb hW
  go_loopg [13] n (fun gg vi wr => ∃ r nd : Nat, gg = r ∧ vi = .int .i64 ((r : Int) - 1) ∧ r ≤ n ∧ wr = W.drewN nd ∧ Hid (x ∉ xs.take (n - r)))
  case atStart => exact ⟨n, 0, rfl, rfl, by omega, rfl, hidE (by simp)⟩
  case round =>
    obtain ⟨r, nd, hgg, rfl, hr, rfl, hni⟩ := hrel
    rcases Nat.eq_zero_or_pos r with rfl | hpos
    · have HRES : Hid (O = (.var x, k)) := hidE (by
        rw [← HO.out, numb, (idx_none x xs).2 (by have := hni.out; rwa [List.take_of_length_le (by rw [HN.out]; omega)] at this)])
      go_wp2_with fail
      try simp only [Exit.inBlock, Exit.then]
      refine bodyPost_ret (results_ct rfl _ _ (w.heap.size + 2) 31 _ (0, 0) _ rfl (blk_set4 _ _ _ _ (K10.out.drewN nd)) Tryz.underlying31 rfl (by kernel_rfl)) rfl ?_
      refine ⟨below_set4 (below_drewN' KB.out nd) _ _ _ _ (by omega), 1, X, 0, none, 0, 0, by rw [HRES.out]; rfl, ?_⟩
      rw [HRES.out]
      exact ⟨none, 0, by rw [← HX.out]; rfl, by rw [Args]; trivial⟩
    · obtain ⟨j, rfl⟩ : ∃ j, r = j + 1 := ⟨r - 1, by omega⟩
      rw [show ((j + 1 : Nat) : Int) - 1 = (j : Int) by omega]
      obtain ⟨g0, rfl, hg0, hfc⟩ := HF.out (by omega)
      obtain ⟨g1, rfl, hg1, htc⟩ := HT.out (by omega)
      have hjx : j < xs.reverse.length := by rw [List.length_reverse, HN.out]; omega
      have hjy : j < ys.reverse.length := by rw [List.length_reverse, HN2.out]; omega
      have e0 := hfc j _ (strV_at xs.reverse j hjx)
      have e1 := htc j _ (strV_at ys.reverse j hjy)
      have hkb : ∀ g, g < w.heap.size → ∀ j, W.cell? ⟨g, j, none⟩ = w.cell? ⟨g, j, none⟩ := fun g hg j => KB.out.cell (p := ⟨g, j, none⟩) hg
      rw [← hkb g0 hg0] at e0
      rw [← hkb g1 hg1] at e1
      have hgw0 : g0 < W.heap.size := by omega
      have hgw1 : g1 < W.heap.size := by omega
      have hxr : xs.reverse[j] = xs[n - 1 - j]'(by rw [HN.out]; omega) := by rw [List.getElem_reverse]; congr 1; rw [HN.out]
      obtain ⟨y, hy⟩ : ∃ y, xs.reverse[j] = y := ⟨_, rfl⟩
      obtain ⟨Y, hY⟩ : ∃ Y : ByteArray, ⟨y.toArray⟩ = Y := ⟨_, rfl⟩
      obtain ⟨V, hV⟩ : ∃ V : ByteArray, ⟨(ys.reverse[j]).toArray⟩ = V := ⟨_, rfl⟩
      rw [hy, hY] at e0
      rw [hV] at e1
      have hiI : (0 : Int) ≤ (j : Int) := by omega
      have hlI : (j : Int) < (n : Int) := by omega
      have hj0 : ¬ ((j : Int) < 0) := by omega
      by_cases hyx : y = x
      · have dy : (Y.toList == X.toList) = true := strT _ _ (by rw [← hY, ← HX.out, hyx])
        have HRES : Hid (O = (.var (ys.reverse[j]), k)) := hidE (by
          rw [← HO.out, numb, idx_at x xs (n - 1 - j) (by rw [HN.out]; omega) (by rw [show n - 1 - j = n - (j + 1) by omega]; exact hni.out) (by rw [← hxr, hy, hyx])]
          simp only [Prod.mk.injEq, Ty.var.injEq, and_true]
          rw [List.getD_eq_getElem?_getD, List.getElem?_eq_getElem (by rw [HN2.out]; omega), List.getElem_reverse]
          simp only [Option.getD_some]
          congr 1
          rw [HN2.out])
        have HV := hidE hV
        clear hfc htc hkb hxr hy hY hyx hV
        go_wp2_with fail
        go_quiet (fail)
        go_wp2_with fail
        try simp only [Exit.inBlock, Exit.then]
        refine bodyPost_ret (results_ct rfl _ _ (w.heap.size + 2) 31 _ (0, 0) _ rfl (blk_set4 _ _ _ _ ((K10.out.drewN (nd + nq)).far (p := ⟨w.heap.size + 3, 1, none⟩) (by simp) _)) Tryz.underlying31 rfl (by kernel_rfl)) rfl ?_
        refine ⟨below_set4 ((below_drewN' KB.out (nd + nq)).setCell (p := ⟨w.heap.size + 3, 1, none⟩) (by simp) _) _ _ _ _ (by omega), 1, V, 0, none, 0, 0, by rw [HRES.out]; rfl, ?_⟩
        rw [HRES.out]
        exact ⟨none, 0, by rw [← HV.out]; rfl, by rw [Args]; trivial⟩
      · have dy : (Y.toList == X.toList) = false := strF _ _ (fun e => hyx (by
          rw [← hY, ← HX.out] at e
          simpa using congrArg (fun z => z.data.toList) e))
        have hnx : Hid (x ∉ xs.take (n - j)) := hidE (by
          rw [show n - j = n - (j + 1) + 1 by omega]
          exact (not_take x xs (n - (j + 1)) (by rw [HN.out]; omega) hni.out (by rw [show xs[n - (j + 1)]'(by rw [HN.out]; omega) = y by rw [← hy, hxr]; congr 1; omega]; exact hyx)))
        clear hfc htc hkb hxr hy hY hyx hV
        go_wp2_with fail
        go_quiet (fail)
        go_wp2_with fail
        go_roundg j
        case measure => omega
        case rel => exact ⟨j, nd + nq, rfl, by go_num, by omega, by rw [drewN_add], hnx⟩

end Go.Proofs.YthgkpmgcikopnaaGreatDoor

/-
  The plain mathematics of numbered of the document's answer for types: how far the numbers go.
-/
namespace Go.Proofs.YthgkpmgcikopnaaGreatDoor
open Go.RowKit Lx Tx
set_option maxRecDepth 100000

mutual
theorem numb_up (c : UInt8) (but : List Name) : (t : Ty) → ∀ xs ys k, (numb c but xs ys t k).2 ≤ k + t.size * (but.length + 2)
  | .var x, xs, ys, k => by rw [numb]; omega
  | .mt n, xs, ys, k => by rw [numb]; omega
  | .con d l, xs, ys, k => by
    rw [numb, Ty.size]
    have := numbL_up c but l xs ys k
    rw [Nat.add_mul]
    simp only
    omega
  | .fn a b, xs, ys, k => by
    rw [numb, Ty.size]
    have h1 := numb_up c but a xs ys k
    have h2 := numb_up c but b xs ys (numb c but xs ys a k).2
    rw [Nat.add_mul, Nat.add_mul]
    simp only
    omega
  | .all x t, xs, ys, k => by
    rw [numb, Ty.size]
    have h1 := (nextF_ge c but (but.length + 1) k).2
    have h2 := numb_up c but t (x :: xs) (nm c (nextK c but k) :: ys) (nextK c but k + 1)
    have h3 : nextK c but k ≤ k + (but.length + 1) := h1
    rw [Nat.add_mul]
    simp only
    omega
theorem numbL_up (c : UInt8) (but : List Name) : (l : List Ty) → ∀ xs ys k, (numbL c but xs ys l k).2 ≤ k + sizeL l * (but.length + 2)
  | [], xs, ys, k => by rw [numbL]; omega
  | t :: r, xs, ys, k => by
    rw [numbL, sizeL]
    have h1 := numb_up c but t xs ys k
    have h2 := numbL_up c but r xs ys (numb c but xs ys t k).2
    rw [Nat.add_mul]
    simp only
    omega
end
theorem numbL_snoc (c : UInt8) (but xs ys : List Name) (l : List Ty) (t : Ty) (k : Nat) :
    numbL c but xs ys (l ++ [t]) k = ((numbL c but xs ys l k).1 ++ [(numb c but xs ys t (numbL c but xs ys l k).2).1], (numb c but xs ys t (numbL c but xs ys l k).2).2) := by
  induction l generalizing k with
  | nil => simp [numbL]
  | cons a r ih => rw [List.cons_append, numbL, ih, numbL]; simp
theorem numbL_take (c : UInt8) (but xs ys : List Name) (l : List Ty) (i k : Nat) (u : Ty) (done : List Ty) (kk : Nat) (h : Hid (numbL c but xs ys (l.take i) k = (done, kk))) (hu : l[i]? = some u) :
    numbL c but xs ys (l.take (i + 1)) k = (done ++ [(numb c but xs ys u kk).1], (numb c but xs ys u kk).2) := by
  obtain ⟨hi, e⟩ := List.getElem?_eq_some_iff.1 hu
  rw [take_snoc l i hi, numbL_snoc, e, h.out]

/-- one of these kinds again, with other arguments -/
theorem numb_kids (c : UInt8) (but xs ys : List Name) (t : Ty) (k : Nat) (h1 : ∀ x, t ≠ .var x) (h2 : ∀ x u, t ≠ .all x u) :
    (numb c but xs ys t k).2 = (numbL c but xs ys (kids t) k).2 ∧ kd (numb c but xs ys t k).1 = kd t ∧ nmB (numb c but xs ys t k).1 = nmB t ∧ nn (numb c but xs ys t k).1 = nn t ∧ kids (numb c but xs ys t k).1 = (numbL c but xs ys (kids t) k).1 := by
  cases t with
  | var x => exact absurd rfl (h1 x)
  | all x u => exact absurd rfl (h2 x u)
  | mt n => rw [numb, kids, numbL]; exact ⟨rfl, rfl, rfl, rfl, rfl⟩
  | con d l => rw [numb, kids]; exact ⟨rfl, rfl, rfl, rfl, rfl⟩
  | fn a b => rw [numb, kids, numbL, numbL, numbL]; exact ⟨rfl, rfl, rfl, rfl, rfl⟩

theorem rdv_parts {S : Nat → Prop} {w : World} {t : Ty} {K Z : Int} {X : ByteArray} {A : Option Addr} {m c : Nat} (hK : K = (kd t : Nat)) (hX : X = nmB t) (hZ : Z = (nn t : Nat)) (hm : m = (kids t).length) (ha : Args S w t A) :
    RdV S w t (.agg #[.int .i64 K, .string X, .int .i64 Z, .slice A m c]) := by
  subst hK hX hZ hm
  exact ⟨A, c, rfl, ha⟩


mutual
theorem numb_size (c : UInt8) (but : List Name) : (t : Ty) → ∀ xs ys k, (numb c but xs ys t k).1.size = t.size
  | .var x, xs, ys, k => by
    rw [numb]
    cases idx x xs <;> simp [Ty.size]
  | .mt n, xs, ys, k => by rw [numb]
  | .con d l, xs, ys, k => by rw [numb, Ty.size, Ty.size, numbL_size c but l]
  | .fn a b, xs, ys, k => by rw [numb, Ty.size, Ty.size, numb_size c but a, numb_size c but b]
  | .all x t, xs, ys, k => by rw [numb, Ty.size, Ty.size, numb_size c but t]
theorem numbL_size (c : UInt8) (but : List Name) : (l : List Ty) → ∀ xs ys k, sizeL (numbL c but xs ys l k).1 = sizeL l
  | [], xs, ys, k => by rw [numbL]
  | t :: r, xs, ys, k => by rw [numbL, sizeL, sizeL, numb_size c but t, numbL_size c but r]
end

end Go.Proofs.YthgkpmgcikopnaaGreatDoor

/-
  The plain mathematics of put of the document's answer for types: a type in the places of leaves, whatever is bound, where nothing that is bound stands in what is put.
-/
namespace Go.Proofs.YthgkpmgcikopnaaGreatDoor
open Go.RowKit Lx Tx
set_option maxRecDepth 100000

mutual
/-- a type in the place of leaves, whatever is bound -/
def raw (isP : Ty → Bool) (u : Ty) : Ty → Ty
  | .var x => if isP (.var x) = true then u else .var x
  | .mt n => if isP (.mt n) = true then u else .mt n
  | .con c l => .con c (rawL isP u l)
  | .fn a b => .fn (raw isP u a) (raw isP u b)
  | .all x t => .all x (raw isP u t)
def rawL (isP : Ty → Bool) (u : Ty) : List Ty → List Ty
  | [] => []
  | t :: r => raw isP u t :: rawL isP u r
end
mutual
/-- what is bound is none of these -/
def BOut (but : List Name) : Ty → Prop
  | .var _ => True
  | .mt _ => True
  | .con _ l => BOutL but l
  | .fn a b => BOut but a ∧ BOut but b
  | .all x t => x ∉ but ∧ BOut but t
def BOutL (but : List Name) : List Ty → Prop
  | [] => True
  | t :: r => BOut but t ∧ BOutL but r
end
mutual
theorem bout_numb (c : UInt8) (but : List Name) : (t : Ty) → ∀ xs ys k, k + t.size * (but.length + 2) ≤ 10 ^ 15 → BOut but (numb c but xs ys t k).1
  | .var x, xs, ys, k, h => by
    rw [numb]
    cases idx x xs <;> (simp only [BOut])
  | .mt n, xs, ys, k, h => by rw [numb, BOut]; trivial
  | .con d l, xs, ys, k, h => by
    rw [numb, BOut]
    rw [Ty.size, Nat.add_mul] at h
    exact bout_numbL c but l xs ys k (by omega)
  | .fn a b, xs, ys, k, h => by
    rw [numb, BOut]
    rw [Ty.size, Nat.add_mul, Nat.add_mul] at h
    have := numb_up c but a xs ys k
    exact ⟨bout_numb c but a xs ys k (by omega), bout_numb c but b xs ys _ (by omega)⟩
  | .all x t, xs, ys, k, h => by
    rw [numb, BOut]
    rw [Ty.size, Nat.add_mul] at h
    obtain ⟨h1, _, h3⟩ := nextK_spec c but k (by omega)
    exact ⟨h1, bout_numb c but t _ _ _ (by omega)⟩
theorem bout_numbL (c : UInt8) (but : List Name) : (l : List Ty) → ∀ xs ys k, k + sizeL l * (but.length + 2) ≤ 10 ^ 15 → BOutL but (numbL c but xs ys l k).1
  | [], xs, ys, k, h => by rw [numbL, BOutL]; trivial
  | t :: r, xs, ys, k, h => by
    rw [numbL, BOutL]
    rw [sizeL, Nat.add_mul] at h
    have := numb_up c but t xs ys k
    exact ⟨bout_numb c but t xs ys k (by omega), bout_numbL c but r xs ys _ (by omega)⟩
end
section
mutual
theorem db_raw (isP : Ty → Bool) (u : Ty) (but : List Name) (hu : ∀ x, FvOcc x (db [] u) → x ∈ but) (hv : ∀ x, isP (.var x) = true → x ∈ but) : (t : Ty) → ∀ env : List Name, (∀ y ∈ env, y ∉ but) → BOut but t → db env (raw isP u t) = repD (Fu isP u) (Gu isP u) (db env t)
  | .var x, env, he, hb => by
    rw [raw, db]
    by_cases h : isP (.var x) = true
    · have hx : x ∉ env := fun hm => he x hm (hv x h)
      rw [if_pos h, (idx_none x env).2 hx]
      show _ = repD (Fu isP u) (Gu isP u) (.fv x)
      rw [repD, Fu, if_pos h]
      exact db_apart env u (fun y hy hm => he y hm (hu y hy))
    · rw [if_neg h, db]
      cases idx x env with
      | some i => show Dt.bv i = repD (Fu isP u) (Gu isP u) (.bv i); rw [repD]
      | none => show Dt.fv x = repD (Fu isP u) (Gu isP u) (.fv x); rw [repD, Fu, if_neg h]
  | .mt n, env, he, hb => by
    rw [raw, db, repD, Gu]
    by_cases h : isP (.mt n) = true
    · rw [if_pos h, if_pos h]
      exact db_apart env u (fun y hy hm => he y hm (hu y hy))
    · rw [if_neg h, if_neg h, db]
  | .con c l, env, he, hb => by
    rw [BOut] at hb
    rw [raw, db, db, repD, db_rawL isP u but hu hv l env he hb]
  | .fn a b, env, he, hb => by
    rw [BOut] at hb
    rw [raw, db, db, repD, db_raw isP u but hu hv a env he hb.1, db_raw isP u but hu hv b env he hb.2]
  | .all x t, env, he, hb => by
    rw [BOut] at hb
    rw [raw, db, db, repD, db_raw isP u but hu hv t (x :: env) (fun y hy => by rcases List.mem_cons.1 hy with rfl | hy; exact hb.1; exact he y hy) hb.2]
theorem db_rawL (isP : Ty → Bool) (u : Ty) (but : List Name) (hu : ∀ x, FvOcc x (db [] u) → x ∈ but) (hv : ∀ x, isP (.var x) = true → x ∈ but) : (l : List Ty) → ∀ env : List Name, (∀ y ∈ env, y ∉ but) → BOutL but l → dbL env (rawL isP u l) = repDL (Fu isP u) (Gu isP u) (dbL env l)
  | [], env, he, hb => by rw [rawL, dbL, repDL]
  | t :: r, env, he, hb => by
    rw [BOutL] at hb
    rw [rawL, dbL, dbL, repDL, db_raw isP u but hu hv t env he hb.1, db_rawL isP u but hu hv r env he hb.2]
end
end
mutual
theorem raw_size (isP : Ty → Bool) (u : Ty) : (t : Ty) → (raw isP u t).size ≤ t.size * u.size
  | .var x => by
    have := size_pos u
    rw [raw, Ty.size, Nat.one_mul]
    split
    · exact Nat.le_refl _
    · rw [Ty.size]; exact this
  | .mt n => by
    have := size_pos u
    rw [raw, Ty.size, Nat.one_mul]
    split
    · exact Nat.le_refl _
    · rw [Ty.size]; exact this
  | .con c l => by
    have := size_pos u
    have := raw_sizeL isP u l
    rw [raw, Ty.size, Ty.size, Nat.add_mul]
    omega
  | .fn a b => by
    have := size_pos u
    have := raw_size isP u a
    have := raw_size isP u b
    rw [raw, Ty.size, Ty.size, Nat.add_mul, Nat.add_mul]
    omega
  | .all x t => by
    have := size_pos u
    have := raw_size isP u t
    rw [raw, Ty.size, Ty.size, Nat.add_mul]
    omega
theorem raw_sizeL (isP : Ty → Bool) (u : Ty) : (l : List Ty) → sizeL (rawL isP u l) ≤ sizeL l * u.size
  | [] => by rw [rawL, sizeL]; exact Nat.zero_le _
  | t :: r => by
    have := raw_size isP u t
    have := raw_sizeL isP u r
    rw [rawL, sizeL, sizeL, Nat.add_mul]
    omega
end
theorem free_size (t : Ty) : t.free.length ≤ t.size := by
  unfold Ty.free
  rw [free_db [] [] (fun _ => Iff.rfl)]
  have := free_size_db [] t []
  simpa using this
theorem free_occ (t : Ty) (x : Name) (h : FvOcc x (db [] t)) : x ∈ t.free := by
  unfold Ty.free
  rw [free_db [] [] (fun _ => Iff.rfl), mem_freeD]
  exact .inr h
/-- with names of a letter that are none of these it is the type that it was -/
theorem db_numb (c : UInt8) (but : List Name) (t : Ty) (hf : ∀ x ∈ t.free, x ∈ but) (hs : (t.size + 1) * (but.length + 1) < 10 ^ 20) : db [] (numb c but [] [] t 0).1 = db [] t := by
  rw [numb_db]
  refine db_numbD c but _ [] 0 (Given.nil _ _) (clo_db [] t) (fvIn_free but _ [] (fun x hx => hf x ?_)) ?_
  · unfold Ty.free
    rw [free_db [] [] (fun _ => Iff.rfl)]
    exact hx
  · have := alls_size_db [] t
    have h3 : (allsD (db [] t) + 1) * (but.length + 1) ≤ (t.size + 1) * (but.length + 1) := Nat.mul_le_mul (by omega) (Nat.le_refl _)
    omega
/-- the document's Put and Fill leave what the program's leave, but for bound names -/
theorem canon_raw (isP : Ty → Bool) (c : UInt8) (but : List Name) (t u : Ty) (ht : t.size ≤ 1000000) (hu : u.size ≤ 1000000) (hv : ∀ x, isP (.var x) = true → x ∈ but) (hfu : ∀ x ∈ u.free, x ∈ but) (hft : ∀ x ∈ t.free, x ∈ but)
    (hb : t.size * (but.length + 2) ≤ 10 ^ 15) : (raw isP u (numb c but [] [] t 0).1).canonT = (putT isP t u).canonT := by
  have hs : (t.size + 1) * (but.length + 1) < 10 ^ 20 := by
    rw [Nat.mul_add] at hb
    have h1 := size_pos t
    have h2 : 1 * but.length ≤ t.size * but.length := Nat.mul_le_mul_right _ h1
    rw [Nat.mul_add, Nat.add_mul]
    omega
  rw [canon_db, canon_db, db_putT isP t u ht hu, db_raw isP u but (fun x hx => hfu x (free_occ u x hx)) hv _ [] (fun _ h => (List.not_mem_nil h).elim) (bout_numb c but t [] [] 0 (by omega)), db_numb c but t hft hs]

end Go.Proofs.YthgkpmgcikopnaaGreatDoor
