/-
  ScopeLet: what it needs beside.
-/
import Derived.Test.YtefldbbiajkbnaaGreatDoorDaAR
namespace Go.Proofs.YtefldbbiajkbnaaGreatDoor
open Go.RowKit Lx Tx
set_option maxRecDepth 100000

/-- the three cells of token k -/
theorem RdT.at_ {w : World} {v : Value} {ts : List Tok} (h : RdT w v ts) (k : Nat) (hk : k < ts.length) :
    ∃ g c, v = .slice (some ⟨g, 0, none⟩) ts.length c ∧ w.cell? ⟨g, k * 3, none⟩ = some (.int .i64 (ts[k].kind : Nat)) ∧ w.cell? ⟨g, k * 3 + 1, none⟩ = some (.string ⟨ts[k].text.toArray⟩) ∧ w.cell? ⟨g, k * 3 + 2, none⟩ = some (.int .i64 (ts[k].at_ : Nat)) := by
  obtain ⟨A, c, hv, hp⟩ := h
  obtain ⟨g, rfl, _, hc⟩ := hp (by omega)
  have key : ∀ (ts : List Tok) (k : Nat) (hk : k < ts.length) (j : Nat), j < 3 → (toksV ts)[k * 3 + j]? = (tokV ts[k])[j]? := by
    intro ts
    induction ts with
    | nil => intro k hk; simp at hk
    | cons t r ih =>
      intro k hk j hj
      have hl : (tokV t).length = 3 := rfl
      show (tokV t ++ toksV r)[k * 3 + j]? = _
      cases k with
      | zero => rw [Nat.zero_mul, Nat.zero_add, List.getElem?_append_left (by omega)]; rfl
      | succ k =>
        rw [List.getElem?_append_right (by omega), hl, show (k + 1) * 3 + j - 3 = k * 3 + j by omega, ih k (by simpa using hk) j hj]
        rfl
  exact ⟨g, c, hv, hc _ _ ((key ts k hk 0 (by omega)).trans rfl), hc _ _ ((key ts k hk 1 (by omega)).trans rfl), hc _ _ ((key ts k hk 2 (by omega)).trans rfl)⟩
theorem alloc_at (w : World) (o : Obj) (g : Nat) (hg : g = w.heap.size) : (w.alloc o).heap[g]? = some o := by
  subst hg; exact heap_alloc_new w o

theorem alloc_below (w : World) (o : Obj) (g : Nat) (x : Obj) (h : w.heap[g]? = some x) : (w.alloc o).heap[g]? = some x :=
  (Below.heap_alloc w o g (lt_of_block h)).trans h
end Go.Proofs.YtefldbbiajkbnaaGreatDoor

namespace Go.Proofs.YtefldbbiajkbnaaGreatDoor
namespace Sx
open Lx Tx
/-- ScopeLet -/
theorem fr_let_own (x : Nm) (t : Option Tx.Ty) : freeE (.lt x t (.var x) (.var x)) = [x] := by
  simp [freeE, fr, but, addA, add1]
theorem fr_alt_own (x k : Nm) (e : Ex) : fr (.cs e [.mk k [x] (.var x)]) = fr e := by
  simp [fr, frA, fr1, but]
theorem bis_alt_own (x k : Nm) (e : Ex) : x ∈ bis (.cs e [.mk k [x] (.var x)]) := by simp [bis, bisA, bis1]
theorem cns_alt_own (x k : Nm) (e : Ex) (vs : List Nm) : k ∈ cns (.cs e [.mk k vs (.var x)]) := by simp [cns, cnsA, cns1]
end Sx
end Go.Proofs.YtefldbbiajkbnaaGreatDoor

namespace Go.Proofs.YtefldbbiajkbnaaGreatDoor
open Go.RowKit Lx Tx Sx Go.Maps Go.WideMaps Go.Shelf
set_option maxRecDepth 100000

theorem nms_row {S : Nat → Prop} {w : World} {L : List Nm} {A : Option Addr} (h : NmsIn S w L A) {j : Nat} {y : Nm} (hy : L[j]? = some y) : ∃ g, A = some ⟨g, 0, none⟩ ∧ S g ∧ w.cell? ⟨g, j, none⟩ = some (.string ⟨y.toArray⟩) := by
  have hj := (List.getElem?_eq_some_iff.1 hy).1
  obtain ⟨g, hA, hg, hl⟩ := h (by intro e; rw [e] at hj; simp at hj)
  refine ⟨g, hA, hg, ?_⟩
  have := hl j (Sx.strV y) (by rw [List.getElem?_map, hy]; rfl)
  rw [Nat.zero_add] at this
  exact this

end Go.Proofs.YtefldbbiajkbnaaGreatDoor

namespace Go.Proofs.YtefldbbiajkbnaaGreatDoor
open Go.RowKit Lx Tx Sx Go.Maps Go.WideMaps Go.Shelf
set_option maxRecDepth 100000

set_option maxHeartbeats 3200000 in
theorem s9_word (s : ByteArray) (w : World) (hs : s.size ≤ maxLen) : Calls Tryz.prog 38 #[.string s] w fun e w' => ∃ q, e = .returned (.bool q) ∧ (q = true → Gd 1 s.data.toList) ∧ Below w.heap.size w w' := by
  have HSC := hidE (scan_any s w hs)
  clear hs
  go_enter Tryz.func38, Tryz.ntmps38
  go_wp2_with fail
  refine HSC.out.mono ?_
  rintro e w1 ⟨b1, v, ts, a, er, hsc, rfl, hown⟩
  have B1 := hidE b1
  by_cases he : er = 0
  · subst he
    obtain ⟨hG, hL⟩ := scan_good _ _ _ hsc
    have hr := RdT.of_own hown
    match ts, hG, hL, hr with
    | [], _, _, hr =>
      obtain ⟨A, c, rfl, -⟩ := hr
      clear hsc hown b1 HSC
      go_wp2_with fail
      go_ret
      exact ⟨false, rfl, (fun h => by cases h), B1.out⟩
    | [t], hG, hL, hr =>
      obtain ⟨g, c, rfl, f0, f1, -⟩ := hr.at_ 0 (by simp)
      obtain ⟨k, hk⟩ : ∃ k, t.kind = k := ⟨_, rfl⟩
      obtain ⟨X, hX⟩ : ∃ X : ByteArray, ⟨t.text.toArray⟩ = X := ⟨_, rfl⟩
      replace f0 : w1.cell? ⟨g, 0, none⟩ = some (.int .i64 (k : Nat)) := by rw [← hk]; simpa using f0
      replace f1 : w1.cell? ⟨g, 1, none⟩ = some (.string X) := by rw [← hX]; simpa using f1
      have hg := hG t (by simp)
      have hgl := lt_cell f0
      by_cases h1 : k = 1
      · subst h1
        have HGD : Hid (X = s → Gd 1 s.data.toList) := hidE (fun e => by
          rw [Lx.Good, hk] at hg
          rw [← e, ← hX]
          exact ⟨hg.1, hg.2.1, by decide⟩)
        clear hsc hown b1 HSC hG hL hr hk hX hg
        by_cases h2 : X = s
        · have dq := strT X s h2
          have HG := hidE (HGD.out h2)
          clear h2
          go_wp2_with fail
          go_ret
          exact ⟨true, rfl, (fun _ => HG.out), B1.out⟩
        · have dq := strF X s h2
          clear h2
          go_wp2_with fail
          go_ret
          exact ⟨false, rfl, (fun h => by cases h), B1.out⟩
      · have dk : ((k : Int) == 1) = false := by simp; omega
        clear hsc hown b1 HSC hG hL hr hk hX hg h1
        go_wp2_with fail
        go_ret
        exact ⟨false, rfl, (fun h => by cases h), B1.out⟩
    | t :: t2 :: r, hG, hL, hr =>
      obtain ⟨A, c, rfl, -⟩ := hr
      obtain ⟨n, hn⟩ : ∃ n, (t :: t2 :: r).length = n := ⟨_, rfl⟩
      have hn2 : 2 ≤ n := by rw [← hn]; simp
      rw [hn] at hL ⊢
      have dn : ((n : Int) == 1) = false := by simp; omega
      clear hsc hown b1 HSC hG hn hn2
      go_wp2_with fail
      go_ret
      exact ⟨false, rfl, (fun h => by cases h), B1.out⟩
  · have de : ((er : Int) == 0) = false := by simp; omega
    clear hsc hown b1 HSC he
    go_wp2_with fail
    go_ret
    exact ⟨false, rfl, (fun h => by cases h), B1.out⟩
end Go.Proofs.YtefldbbiajkbnaaGreatDoor

namespace Go.Proofs.YtefldbbiajkbnaaGreatDoor
open Go.RowKit Lx Tx Sx Go.Maps Go.WideMaps Go.Shelf
set_option maxRecDepth 100000

/-- a name's nine cells, as a literal lays them -/
def varC (X : ByteArray) : List Value := [.int .i64 1, .string X, .bool false, .int .i64 0, .string ⟨#[]⟩, .int .i64 0, .slice none 0 0, .slice none 0 0, .slice none 0 0]
theorem varC_eq (X : ByteArray) : varC X = exC (.var X.data.toList) ⟨none, 0, none, 0, none, 0⟩ := by
  unfold varC exC
  simp [kdE, nmE, toE, tyE, kidsE, altsE, tyC, Sx.strV]
/-- a let of a name, by that name, in that name -/
theorem let_rd {S : Nat → Prop} {U : World} {X : ByteArray} {g : Nat} {t : TypeId} (hS : S g) (hb : Blk U g t (varC X ++ varC X).toArray) :
    RdX S U (.lt X.data.toList none (.var X.data.toList) (.var X.data.toList)) (.agg #[.int .i64 5, .string X, .bool false, .int .i64 0, .string ⟨#[]⟩, .int .i64 0, .slice none 0 0, .slice (some ⟨g, 0, none⟩) 2 2, .slice none 0 0]) := by
  have hl := lie_blk hb
  refine ⟨⟨none, 0, some ⟨g, 0, none⟩, 0, none, 0⟩, ?_, trivial, ?_⟩
  · unfold exC
    simp [kdE, nmE, toE, tyE, kidsE, altsE, tyC, Sx.strV]
  · rw [ExIn]
    refine ⟨g, rfl, hS, ⟨⟨none, 0, none, 0, none, 0⟩, ?_, trivial, by rw [ExIn]; trivial⟩, ⟨none, 0, none, 0, none, 0⟩, ?_, trivial, by rw [ExIn]; trivial⟩
    · rw [← varC_eq]
      intro j v hj
      exact hl j v (by rw [List.getElem?_append_left (List.getElem?_eq_some_iff.1 hj).1]; exact hj)
    · rw [← varC_eq]
      intro j v hj
      have := hl (9 + j) v (by rw [List.getElem?_append_right (by simp [varC])]; simpa [varC] using hj)
      rwa [Nat.zero_add] at this
/-- a case of x by one alternative, its name's own -/
theorem alt_rd {S : Nat → Prop} {U : World} {X : ByteArray} {x : Ex} {xs : List Value} {vs : List Nm} {g1 g3 : Nat} {V : Option Addr} {v : Nat} {t1 t3 : TypeId} (hS1 : S g1) (hS3 : S g3) (hx : pcE.Cs S U x xs) (hb1 : Blk U g1 t1 xs.toArray)
    (hV : NmsIn S U vs V) (hb3 : Blk U g3 t3 (([.string ⟨#[75]⟩, .slice V vs.length v] ++ varC X : List Value)).toArray) :
    RdX S U (.cs x [.mk [75] vs (.var X.data.toList)]) (.agg #[.int .i64 6, .string ⟨#[]⟩, .bool false, .int .i64 0, .string ⟨#[]⟩, .int .i64 0, .slice none 0 0, .slice (some ⟨g1, 0, none⟩) 1 1, .slice (some ⟨g3, 0, none⟩) 1 1]) := by
  have hl1 := lie_blk hb1
  have hl3 := lie_blk hb3
  obtain ⟨P, rfl, hT, hI⟩ := hx
  refine ⟨⟨none, 0, some ⟨g1, 0, none⟩, 0, some ⟨g3, 0, none⟩, 1⟩, ?_, trivial, ?_⟩
  · unfold exC
    simp [kdE, nmE, toE, tyE, kidsE, altsE, tyC, Sx.strV]
  · rw [ExIn]
    refine ⟨⟨g1, rfl, hS1, P, hl1, hT, hI⟩, fun _ => ⟨g3, rfl, hS3, ?_⟩⟩
    rw [AlsIn, AlsIn, AlIn]
    refine ⟨⟨?_, ⟨V, v, ?_, hV⟩, ⟨none, 0, none, 0, none, 0⟩, ?_, trivial, by rw [ExIn]; trivial⟩, trivial⟩
    · have := hl3 0 (.string ⟨#[75]⟩) rfl
      exact this
    · exact hl3 1 _ rfl
    · rw [← varC_eq]
      intro j u hj
      have := hl3 (2 + j) u (by rw [List.getElem?_append_right (by simp)]; simpa using hj)
      rw [Nat.zero_add] at this
      rw [Nat.zero_add]
      exact this

theorem NmsP.low {W U w' : World} {L : List Nm} {e : Ending} (h : NmsP U L e w') (hb : Below W.heap.size W U) : NmsP W L e w' := by
  obtain ⟨A, n, c, rfl, hn, hm, h2⟩ := h
  have := hb.size
  exact ⟨A, n, c, rfl, hn, hm.keep (fun g hg => ⟨by omega, hg.2⟩) (fun _ _ => rfl), hb.trans (h2.mono hb.size)⟩
theorem nms_rowV {S : Nat → Prop} {w : World} {L : List Nm} {A : Option Addr} {n c : Nat} (hn : n = L.length) (h : NmsIn S w L A) (hS : ∀ g, S g → g < w.heap.size) : RowV w (.slice A n c) (Go.Proofs.YtefldbbiajkbnaaGreatDoor.strV L) := by
  subst hn
  have hl : (Go.Proofs.YtefldbbiajkbnaaGreatDoor.strV L).length = L.length := by unfold Go.Proofs.YtefldbbiajkbnaaGreatDoor.strV; simp
  refine ⟨A, c, by rw [hl], fun h0 => ?_⟩
  rw [hl] at h0
  obtain ⟨g, hA, hg, hc⟩ := h (fun e => by rw [e] at h0; simp at h0)
  exact ⟨g, hA, hS g hg, fun j u hu => by have := hc j u hu; rwa [Nat.zero_add] at this⟩
theorem gd_K : Gd 2 [75] := ⟨by decide, by decide +kernel, by decide⟩
/-- a function of names at a case by one alternative of one name -/
theorem case_call (F : Nat) (L : Ex → List Nm) (hF : ∀ (e : Ex) (S : Nat → Prop) (v : Value) (w : World), RdX S w e v → (∀ g, S g → g < w.heap.size) → e.Ok → e.wt ≤ 9000 → Calls Tryz.prog F #[v] w (NmsP w (L e)))
    {w1 W2 W U : World} {S : Nat → Prop} {x : Ex} {X : ByteArray} {xs : List Value} {g1 g2 g3 : Nat} {t1 t2 t3 : TypeId} (hW : Below W2.heap.size W2 W) (hU : Below W.heap.size W U) (hx : pcE.Cs S w1 x xs ∧ ∀ g, S g → g < w1.heap.size) (h12 : Below w1.heap.size w1 W2) (hok : x.Ok) (hwt : x.wt ≤ 4000) (hgd : Gd 1 X.data.toList)
    (h1 : Blk U g1 t1 xs.toArray) (h2 : Blk U g2 t2 #[.string X]) (h3 : Blk U g3 t3 (([.string ⟨#[75]⟩, .slice (some ⟨g2, 0, none⟩) 1 1] ++ varC X : List Value)).toArray) :
    Calls Tryz.prog F #[.agg #[.int .i64 6, .string ⟨#[]⟩, .bool false, .int .i64 0, .string ⟨#[]⟩, .int .i64 0, .slice none 0 0, .slice (some ⟨g1, 0, none⟩) 1 1, .slice (some ⟨g3, 0, none⟩) 1 1]] U (NmsP W (L (.cs x [.mk [75] [X.data.toList] (.var X.data.toList)]))) := by
  have hk : Below w1.heap.size w1 U := h12.trans ((hW.trans (hU.mono hW.size)).mono h12.size)
  have hs := hk.size
  have hv : NmsIn (fun g => g < U.heap.size) U [X.data.toList] (some ⟨g2, 0, none⟩) := fun _ => ⟨g2, rfl, h2.lt, by
    have := lie_blk h2
    rw [show ([X.data.toList].map Sx.strV) = [.string X] by simp [Sx.strV]]
    exact this⟩
  refine (hF _ _ _ U (alt_rd (vs := [X.data.toList]) (S := fun g => g < U.heap.size) h1.lt h3.lt (pcE.keep (fun g hg => by have := hx.2 g hg; omega) (fun g hg => hk.block g (hx.2 g hg)) hx.1) h1 hv h3) (fun _ h => h) ?_ ?_).mono fun e w' h => h.low hU
  · exact ⟨hok, ⟨gd_K, (fun y hy => by rw [List.mem_singleton] at hy; exact hy ▸ hgd), hgd⟩, trivial⟩
  · simp [Ex.wt, wtA, Al.wt]
    omega
theorem case_call0 (F : Nat) (L : Ex → List Nm) (hF : ∀ (e : Ex) (S : Nat → Prop) (v : Value) (w : World), RdX S w e v → (∀ g, S g → g < w.heap.size) → e.Ok → e.wt ≤ 9000 → Calls Tryz.prog F #[v] w (NmsP w (L e)))
    {w1 W2 W U : World} {S : Nat → Prop} {x : Ex} {X : ByteArray} {xs : List Value} {g1 g3 : Nat} {t1 t3 : TypeId} (hW : Below W2.heap.size W2 W) (hU : Below W.heap.size W U) (hx : pcE.Cs S w1 x xs ∧ ∀ g, S g → g < w1.heap.size) (h12 : Below w1.heap.size w1 W2) (hok : x.Ok) (hwt : x.wt ≤ 4000) (hgd : Gd 1 X.data.toList)
    (h1 : Blk U g1 t1 xs.toArray) (h3 : Blk U g3 t3 (([.string ⟨#[75]⟩, .slice none 0 0] ++ varC X : List Value)).toArray) :
    Calls Tryz.prog F #[.agg #[.int .i64 6, .string ⟨#[]⟩, .bool false, .int .i64 0, .string ⟨#[]⟩, .int .i64 0, .slice none 0 0, .slice (some ⟨g1, 0, none⟩) 1 1, .slice (some ⟨g3, 0, none⟩) 1 1]] U (NmsP W (L (.cs x [.mk [75] [] (.var X.data.toList)]))) := by
  have hk : Below w1.heap.size w1 U := h12.trans ((hW.trans (hU.mono hW.size)).mono h12.size)
  have hs := hk.size
  refine (hF _ _ _ U (alt_rd (vs := []) (S := fun g => g < U.heap.size) h1.lt h3.lt (pcE.keep (fun g hg => by have := hx.2 g hg; omega) (fun g hg => hk.block g (hx.2 g hg)) hx.1) h1 (fun h => absurd rfl h) h3) (fun _ h => h) ?_ ?_).mono fun e w' h => h.low hU
  · exact ⟨hok, ⟨gd_K, (fun y hy => by cases hy), hgd⟩, trivial⟩
  · simp [Ex.wt, wtA, Al.wt]
    omega

set_option maxHeartbeats 12800000 in
theorem s9_let (s X : ByteArray) (w : World) (hs : s.size ≤ maxLen) (hX : X.size ≤ maxLen) : Calls Tryz.prog 10 #[.string s, .string X] w fun e w' => e = .returned (.bool true) ∧ Below w.heap.size w w' := by
  have HAW := hidE (s9_awake w)
  have HP := hidE (fun U => sx_parseExpr s U hs)
  have HWD := hidE (fun U => s9_word X U hX)
  clear hs hX
  go_enter Tryz.func10, Tryz.ntmps10
  go_wp2_with fail
  refine HAW.out.mono ?_
  rintro e wa ⟨rfl, ba⟩
  have BA := hidE ba
  clear ba HAW
  go_wp2_with fail
  refine (HP.out _).mono ?_
  rintro e w1 ⟨b1, hcs⟩
  have B1 := hidE (BA.out.trans (b1.mono BA.out.size))
  have hs1 := b1.size
  clear HP
  rcases hcs with ⟨n, hn, hp, rfl⟩ | ⟨x, cs, hsh, hok, hwt, hp, rfl, hx⟩
  · have dn : ((n : Int) != 0) = true := neqT _ _ (by omega)
    unfold exZ
    clear hp hn b1
    go_wp2_with fail
    refine (HWD.out _).mono ?_
    rintro e w2 ⟨q, rfl, -, b2⟩
    have B2 := hidE (((B1.out.alloc B1.out.size _).trans (b2.mono (by have := B1.out.size; simp; omega))))
    clear b2 HWD
    go_wp2_with fail
    go_ret
    exact ⟨rfl, B2.out⟩
  · obtain ⟨k, x0, t, K, X0, Z, B, m, q, KA, kn, kc, LA, ln, lc, rfl⟩ := hsh
    have hvx := hx
    obtain ⟨W1, hW1⟩ : ∃ y, w1.alloc (.cells #[.int .i64 k, .string x0, .bool t, .int .i64 K, .string X0, .int .i64 Z, .slice B m q, .slice KA kn kc, .slice LA ln lc] 39) = y := ⟨_, rfl⟩
    have hbW : Below w1.heap.size w1 W1 := hW1 ▸ (Below.refl _ w1).alloc (Nat.le_refl _) _
    have hsW : W1.heap.size = w1.heap.size + 1 := by rw [← hW1]; simp
    have HBX := hidE (hW1 ▸ heap_alloc_new w1 _ : Blk W1 w1.heap.size 39 #[.int .i64 k, .string x0, .bool t, .int .i64 K, .string X0, .int .i64 Z, .slice B m q, .slice KA kn kc, .slice LA ln lc])
    have BX := hidE (B1.out.trans (hbW.mono B1.out.size))
    have hx2 : ∀ g, (wa.heap.size ≤ g ∧ g < w1.heap.size) → g < w1.heap.size := fun g hg => hg.2
    have HXX := hidE (And.intro hvx hx2)
    clear hx2
    clear b1 hp hx hvx
    go_upto_region 3 with fail
    try rw [hW1]
    clear hW1
    go_wp2_with fail
    refine (HWD.out _).mono ?_
    rintro e w2 ⟨q1, rfl, hgd, b2⟩
    have B2 := hidE (BX.out.trans (b2.mono BX.out.size))
    have HB2 := hidE (hbW.trans (b2.mono (by omega)))
    have HBX2 := hidE (HBX.out.below b2 (by omega))
    have hs2 := b2.size
    cases q1 with
    | false =>
      clear b2 HWD
      go_wp2_with fail
      go_ret
      exact ⟨rfl, B2.out⟩
    | true =>
      have HGD := hidE (hgd rfl)
      obtain ⟨W2, hW2⟩ : ∃ y, w2.alloc (.cells #[.int .i64 1, .string X, .bool false, .int .i64 0, .string ⟨#[]⟩, .int .i64 0, .slice none 0 0, .slice none 0 0, .slice none 0 0] 39) = y := ⟨_, rfl⟩
      have hbW2 : Below w2.heap.size w2 W2 := hW2 ▸ (Below.refl _ w2).alloc (Nat.le_refl _) _
      have hsW2 : W2.heap.size = w2.heap.size + 1 := by rw [← hW2]; simp
      have HBV := hidE (hW2 ▸ heap_alloc_new w2 _ : Blk W2 w2.heap.size 39 #[.int .i64 1, .string X, .bool false, .int .i64 0, .string ⟨#[]⟩, .int .i64 0, .slice none 0 0, .slice none 0 0, .slice none 0 0])
      have HBX3 := hidE (HBX2.out.below hbW2 (by omega))
      have B3 := hidE (B2.out.trans (hbW2.mono B2.out.size))
      have HXW : Hid (Below w1.heap.size w1 W2) := hidE (HB2.out.trans (hbW2.mono (by omega)))
      clear b2 HWD hgd hbW hbW2 HBX HBX2 BX HB2
      have HW2 := hidE hW2
      clear hW2
      go_upto_region 7 with fail
      rw [HW2.out]
      clear HW2
      obtain ⟨⟨v0, v1, v2, v3, v4, v5, v6, v7, v8⟩, -, -⟩ := blk_facts9 HBV.out
      have HLT := hidE (sc_FreeP (.lt X.data.toList none (.var X.data.toList) (.var X.data.toList)) (fun g => g = w2.heap.size + 1) _ (W2.alloc (.cells (varC X ++ varC X).toArray 39)) (let_rd rfl (by rw [← hsW2]; exact heap_alloc_new W2 _)) (fun g hg => by simp; omega) ⟨HGD.out, (fun u h => by cases h), HGD.out, HGD.out⟩ (by simp [Ex.wt, toldW]))
      have HOK := hidE hok
      have HWT := hidE hwt
      rw [fr_let_own] at HLT
      go_wp2_with fail
      refine HLT.out.mono ?_
      rintro e w3 ⟨A, n, c, rfl, hn, hm, hb⟩
      obtain rfl : n = 1 := hn
      obtain ⟨ga, rfl, hga, hcell⟩ := nms_row hm (j := 0) rfl
      have HGA : Hid (ga < w3.heap.size) := hidE hga.2
      rw [show (⟨X.data.toList.toArray⟩ : ByteArray) = X from Lib.mk_data X] at hcell
      have HCE := hidE hcell
      have HW3 : Hid (Below W2.heap.size W2 w3) := hidE (((Below.refl _ W2).alloc (Nat.le_refl _) _).trans (hb.mono (by simp)))
      have hsw3 := HW3.out.size
      clear hm hb hga hcell HLT v0 v1 v2 v3 v4 v5 v6 v7 v8 hok hwt
      have BB := hidE (Below.refl w3.heap.size w3)
      obtain ⟨⟨a0, a1, a2, a3, a4, a5, a6, a7, a8⟩, -, -⟩ := blk_facts9 (HBX3.out.below HW3.out (by omega))
      obtain ⟨⟨y0, y1, y2, y3, y4, y5, y6, y7, y8⟩, -, -⟩ := blk_facts9 (HBV.out.below HW3.out (by omega))
      have hl1 := lt_cell a0
      have hl2 := lt_cell y0
      have HC : Hid (∀ U : World, Below w3.heap.size w3 U → ∀ g1 g3 g2, Blk U g3 74 #[.string ⟨#[75]⟩, .slice (some ⟨g2, 0, none⟩) 1 1, .int .i64 1, .string X, .bool false, .int .i64 0, .string ⟨#[]⟩, .int .i64 0, .slice none 0 0, .slice none 0 0, .slice none 0 0] → Blk U g1 39 #[.int .i64 k, .string x0, .bool t, .int .i64 K, .string X0, .int .i64 Z, .slice B m q, .slice KA kn kc, .slice LA ln lc] → Blk U g2 9 #[.string X] → Calls Tryz.prog 29 #[.agg #[.int .i64 6, .string ⟨#[]⟩, .bool false, .int .i64 0, .string ⟨#[]⟩, .int .i64 0, .slice none 0 0, .slice (some ⟨g1, 0, none⟩) 1 1, .slice (some ⟨g3, 0, none⟩) 1 1]] U (NmsP w3 (freeE (.cs x [.mk [75] [X.data.toList] (.var X.data.toList)])))) := hidE (fun U hU g1 g3 g2 h3 h1 h2 => case_call 29 freeE sc_FreeP HW3.out hU HXX.out HXW.out HOK.out HWT.out HGD.out h1 h2 h3)
      go_wp2_with fail
      refine (HC.out _ (by (repeat first | (with_reducible exact BB.out) | (with_reducible refine Below.drew ?_) | (with_reducible refine Below.alloc ?_ (by have := BB.out.size; first | omega | (simp; done) | (simp; omega)) _))) _ _ _ (by first | exact alloc_at _ _ _ (by first | omega | (simp; done) | (simp; omega)) | exact alloc_below _ _ _ _ (alloc_at _ _ _ (by first | omega | (simp; done) | (simp; omega))) | exact alloc_below _ _ _ _ (alloc_below _ _ _ _ (alloc_at _ _ _ (by first | omega | (simp; done) | (simp; omega))))) (by first | exact alloc_at _ _ _ (by first | omega | (simp; done) | (simp; omega)) | exact alloc_below _ _ _ _ (alloc_at _ _ _ (by first | omega | (simp; done) | (simp; omega))) | exact alloc_below _ _ _ _ (alloc_below _ _ _ _ (alloc_at _ _ _ (by first | omega | (simp; done) | (simp; omega))))) (by first | exact alloc_at _ _ _ (by first | omega | (simp; done) | (simp; omega)) | exact alloc_below _ _ _ _ (alloc_at _ _ _ (by first | omega | (simp; done) | (simp; omega))) | exact alloc_below _ _ _ _ (alloc_below _ _ _ _ (alloc_at _ _ _ (by first | omega | (simp; done) | (simp; omega)))))).mono ?_
      rintro e w4 ⟨A1, n1, c1, rfl, hn1, hm1, hb1⟩
      have HN1 := hidE hn1
      have HM1 := hidE hm1
      have HB1 := hidE hb1
      have HW4 : Hid (Below W2.heap.size W2 w4) := hidE (HW3.out.trans (hb1.mono HW3.out.size))
      have hsw4 := HW4.out.size
      clear BB HC hn1 hm1 hb1 a0 a1 a2 a3 a4 a5 a6 a7 a8 y0 y1 y2 y3 y4 y5 y6 y7 y8 hl1 hl2
      have BB := hidE (Below.refl w4.heap.size w4)
      obtain ⟨⟨a0, a1, a2, a3, a4, a5, a6, a7, a8⟩, -, -⟩ := blk_facts9 (HBX3.out.below HW4.out (by omega))
      obtain ⟨⟨y0, y1, y2, y3, y4, y5, y6, y7, y8⟩, -, -⟩ := blk_facts9 (HBV.out.below HW4.out (by omega))
      have hl1 := lt_cell a0
      have hl2 := lt_cell y0
      have HFX := hidE (sc_FreeP x (fun g => g < w1.heap.size) (.agg #[.int .i64 k, .string x0, .bool t, .int .i64 K, .string X0, .int .i64 Z, .slice B m q, .slice KA kn kc, .slice LA ln lc]) w4 (rdX_cs.2 (pcE.keep (fun g hg => HXX.out.2 g hg) (fun g hg => (HXW.out.trans (HW4.out.mono HXW.out.size)).block g (HXX.out.2 g hg)) HXX.out.1)) (fun g hg => by omega) HOK.out (by have := HWT.out; omega))
      go_wp2_with fail
      refine HFX.out.mono ?_
      rintro e w5 ⟨A2, n2, c2, rfl, hn2, hm2, hb2⟩
      have HBx5 := hidE hb2
      have hfr : freeE (.cs x [.mk [75] [X.data.toList] (.var X.data.toList)]) = freeE x := by unfold freeE; rw [fr_alt_own]
      have HNA := hidE (sc_names (freeE (.cs x [.mk [75] [X.data.toList] (.var X.data.toList)])) (freeE x) _ _ A1 A2 c1 c2 w5 (HM1.out.keep (fun _ h => h) (fun g hg => hb2.block g hg.2)) hm2 (by have := len_all x; have := HWT.out; rw [hfr]; omega))
      rw [← HN1.out, ← hn2, show decide (freeE (.cs x [.mk [75] [X.data.toList] (.var X.data.toList)]) = freeE x) = true from decide_eq_true hfr] at HNA
      have HW5 : Hid (Below W2.heap.size W2 w5) := hidE (HW4.out.trans (hb2.mono HW4.out.size))
      have hsw5 := HW5.out.size
      clear BB HFX hn2 hm2 hb2 hfr HM1 HN1 a0 a1 a2 a3 a4 a5 a6 a7 a8 y0 y1 y2 y3 y4 y5 y6 y7 y8 hl1 hl2
      go_wp2_with fail
      refine HNA.out.mono ?_
      rintro e w6 ⟨rfl, hb6⟩
      have HBx6 := hidE hb6
      have HW6 : Hid (Below W2.heap.size W2 w6) := hidE (HW5.out.trans (hb6.mono HW5.out.size))
      have hsw6 := HW6.out.size
      clear hb6 HNA
      have BB := hidE (Below.refl w6.heap.size w6)
      obtain ⟨⟨a0, a1, a2, a3, a4, a5, a6, a7, a8⟩, -, -⟩ := blk_facts9 (HBX3.out.below HW6.out (by omega))
      obtain ⟨⟨y0, y1, y2, y3, y4, y5, y6, y7, y8⟩, -, -⟩ := blk_facts9 (HBV.out.below HW6.out (by omega))
      have hl1 := lt_cell a0
      have hl2 := lt_cell y0
      have HC : Hid (∀ U : World, Below w6.heap.size w6 U → ∀ g1 g3 g2, Blk U g3 74 #[.string ⟨#[75]⟩, .slice (some ⟨g2, 0, none⟩) 1 1, .int .i64 1, .string X, .bool false, .int .i64 0, .string ⟨#[]⟩, .int .i64 0, .slice none 0 0, .slice none 0 0, .slice none 0 0] → Blk U g1 39 #[.int .i64 k, .string x0, .bool t, .int .i64 K, .string X0, .int .i64 Z, .slice B m q, .slice KA kn kc, .slice LA ln lc] → Blk U g2 9 #[.string X] → Calls Tryz.prog 33 #[.agg #[.int .i64 6, .string ⟨#[]⟩, .bool false, .int .i64 0, .string ⟨#[]⟩, .int .i64 0, .slice none 0 0, .slice (some ⟨g1, 0, none⟩) 1 1, .slice (some ⟨g3, 0, none⟩) 1 1]] U (NmsP w6 (boundE (.cs x [.mk [75] [X.data.toList] (.var X.data.toList)])))) := hidE (fun U hU g1 g3 g2 h3 h1 h2 => case_call 33 boundE sc_BoundP HW6.out hU HXX.out HXW.out HOK.out HWT.out HGD.out h1 h2 h3)
      go_wp2_with fail
      refine (HC.out _ (by (repeat first | (with_reducible exact BB.out) | (with_reducible refine Below.drew ?_) | (with_reducible refine Below.alloc ?_ (by have := BB.out.size; first | omega | (simp; done) | (simp; omega)) _))) _ _ _ (by first | exact alloc_at _ _ _ (by first | omega | (simp; done) | (simp; omega)) | exact alloc_below _ _ _ _ (alloc_at _ _ _ (by first | omega | (simp; done) | (simp; omega))) | exact alloc_below _ _ _ _ (alloc_below _ _ _ _ (alloc_at _ _ _ (by first | omega | (simp; done) | (simp; omega))))) (by first | exact alloc_at _ _ _ (by first | omega | (simp; done) | (simp; omega)) | exact alloc_below _ _ _ _ (alloc_at _ _ _ (by first | omega | (simp; done) | (simp; omega))) | exact alloc_below _ _ _ _ (alloc_below _ _ _ _ (alloc_at _ _ _ (by first | omega | (simp; done) | (simp; omega))))) (by first | exact alloc_at _ _ _ (by first | omega | (simp; done) | (simp; omega)) | exact alloc_below _ _ _ _ (alloc_at _ _ _ (by first | omega | (simp; done) | (simp; omega))) | exact alloc_below _ _ _ _ (alloc_below _ _ _ _ (alloc_at _ _ _ (by first | omega | (simp; done) | (simp; omega)))))).mono ?_
      rintro e w7 ⟨A3, n3, c3, rfl, hn3, hm3, hb3⟩
      have HN3 := hidE hn3
      have HM3 := hidE hm3
      have HB3 := hidE hb3
      have HW7 : Hid (Below W2.heap.size W2 w7) := hidE (HW6.out.trans (hb3.mono HW6.out.size))
      have hsw7 := HW7.out.size
      clear BB HC hn3 hm3 hb3 a0 a1 a2 a3 a4 a5 a6 a7 a8 y0 y1 y2 y3 y4 y5 y6 y7 y8 hl1 hl2
      have HHA := hidE (ref2_has (.slice A3 n3 c3) (boundE (.cs x [.mk [75] [X.data.toList] (.var X.data.toList)])) X w7 (nms_rowV HN3.out HM3.out (fun g hg => hg.2)) (by have h1 := len_all (.cs x [.mk [75] [X.data.toList] (.var X.data.toList)]); have h2 := HWT.out; simp [Ex.wt, wtA, Al.wt] at h1; omega))
      rw [show decide (X.data.toList ∈ boundE (.cs x [.mk [75] [X.data.toList] (.var X.data.toList)])) = true from decide_eq_true (mem_addA.2 (.inr (bis_alt_own _ _ _)))] at HHA
      clear HN3 HM3
      go_wp2_with fail
      refine HHA.out.mono ?_
      rintro e w8 ⟨rfl, rfl⟩
      clear HHA
      have BB := hidE (Below.refl w7.heap.size w7)
      obtain ⟨⟨a0, a1, a2, a3, a4, a5, a6, a7, a8⟩, -, -⟩ := blk_facts9 (HBX3.out.below HW7.out (by omega))
      obtain ⟨⟨y0, y1, y2, y3, y4, y5, y6, y7, y8⟩, -, -⟩ := blk_facts9 (HBV.out.below HW7.out (by omega))
      have hl1 := lt_cell a0
      have hl2 := lt_cell y0
      have HC : Hid (∀ U : World, Below w7.heap.size w7 U → ∀ g1 g3, Blk U g3 74 #[.string ⟨#[75]⟩, .slice none 0 0, .int .i64 1, .string X, .bool false, .int .i64 0, .string ⟨#[]⟩, .int .i64 0, .slice none 0 0, .slice none 0 0, .slice none 0 0] → Blk U g1 39 #[.int .i64 k, .string x0, .bool t, .int .i64 K, .string X0, .int .i64 Z, .slice B m q, .slice KA kn kc, .slice LA ln lc] → Calls Tryz.prog 31 #[.agg #[.int .i64 6, .string ⟨#[]⟩, .bool false, .int .i64 0, .string ⟨#[]⟩, .int .i64 0, .slice none 0 0, .slice (some ⟨g1, 0, none⟩) 1 1, .slice (some ⟨g3, 0, none⟩) 1 1]] U (NmsP w7 (consE (.cs x [.mk [75] [] (.var X.data.toList)])))) := hidE (fun U hU g1 g3 h3 h1 => case_call0 31 consE sc_ConsP HW7.out hU HXX.out HXW.out HOK.out HWT.out HGD.out h1 h3)
      go_wp2_with fail
      refine (HC.out _ (by (repeat first | (with_reducible exact BB.out) | (with_reducible refine Below.drew ?_) | (with_reducible refine Below.alloc ?_ (by have := BB.out.size; first | omega | (simp; done) | (simp; omega)) _))) _ _ (by first | exact alloc_at _ _ _ (by first | omega | (simp; done) | (simp; omega)) | exact alloc_below _ _ _ _ (alloc_at _ _ _ (by first | omega | (simp; done) | (simp; omega))) | exact alloc_below _ _ _ _ (alloc_below _ _ _ _ (alloc_at _ _ _ (by first | omega | (simp; done) | (simp; omega))))) (by first | exact alloc_at _ _ _ (by first | omega | (simp; done) | (simp; omega)) | exact alloc_below _ _ _ _ (alloc_at _ _ _ (by first | omega | (simp; done) | (simp; omega))) | exact alloc_below _ _ _ _ (alloc_below _ _ _ _ (alloc_at _ _ _ (by first | omega | (simp; done) | (simp; omega)))))).mono ?_
      rintro e w9 ⟨A4, n4, c4, rfl, hn4, hm4, hb4⟩
      have HN4 := hidE hn4
      have HM4 := hidE hm4
      have HB4 := hidE hb4
      have HW9 : Hid (Below W2.heap.size W2 w9) := hidE (HW7.out.trans (hb4.mono HW7.out.size))
      have hsw9 := HW9.out.size
      clear BB HC hn4 hm4 hb4 a0 a1 a2 a3 a4 a5 a6 a7 a8 y0 y1 y2 y3 y4 y5 y6 y7 y8 hl1 hl2
      have HHA := hidE (ref2_has (.slice A4 n4 c4) (consE (.cs x [.mk [75] [] (.var X.data.toList)])) ⟨#[75]⟩ w9 (nms_rowV HN4.out HM4.out (fun g hg => hg.2)) (by have h1 := len_all (.cs x [.mk [75] [] (.var X.data.toList)]); have h2 := HWT.out; simp [Ex.wt, wtA, Al.wt] at h1; omega))
      rw [show decide ((⟨#[75]⟩ : ByteArray).data.toList ∈ consE (.cs x [.mk [75] [] (.var X.data.toList)])) = true from decide_eq_true (mem_addA.2 (.inr (cns_alt_own _ _ _ _)))] at HHA
      have HB9 : Hid (Below w3.heap.size w3 w9) := hidE ((HB1.out.trans ((((HBx5.out.trans (HBx6.out.mono HBx5.out.size)).trans ((HB3.out.trans (HB4.out.mono HB3.out.size)).mono (HBx5.out.trans (HBx6.out.mono HBx5.out.size)).size))).mono HB1.out.size)))
      have hce : w9.cell? ⟨ga, 0, none⟩ = some (.string X) := (World.cell?_of_block (w := w3) (a := ⟨ga, 0, none⟩) (HB9.out.block ga HGA.out)).trans HCE.out
      have hgl := lt_cell hce
      have dq := strT X X rfl
      have HE := hidE (B3.out.trans (HW9.out.mono B3.out.size))
      clear HN4 HM4
      go_wp2_with fail
      refine HHA.out.mono ?_
      rintro e w10 ⟨rfl, rfl⟩
      clear HHA
      go_wp2_with fail
      go_ret
      exact ⟨rfl, HE.out⟩
end Go.Proofs.YtefldbbiajkbnaaGreatDoor
