/-
  ScopeRenamed: what it needs beside.
-/
import Derived.Test.YtefldbbiajkbnaaGreatDoorDaAR
import Derived.Deep.CutRange
namespace Go.Proofs.YtefldbbiajkbnaaGreatDoor
open Go.RowKit Lx Tx
set_option maxRecDepth 100000

/-- the three cells of token k -/
theorem RdT.at_ {w : World} {v : Value} {ts : List Tok} (h : RdT w v ts) (k : Nat) (hk : k < ts.length) :
    ∃ g c, v = .slice (some ⟨g, 0, none⟩) ts.length c ∧ w.cell? ⟨g, k * 3, none⟩ = some (.int .i64 (ts[k].kind : Nat)) ∧ w.cell? ⟨g, k * 3 + 1, none⟩ = some (.string ⟨ts[k].text.toArray⟩) ∧ w.cell? ⟨g, k * 3 + 2, none⟩ = some (.int .i64 (ts[k].at_ : Nat)) := by
  obtain ⟨A, c, hv, hp⟩ := h
  obtain ⟨g, rfl, _, hc⟩ := hp (by omega)
  have key : ∀ (ts : List Tok) (k : Nat) (hk : k < ts.length) (j : Nat), j < 3 → (toksV ts)[k * 3 + j]? = (tokV ts[k])[j]? := by
    intro ts
    induction ts with
    | nil => intro k hk; simp at hk
    | cons t r ih =>
      intro k hk j hj
      have hl : (tokV t).length = 3 := rfl
      show (tokV t ++ toksV r)[k * 3 + j]? = _
      cases k with
      | zero => rw [Nat.zero_mul, Nat.zero_add, List.getElem?_append_left (by omega)]; rfl
      | succ k =>
        rw [List.getElem?_append_right (by omega), hl, show (k + 1) * 3 + j - 3 = k * 3 + j by omega, ih k (by simpa using hk) j hj]
        rfl
  exact ⟨g, c, hv, hc _ _ ((key ts k hk 0 (by omega)).trans rfl), hc _ _ ((key ts k hk 1 (by omega)).trans rfl), hc _ _ ((key ts k hk 2 (by omega)).trans rfl)⟩

theorem alloc_at (w : World) (o : Obj) (g : Nat) (hg : g = w.heap.size) : (w.alloc o).heap[g]? = some o := by
  subst hg; exact heap_alloc_new w o



end Go.Proofs.YtefldbbiajkbnaaGreatDoor

namespace Go.Proofs.YtefldbbiajkbnaaGreatDoor
namespace Sx
open Lx Tx
mutual
def ren (p q : Nm) : Ex → Ex
  | .var x => .var (if x = p then q else x)
  | .con c => .con c
  | .lam x e => .lam x (if x = p then e else ren p q e)
  | .app a b => .app (ren p q a) (ren p q b)
  | .lt x t a b => .lt x t (ren p q a) (if x = p then b else ren p q b)
  | .cs e l => .cs (ren p q e) (renA p q l)
  | .ann e t => .ann (ren p q e) t
def ren1 (p q : Nm) : Al → Al
  | .mk c vs b => .mk c vs (if vs.contains p then b else ren p q b)
def renA (p q : Nm) : List Al → List Al
  | [] => []
  | a :: l => ren1 p q a :: renA p q l
end
def sw (p q : Nm) (l : List Nm) : List Nm := l.map fun y => if y = p then q else y
theorem sw_append (p q : Nm) (a b : List Nm) : sw p q (a ++ b) = sw p q a ++ sw p q b := by unfold sw; rw [List.map_append]
theorem sw_out {p q : Nm} {l : List Nm} (h : p ∉ l) : sw p q l = l := by
  unfold sw
  conv => rhs; rw [← List.map_id l]
  refine List.map_congr_left fun y hy => ?_
  have hn : ¬ y = p := fun e => h (e ▸ hy)
  rw [if_neg hn]; rfl
theorem but_sw {p q : Nm} {vs l : List Nm} (hp : p ∉ vs) (hq : q ∉ vs) : but vs (sw p q l) = sw p q (but vs l) := by
  unfold but sw
  rw [List.filter_map]
  congr 1
  refine List.filter_congr fun y _ => ?_
  show (!vs.contains (if y = p then q else y)) = _
  by_cases e : y = p
  · subst e; rw [if_pos rfl]; simp [hp, hq]
  · rw [if_neg e]
mutual
theorem fr_ren (p q : Nm) : ∀ e : Ex, q ∉ bis e → fr (ren p q e) = sw p q (fr e)
  | .var x, h => by unfold ren fr sw; rfl
  | .con x, h => by unfold ren fr sw; rfl
  | .lam x e, h => by
    unfold bis at h
    unfold ren fr
    by_cases hx : x = p
    · subst hx
      rw [if_pos rfl, sw_out]
      intro hm
      exact (mem_but.1 hm).2 (by simp)
    · rw [if_neg hx, fr_ren p q e (fun hm => h (by simp [hm])), but_sw (by simp; exact fun e => hx e.symm) (fun hm => h (by simp at hm; simp [hm]))]
  | .app a b, h => by
    unfold bis at h
    unfold ren fr
    rw [fr_ren p q a (fun hm => h (by simp [hm])), fr_ren p q b (fun hm => h (by simp [hm])), sw_append]
  | .lt x t a b, h => by
    unfold bis at h
    unfold ren fr
    rw [fr_ren p q a (fun hm => h (by simp [hm])), sw_append]
    by_cases hx : x = p
    · subst hx
      rw [if_pos rfl, sw_out (l := but [x] (fr b)) (fun hm => (mem_but.1 hm).2 (by simp))]
    · rw [if_neg hx, fr_ren p q b (fun hm => h (by simp [hm])), but_sw (by simp; exact fun e => hx e.symm) (fun hm => h (by simp at hm; simp [hm]))]
  | .cs e l, h => by
    unfold bis at h
    unfold ren fr
    rw [fr_ren p q e (fun hm => h (by simp [hm])), fr_renA p q l (fun hm => h (by simp [hm])), sw_append]
  | .ann e t, h => by
    unfold bis at h
    unfold ren fr
    exact fr_ren p q e h
theorem fr_ren1 (p q : Nm) : ∀ a : Al, q ∉ bis1 a → fr1 (ren1 p q a) = sw p q (fr1 a)
  | .mk c vs b, h => by
    unfold bis1 at h
    unfold ren1 fr1
    by_cases hx : p ∈ vs
    · rw [if_pos (by simpa using hx), sw_out (fun hm => (mem_but.1 hm).2 hx)]
    · rw [if_neg (by simpa using hx), fr_ren p q b (fun hm => h (by simp [hm])), but_sw hx (fun hm => h (by simp [hm]))]
theorem fr_renA (p q : Nm) : ∀ l : List Al, q ∉ bisA l → frA (renA p q l) = sw p q (frA l)
  | [], h => rfl
  | a :: l, h => by
    unfold bisA at h
    unfold renA frA
    rw [fr_ren1 p q a (fun hm => h (by simp [hm])), fr_renA p q l (fun hm => h (by simp [hm])), sw_append]
end
/-- ScopeRenamed -/
theorem fr_renamed {p q : Nm} {e : Ex} (hq : q ∉ fr e) (hb : q ∉ bis e) : fr (.lam q (ren p q e)) = fr (.lam p e) := by
  unfold fr
  rw [fr_ren p q e hb]
  unfold but sw
  rw [List.filter_map]
  have h1 : (fr e).filter ((fun y => !([q] : List Nm).contains y) ∘ fun y => if y = p then q else y) = (fr e).filter fun y => !([p] : List Nm).contains y := by
    refine List.filter_congr fun y hy => ?_
    show (!([q] : List Nm).contains (if y = p then q else y)) = _
    by_cases e1 : y = p
    · subst e1; simp
    · rw [if_neg e1]
      have : y ≠ q := fun e2 => hq (e2 ▸ hy)
      simp [e1, this]
  rw [h1]
  conv => rhs; rw [← List.map_id ((fr e).filter _)]
  refine List.map_congr_left fun y hy => ?_
  have := (List.mem_filter.1 hy).2
  rw [if_neg (fun e1 => by subst e1; simp at this)]; rfl
end Sx
end Go.Proofs.YtefldbbiajkbnaaGreatDoor

namespace Go.Proofs.YtefldbbiajkbnaaGreatDoor
open Go.RowKit Lx Tx Sx
set_option maxRecDepth 100000

theorem atG_ex {S : Nat → Prop} {w : World} : (l : List Ex) → ∀ g o, AtG pcE S w l g o ↔ ExsAt S w l g o
  | [], _, _ => by rw [AtG, ExsAt]
  | e :: r, g, o => by
    rw [AtG, ExsAt, atG_ex r g (o + pcE.n)]
    refine and_congr ⟨?_, ?_⟩ Iff.rfl
    · rintro ⟨cs, ⟨P, rfl, h2, h3⟩, h1⟩
      exact ⟨P, h1, h2, h3⟩
    · rintro ⟨P, h1, h2, h3⟩
      exact ⟨_, ⟨P, rfl, h2, h3⟩, h1⟩
end Go.Proofs.YtefldbbiajkbnaaGreatDoor

namespace Go.Proofs.YtefldbbiajkbnaaGreatDoor
open Go.RowKit Lx Tx Sx Go.Maps Go.WideMaps Go.Shelf
set_option maxRecDepth 100000

end Go.Proofs.YtefldbbiajkbnaaGreatDoor

namespace Go.Proofs.YtefldbbiajkbnaaGreatDoor
open Go.RowKit Lx Tx Sx Go.Maps Go.WideMaps Go.Shelf
set_option maxRecDepth 100000

set_option maxHeartbeats 3200000 in
theorem s9_word (s : ByteArray) (w : World) (hs : s.size ≤ maxLen) : Calls Tryz.prog 38 #[.string s] w fun e w' => ∃ q, e = .returned (.bool q) ∧ (q = true → Gd 1 s.data.toList) ∧ Below w.heap.size w w' := by
  have HSC := hidE (scan_any s w hs)
  clear hs
  go_enter Tryz.func38, Tryz.ntmps38
  go_wp2_with fail
  refine HSC.out.mono ?_
  rintro e w1 ⟨b1, v, ts, a, er, hsc, rfl, hown⟩
  have B1 := hidE b1
  by_cases he : er = 0
  · subst he
    obtain ⟨hG, hL⟩ := scan_good _ _ _ hsc
    have hr := RdT.of_own hown
    match ts, hG, hL, hr with
    | [], _, _, hr =>
      obtain ⟨A, c, rfl, -⟩ := hr
      clear hsc hown b1 HSC
      go_wp2_with fail
      go_ret
      exact ⟨false, rfl, (fun h => by cases h), B1.out⟩
    | [t], hG, hL, hr =>
      obtain ⟨g, c, rfl, f0, f1, -⟩ := hr.at_ 0 (by simp)
      obtain ⟨k, hk⟩ : ∃ k, t.kind = k := ⟨_, rfl⟩
      obtain ⟨X, hX⟩ : ∃ X : ByteArray, ⟨t.text.toArray⟩ = X := ⟨_, rfl⟩
      replace f0 : w1.cell? ⟨g, 0, none⟩ = some (.int .i64 (k : Nat)) := by rw [← hk]; simpa using f0
      replace f1 : w1.cell? ⟨g, 1, none⟩ = some (.string X) := by rw [← hX]; simpa using f1
      have hg := hG t (by simp)
      have hgl := lt_cell f0
      by_cases h1 : k = 1
      · subst h1
        have HGD : Hid (X = s → Gd 1 s.data.toList) := hidE (fun e => by
          rw [Lx.Good, hk] at hg
          rw [← e, ← hX]
          exact ⟨hg.1, hg.2.1, by decide⟩)
        clear hsc hown b1 HSC hG hL hr hk hX hg
        by_cases h2 : X = s
        · have dq := strT X s h2
          have HG := hidE (HGD.out h2)
          clear h2
          go_wp2_with fail
          go_ret
          exact ⟨true, rfl, (fun _ => HG.out), B1.out⟩
        · have dq := strF X s h2
          clear h2
          go_wp2_with fail
          go_ret
          exact ⟨false, rfl, (fun h => by cases h), B1.out⟩
      · have dk : ((k : Int) == 1) = false := by simp; omega
        clear hsc hown b1 HSC hG hL hr hk hX hg h1
        go_wp2_with fail
        go_ret
        exact ⟨false, rfl, (fun h => by cases h), B1.out⟩
    | t :: t2 :: r, hG, hL, hr =>
      obtain ⟨A, c, rfl, -⟩ := hr
      obtain ⟨n, hn⟩ : ∃ n, (t :: t2 :: r).length = n := ⟨_, rfl⟩
      have hn2 : 2 ≤ n := by rw [← hn]; simp
      rw [hn] at hL ⊢
      have dn : ((n : Int) == 1) = false := by simp; omega
      clear hsc hown b1 HSC hG hn hn2
      go_wp2_with fail
      go_ret
      exact ⟨false, rfl, (fun h => by cases h), B1.out⟩
  · have de : ((er : Int) == 0) = false := by simp; omega
    clear hsc hown b1 HSC he
    go_wp2_with fail
    go_ret
    exact ⟨false, rfl, (fun h => by cases h), B1.out⟩
end Go.Proofs.YtefldbbiajkbnaaGreatDoor

namespace Go.Proofs.YtefldbbiajkbnaaGreatDoor
open Go.RowKit Lx Tx Sx Go.Maps Go.WideMaps Go.Shelf
set_option maxRecDepth 100000

theorem NmsP.low {W U w' : World} {L : List Nm} {e : Ending} (h : NmsP U L e w') (hb : Below W.heap.size W U) : NmsP W L e w' := by
  obtain ⟨A, n, c, rfl, hn, hm, h2⟩ := h
  have := hb.size
  exact ⟨A, n, c, rfl, hn, hm.keep (fun g hg => ⟨by omega, hg.2⟩) (fun _ _ => rfl), hb.trans (h2.mono hb.size)⟩
theorem nms_rowV {S : Nat → Prop} {w : World} {L : List Nm} {A : Option Addr} {n c : Nat} (hn : n = L.length) (h : NmsIn S w L A) (hS : ∀ g, S g → g < w.heap.size) : RowV w (.slice A n c) (Go.Proofs.YtefldbbiajkbnaaGreatDoor.strV L) := by
  subst hn
  have hl : (Go.Proofs.YtefldbbiajkbnaaGreatDoor.strV L).length = L.length := by unfold Go.Proofs.YtefldbbiajkbnaaGreatDoor.strV; simp
  refine ⟨A, c, by rw [hl], fun h0 => ?_⟩
  rw [hl] at h0
  obtain ⟨g, hA, hg, hc⟩ := h (fun e => by rw [e] at h0; simp at h0)
  exact ⟨g, hA, hS g hg, fun j u hu => by have := hc j u hu; rwa [Nat.zero_add] at this⟩
end Go.Proofs.YtefldbbiajkbnaaGreatDoor

namespace Go.Proofs.YtefldbbiajkbnaaGreatDoor
open Go.RowKit Lx Tx Sx Go.Maps Go.WideMaps Go.Shelf
set_option maxRecDepth 100000

/-- is this kid of an expression left as it is? -/
def keptK (p : Nm) (e : Ex) (i : Nat) : Bool := decide (nmE e = p) && (decide (kdE e = 3) || (decide (kdE e = 5) && decide (i = 1)))
theorem ren_kids {p q : Nm} {e : Ex} {i : Nat} {x : Ex} (hx : (kidsE e)[i]? = some x) : (kidsE (ren p q e))[i]? = some (if keptK p e i = true then x else ren p q x) := by
  cases e with
  | var y => cases hx
  | con y => cases hx
  | lam y a =>
    match i, hx with
    | 0, hx =>
      obtain rfl : a = x := Option.some.inj hx
      by_cases h : y = p <;> simp [ren, kidsE, keptK, nmE, kdE, h]
  | app a b =>
    match i, hx with
    | 0, hx =>
      obtain rfl : a = x := Option.some.inj hx
      simp [ren, kidsE, keptK, nmE, kdE]
    | 1, hx =>
      obtain rfl : b = x := Option.some.inj hx
      simp [ren, kidsE, keptK, nmE, kdE]
  | lt y t a b =>
    match i, hx with
    | 0, hx =>
      obtain rfl : a = x := Option.some.inj hx
      simp [ren, kidsE, keptK, nmE, kdE]
    | 1, hx =>
      obtain rfl : b = x := Option.some.inj hx
      by_cases h : y = p <;> simp [ren, kidsE, keptK, nmE, kdE, h]
  | cs a l =>
    match i, hx with
    | 0, hx =>
      obtain rfl : a = x := Option.some.inj hx
      simp [ren, kidsE, keptK, nmE, kdE]
  | ann a t =>
    match i, hx with
    | 0, hx =>
      obtain rfl : a = x := Option.some.inj hx
      simp [ren, kidsE, keptK, nmE, kdE]
theorem renA_map (p q : Nm) : ∀ l : List Al, renA p q l = l.map (ren1 p q)
  | [] => rfl
  | a :: r => by rw [renA, List.map_cons, renA_map p q r]
theorem ren_alts (p q : Nm) (e : Ex) : altsE (ren p q e) = (altsE e).map (ren1 p q) := by
  cases e <;> simp [ren, altsE, renA_map]
theorem ren_klen (p q : Nm) (e : Ex) : (kidsE (ren p q e)).length = (kidsE e).length := by cases e <;> simp [ren, kidsE]
theorem ren_head {p : Nm} (q : Nm) {e : Ex} (h : e ≠ .var p) : kdE (ren p q e) = kdE e ∧ nmE (ren p q e) = nmE e ∧ toE (ren p q e) = toE e ∧ tyE (ren p q e) = tyE e := by
  cases e with
  | var y =>
    have : ¬ y = p := fun e => h (by rw [e])
    simp [ren, kdE, nmE, toE, tyE, this]
  | lt y t a b => cases t <;> simp [ren, kdE, nmE, toE, tyE]
  | con y => simp [ren, kdE, nmE, toE, tyE]
  | lam y a => simp [ren, kdE, nmE, toE, tyE]
  | app a b => simp [ren, kdE, nmE, toE, tyE]
  | cs a l => simp [ren, kdE, nmE, toE, tyE]
  | ann a t => simp [ren, kdE, nmE, toE, tyE]
theorem kidE_size {e x : Ex} {i : Nat} (hx : (kidsE e)[i]? = some x) : x.size < e.size := by
  have h := List.mem_of_getElem? hx
  cases e <;> simp [kidsE] at h <;> (try rcases h with rfl | rfl) <;> (try subst h) <;> simp only [Ex.size] <;> omega
theorem sizeA_mem {a : Al} : ∀ {l : List Al}, a ∈ l → a.size ≤ sizeA l
  | b :: r, h => by
    rw [sizeA]
    rcases List.mem_cons.1 h with rfl | h
    · omega
    · have := sizeA_mem h; omega
theorem oneE_size : ∀ e : Ex, 1 ≤ e.size := fun e => by cases e <;> simp only [Ex.size] <;> omega
theorem altE_size {e b : Ex} {c : Nm} {vs : List Nm} (h : Al.mk c vs b ∈ altsE e) : b.size < e.size := by
  cases e with
  | cs a l =>
    have h1 := sizeA_mem (show Al.mk c vs b ∈ l from h)
    have h2 := oneE_size a
    simp only [Ex.size, Al.size] at *
    omega
  | _ => cases h

/-- a row of the call's own, with these pieces: what lies behind them was there (in S), or was made since B and not in the row's block -/
def Rw {α : Type} (P : Pc α) (S : Nat → Prop) (B : Nat) (t : TypeId) (w : World) (l : List α) (v : Value) : Prop :=
  ∃ vs, w.ownsRow B t P.n v l.length vs ∧ RowG P (fun g => S g ∨ ((B ≤ g ∧ g < w.heap.size) ∧ some g ≠ v.ownBlock)) w l vs
theorem Rw.nil {α : Type} (P : Pc α) (S : Nat → Prop) (B : Nat) (t : TypeId) (w : World) : Rw P S B t w [] (.slice none 0 0) := ⟨[], World.ownsRow_nil _ _ _ _, by rw [RowG]⟩
/-- nothing from B on changes, nor what is behind -/
theorem Rw.keep {α : Type} {P : Pc α} {S : Nat → Prop} {B : Nat} {t : TypeId} {w w' : World} {l : List α} {v : Value} (h : Rw P S B t w l v) (hs : w.heap.size ≤ w'.heap.size) (hk : ∀ g, S g ∨ (B ≤ g ∧ g < w.heap.size) → w'.heap[g]? = w.heap[g]?) : Rw P S B t w' l v := by
  obtain ⟨vs, h1, h2⟩ := h
  refine ⟨vs, ?_, RowG.keep (fun g hg => hg.imp id fun hg => ⟨⟨hg.1.1, by have := hg.1.2; omega⟩, hg.2⟩) (fun g hg => hk g (hg.imp id fun hg => hg.1)) l vs h2⟩
  have hlt := h1.lt
  refine ⟨h1.1, h1.2.imp id ?_⟩
  rintro ⟨g, cap, cur, rfl, hb, hc, rest⟩
  exact ⟨g, cap, cur, rfl, hb, (hk g (.inr ⟨hb, lt_of_block hc⟩)).trans hc, rest⟩
/-- one more: w -(new blocks)-> w2 -(append)-> w3 -/
theorem Rw.next {α : Type} {P : Pc α} {S : Nat → Prop} {B : Nat} {t : TypeId} {w w2 w3 : World} {l : List α} {x : α} {v v' : Value} {vs cs : List Value} (hS : ∀ g, S g → g < B)
    (hown : w.ownsRow B t P.n v l.length vs) (hrow : RowG P (fun g => S g ∨ ((B ≤ g ∧ g < w.heap.size) ∧ some g ≠ v.ownBlock)) w l vs)
    (hx : P.Cs (fun g => S g ∨ ((B ≤ g ∧ g < w2.heap.size) ∧ some g ≠ v.ownBlock)) w2 x cs) (hB : B ≤ w.heap.size) (b2 : Below w.heap.size w w2)
    (ho : w3.ownsRow B t P.n v' (l.length + 1) (vs ++ cs)) (hg : w2.grownBy w3 v.ownBlock) (hat : v'.ownBlock = v.ownBlock ∨ v'.ownBlock = some w2.heap.size) : Rw P S B t w3 (l ++ [x]) v' := by
  have hlt := hown.lt
  have s2 := b2.size
  have s3 := hg.size
  have hne : ∀ g, g < w2.heap.size → some g ≠ v.ownBlock → some g ≠ v'.ownBlock := fun g h1 h2 => by
    rcases hat with h | h
    · rw [h]; exact h2
    · rw [h]; intro e; injection e with e; omega
  have hnS : ∀ g, S g → some g ≠ v.ownBlock := fun g h e => by have := (hlt g e.symm).1; have := hS g h; omega
  have hk : ∀ g, g < w2.heap.size → some g ≠ v.ownBlock → w3.heap[g]? = w2.heap[g]? := fun g h1 h2 => hg.block g h1 h2
  refine ⟨vs ++ cs, by rw [List.length_append]; exact ho, RowG.snoc (P.keep (fun g h => ?_) (fun g h => ?_) hx) l vs (RowG.keep (fun g h => ?_) (fun g h => ?_) l vs hrow)⟩
  · exact h.imp id fun h => ⟨⟨h.1.1, by have := h.1.2; omega⟩, hne g h.1.2 h.2⟩
  · rcases h with h | h
    · exact hk g (by have := hS g h; omega) (hnS g h)
    · exact hk g h.1.2 h.2
  · exact h.imp id fun h => ⟨⟨h.1.1, by have := h.1.2; omega⟩, hne g (by have := h.1.2; omega) h.2⟩
  · have h2 : g < w.heap.size ∧ some g ≠ v.ownBlock := by
      rcases h with h | h
      · exact ⟨by have := hS g h; omega, hnS g h⟩
      · exact ⟨h.1.2, h.2⟩
    exact (hk g (by omega) h2.2).trans (b2.block g h2.1)
/-- such a row is a list behind a slice -/
theorem Rw.lst {α : Type} {P : Pc α} {S : Nat → Prop} {B : Nat} {t : TypeId} {w : World} {l : List α} {A : Option Addr} {n c : Nat} (h : Rw P S B t w l (.slice A n c)) : n = l.length ∧ n ≤ c ∧ LstG P (fun g => S g ∨ (B ≤ g ∧ g < w.heap.size)) w l A := by
  obtain ⟨vs, h1, h2⟩ := h
  have hc := fun g hg => h1.cells (g := g) hg
  have hlt := h1.lt
  rcases h1.2 with ⟨h3, h0⟩ | ⟨g, cap, cur, h3, hh⟩
  · injection h3 with e1 e2 e3
    subst e1 e2 e3
    have hk : l = [] := by cases l with | nil => rfl | cons a b => simp at h0
    exact ⟨by rw [hk]; rfl, Nat.le_refl _, fun h => absurd hk h⟩
  · injection h3 with e1 e2 e3
    subst e1 e2 e3
    refine ⟨rfl, hh.2.2.1, fun h => ⟨g, rfl, .inr ⟨(hlt g rfl).1, (hlt g rfl).2⟩, RowG.lie l vs 0 (RowG.keep (fun _ h => h.imp id fun h => h.1) (fun _ _ => rfl) l vs h2) fun j u hu => ?_⟩⟩
    have hadd : (⟨g, 0, none⟩ : Addr).add j = ⟨g, j, none⟩ := by unfold Addr.add; split <;> simp_all
    have := hc g rfl j u hu
    rw [hadd] at this
    rw [Nat.zero_add]; exact this
end Go.Proofs.YtefldbbiajkbnaaGreatDoor

namespace Go.Proofs.YtefldbbiajkbnaaGreatDoor
open Go.RowKit Lx Tx Sx Go.Maps Go.WideMaps Go.Shelf
set_option maxRecDepth 100000

theorem blk_put {w : World} {g : Nat} {t : TypeId} {cs : Array Value} (h : Blk w g t cs) (i : Nat) (b : Value) : Blk (w.setCell ⟨g, i, none⟩ b) g t (cs.setIfInBounds i b) := heap_setCell_same w g i cs t b h
theorem kidE_wt {e x : Ex} {i : Nat} (hx : (kidsE e)[i]? = some x) : x.wt ≤ e.wt := by
  have h := List.mem_of_getElem? hx
  cases e <;> simp [kidsE] at h <;> (try rcases h with rfl | rfl) <;> (try subst h) <;> simp only [Ex.wt] <;> omega
theorem altsA_len : ∀ l : List Al, l.length ≤ wtA l
  | [] => Nat.le_refl _
  | .mk c vs b :: r => by
    have := altsA_len r
    simp only [List.length_cons, wtA, Al.wt]
    omega
theorem altsE_len (e : Ex) : (altsE e).length ≤ e.wt := by
  cases e with
  | cs a l =>
    have := altsA_len l
    simp only [altsE, Ex.wt]
    omega
  | _ => simp [altsE]
theorem wtA_mem {a : Al} : ∀ {l : List Al}, a ∈ l → a.wt ≤ wtA l
  | b :: r, h => by
    rw [wtA]
    rcases List.mem_cons.1 h with rfl | h
    · omega
    · have := wtA_mem h; omega
theorem altE_wt {e b : Ex} {c : Nm} {vs : List Nm} (h : Al.mk c vs b ∈ altsE e) : vs.length + b.wt ≤ e.wt := by
  cases e with
  | cs a l =>
    have h1 := wtA_mem (show Al.mk c vs b ∈ l from h)
    simp only [Ex.wt, Al.wt] at *
    omega
  | _ => cases h
/-- one more in a row whose slice lies in a cell of a block of the call's own -/
theorem row_next {α : Type} {P : Pc α} {S : Nat → Prop} {t t0 : TypeId} {b j : Nat} {W1 wr w2 w3 : World} {l : List α} {x : α} {v v' : Value} {vs cs : List Value} {cells : Array Value} (hS : ∀ g, S g → g < W1.heap.size ∧ g ≠ b) (hbW : b < W1.heap.size)
    (hC : Chg (only b) W1 wr) (hblk : Blk wr b t0 cells) (hown : wr.ownsRow W1.heap.size t P.n v l.length vs) (hrow : RowG P (fun g => S g ∨ ((W1.heap.size ≤ g ∧ g < wr.heap.size) ∧ some g ≠ v.ownBlock)) wr l vs)
    (b2 : Below wr.heap.size wr w2) (hx : P.Cs (fun g => S g ∨ (wr.heap.size ≤ g ∧ g < w2.heap.size)) w2 x cs)
    (ho : w3.ownsRow W1.heap.size t P.n v' (l.length + 1) (vs ++ cs)) (hg : w2.grownBy w3 v.ownBlock) (hat : v'.ownBlock = v.ownBlock ∨ v'.ownBlock = some w2.heap.size) :
    Chg (only b) W1 (w3.setCell ⟨b, j, none⟩ v') ∧ Blk (w3.setCell ⟨b, j, none⟩ v') b t0 (cells.setIfInBounds j v') ∧ Rw P S W1.heap.size t (w3.setCell ⟨b, j, none⟩ v') (l ++ [x]) v' := by
  have s1 := hC.size
  have hlt := hown.lt
  have hnb : some b ≠ v.ownBlock := fun e => by have := (hlt b e.symm).1; omega
  have hB := (hblk.below b2 (by omega)).grown hg hnb
  refine ⟨(((hC.below b2).grown hg (fun k hk => .inl (hlt k hk).1))).setCell (p := ⟨b, j, none⟩) (.inr rfl) _, blk_put hB j v', ?_⟩
  have hr : Rw P S W1.heap.size t w3 (l ++ [x]) v' := Rw.next (fun g h => (hS g h).1) hown hrow (P.keep (fun g h => h.imp id fun h => ⟨⟨by omega, h.2⟩, fun e => by have := (hlt g e.symm).2; omega⟩) (fun _ _ => rfl) hx) s1 b2 ho hg hat
  exact hr.keep (by simp) (fun g hg => Below.heap_setCell _ _ _ _ (by
    rcases hg with h | h
    · exact (hS g h).2
    · show g ≠ b
      omega))
/-- what renaming leaves -/
def RenP (S : Nat → Prop) (w : World) (r : Ex) (e : Ending) (w' : World) : Prop :=
  ∃ cs, shE cs ∧ e = .returned (.agg cs.toArray) ∧ pcE.Cs (fun g => S g ∨ (w.heap.size ≤ g ∧ g < w'.heap.size)) w' r cs ∧ Below w.heap.size w w'
def RenOK (P Q : ByteArray) (n : Nat) : Prop := ∀ (e : Ex) (S : Nat → Prop) (v : Value) (w : World), e.size ≤ n → RdX S w e v → (∀ g, S g → g < w.heap.size) → e.wt ≤ 9000 → Calls Tryz.prog 39 #[v, .string P, .string Q] w (RenP S w (ren P.data.toList Q.data.toList e))

/-- the name itself -/
theorem ren_hit (P Q : ByteArray) (S : Nat → Prop) (v : Value) (w : World) (hv : RdX S w (.var P.data.toList) v) : Calls Tryz.prog 39 #[v, .string P, .string Q] w (RenP S w (.var Q.data.toList)) := by
  obtain ⟨L, rfl, -, -⟩ := hv
  have hc : exC (.var P.data.toList) L = [.int .i64 1, .string P, .bool false, .int .i64 0, .string ⟨#[]⟩, .int .i64 0, .slice none 0 0, .slice L.K 0 L.k, .slice L.L 0 L.l] := by
    unfold exC
    simp [kdE, nmE, toE, tyE, kidsE, altsE, tyC, Sx.strV]
  rw [hc]
  obtain ⟨KA, hKA⟩ : ∃ y, L.K = y := ⟨_, rfl⟩
  obtain ⟨kc, hkc⟩ : ∃ y, L.k = y := ⟨_, rfl⟩
  obtain ⟨LA, hLA⟩ : ∃ y, L.L = y := ⟨_, rfl⟩
  obtain ⟨lc, hlc⟩ : ∃ y, L.l = y := ⟨_, rfl⟩
  rw [hKA, hkc, hLA, hlc]
  have dq := strT P P rfl
  have HD : Hid (∀ w', Below w.heap.size w w' → RenP S w (.var Q.data.toList) (.returned (.agg #[.int .i64 1, .string Q, .bool false, .int .i64 0, .string ⟨#[]⟩, .int .i64 0, .slice none 0 0, .slice KA 0 kc, .slice LA 0 lc])) w') := hidE (fun w' hb => by
    refine ⟨[.int .i64 1, .string Q, .bool false, .int .i64 0, .string ⟨#[]⟩, .int .i64 0, .slice none 0 0, .slice KA 0 kc, .slice LA 0 lc], ⟨_, _, _, _, _, _, _, _, _, _, _, _, _, _, _, rfl⟩, rfl, ⟨⟨none, 0, KA, kc, LA, lc⟩, ?_, trivial, by rw [ExIn]; trivial⟩, hb⟩
    unfold exC
    simp [kdE, nmE, toE, tyE, kidsE, altsE, tyC, Sx.strV])
  clear hc hKA hkc hLA hlc
  go_enter Tryz.func39, Tryz.ntmps39
  go_wp2_with fail
  try simp only [Exit.inBlock, Exit.then]
  refine bodyPost_ret (results_cell_row rfl _ _ (w.heap.size + 1) 39 _ (0, 0) _ rfl (two_top _ _ _ _ rfl) Tryz.underlying39 rfl (by kernel_rfl)) rfl ?_
  exact HD.out _ (((Below.refl _ w).alloc (Nat.le_refl _) _).alloc (by simp) _)

set_option maxHeartbeats 12800000 in
theorem ren_step (P Q : ByteArray) (n0 : Nat) (ih : RenOK P Q n0) (e : Ex) (S : Nat → Prop) (v : Value) (w : World) (hn : e.size ≤ n0 + 1) (hv : RdX S w e v) (hS : ∀ g, S g → g < w.heap.size) (hwt : e.wt ≤ 9000) (hne : e ≠ .var P.data.toList) :
    Calls Tryz.prog 39 #[v, .string P, .string Q] w (RenP S w (ren P.data.toList Q.data.toList e)) := by
  obtain ⟨L, rfl, hT, hI⟩ := hv
  obtain ⟨K, X, Z, B, m, q, htc⟩ := tyC_shape (tyE e) L.A L.a
  obtain ⟨N, hN⟩ : ∃ N : ByteArray, ⟨(nmE e).toArray⟩ = N := ⟨_, rfl⟩
  obtain ⟨k, hk⟩ : ∃ k, kdE e = k := ⟨_, rfl⟩
  obtain ⟨nk, hnk⟩ : ∃ k, (kidsE e).length = k := ⟨_, rfl⟩
  obtain ⟨na, hna⟩ : ∃ k, (altsE e).length = k := ⟨_, rfl⟩
  obtain ⟨T, hTo⟩ : ∃ k, toE e = k := ⟨_, rfl⟩
  obtain ⟨KA, hKA⟩ : ∃ y, L.K = y := ⟨_, rfl⟩
  obtain ⟨kc, hkc⟩ : ∃ y, L.k = y := ⟨_, rfl⟩
  obtain ⟨LA, hLA⟩ : ∃ y, L.L = y := ⟨_, rfl⟩
  obtain ⟨lc, hlc⟩ : ∃ y, L.l = y := ⟨_, rfl⟩
  have hc : exC e L = [.int .i64 (k : Nat), .string N, .bool T, .int .i64 K, .string X, .int .i64 Z, .slice B m q, .slice KA nk (nk + kc), .slice LA na lc] := by
    unfold exC
    rw [htc, hk, hnk, hna, hTo, hKA, hkc, hLA, hlc]
    simp [Sx.strV, hN]
  have HFIN : Hid (∀ (w' : World) (K2 L2 : Option Addr) (c2 l2 : Nat), nk ≤ c2 → Below w.heap.size w w' →
      LstG pcE (fun g => S g ∨ (w.heap.size ≤ g ∧ g < w'.heap.size)) w' (kidsE (ren P.data.toList Q.data.toList e)) K2 → LstG pcA (fun g => S g ∨ (w.heap.size ≤ g ∧ g < w'.heap.size)) w' (altsE (ren P.data.toList Q.data.toList e)) L2 →
      RenP S w (ren P.data.toList Q.data.toList e) (.returned (.agg #[.int .i64 (k : Nat), .string N, .bool T, .int .i64 K, .string X, .int .i64 Z, .slice B m q, .slice K2 nk c2, .slice L2 na l2])) w') := hidE (by
    intro w' K2 L2 c2 l2 hle hb hk2 hl2
    obtain ⟨h1, h2, h3, h4⟩ := ren_head Q.data.toList hne
    refine ⟨[.int .i64 (k : Nat), .string N, .bool T, .int .i64 K, .string X, .int .i64 Z, .slice B m q, .slice K2 nk c2, .slice L2 na l2], ⟨_, _, _, _, _, _, _, _, _, _, _, _, _, _, _, rfl⟩, rfl, ⟨⟨L.A, L.a, K2, c2 - nk, L2, l2⟩, ?_, ?_, ?_⟩, hb⟩
    · unfold exC
      rw [h1, h2, h3, h4, htc, ren_klen, ren_alts, List.length_map, hk, hnk, hna, hTo, show nk + (c2 - nk) = c2 by omega]
      simp [Sx.strV, hN]
    · rw [h4]
      exact hT.keep (fun _ h => .inl h) (fun g hg => hb.block g (hS g hg))
    · refine (kids_at _ _ _).2 ⟨fun h => ?_, fun h => ?_⟩
      · obtain ⟨g, a, b, c⟩ := hk2 h
        exact ⟨g, a, b, (atG_ex _ _ _).1 c⟩
      · obtain ⟨g, a, b, c⟩ := hl2 h
        exact ⟨g, a, b, (atG_al _ _ _).1 c⟩)
  have HKD : Hid (LstG pcE S w (kidsE e) KA) := hidE (fun h => by
    obtain ⟨g, a, b, c⟩ := ((kids_at _ _ _).1 hI).1 h
    exact ⟨g, hKA ▸ a, b, (atG_ex _ _ _).2 c⟩)
  have HAL : Hid (LstG pcA S w (altsE e) LA) := hidE (fun h => by
    obtain ⟨g, a, b, c⟩ := ((kids_at _ _ _).1 hI).2 h
    exact ⟨g, hLA ▸ a, b, (atG_al _ _ _).2 c⟩)
  have HHIT : Hid (k = 1 → ¬ N = P) := hidE (fun h1 h2 => by
    cases e with
    | var y =>
      refine hne ?_
      have := congrArg (fun b : ByteArray => b.data.toList) (hN.trans h2)
      rw [← this]
      simp [nmE]
    | _ => simp [kdE] at hk; omega)
  rw [hc]
  have HIH := hidE ih
  have HNN := hidE hn
  have HS := hidE hS
  have HWT := hidE hwt
  have HK := hidE hk
  have HNM := hidE hN
  have HNK := hidE hnk
  have HNA := hidE hna
  clear hc htc hTo hKA hkc hLA hlc hT hI ih hn hS hwt hk hN hnk hna hne
  go_enter Tryz.func39, Tryz.ntmps39
  go_upto_region 1 with fail
  obtain ⟨W0, hW0⟩ : ∃ y, (w.alloc (.cells #[.int .i64 (k : Nat), .string N, .bool T, .int .i64 K, .string X, .int .i64 Z, .slice B m q, .slice KA nk (nk + kc), .slice LA na lc] 39)).alloc (.cells #[.int .i64 0, .string ⟨#[]⟩, .bool false, .int .i64 0, .string ⟨#[]⟩, .int .i64 0, .slice none 0 0, .slice none 0 0, .slice none 0 0] 39) = y := ⟨_, rfl⟩
  have hb0 : Below w.heap.size w W0 := hW0 ▸ ((Below.refl _ w).alloc (Nat.le_refl _) _).alloc (by simp) _
  have hz0 : W0.heap.size = w.heap.size + 1 + 1 := by rw [← hW0]; simp
  have HB3 := hidE (hW0 ▸ Blk.alloc (heap_alloc_new w _) _ : Blk W0 w.heap.size 39 #[.int .i64 (k : Nat), .string N, .bool T, .int .i64 K, .string X, .int .i64 Z, .slice B m q, .slice KA nk (nk + kc), .slice LA na lc])
  have HB6 := hidE (hW0 ▸ two_top _ _ _ _ rfl : Blk W0 (w.heap.size + 1) 39 #[.int .i64 0, .string ⟨#[]⟩, .bool false, .int .i64 0, .string ⟨#[]⟩, .int .i64 0, .slice none 0 0, .slice none 0 0, .slice none 0 0])
  rw [hW0]
  clear hW0
  have HB0 := hidE hb0
  clear hb0
  go_cut [20] from 12 (fun v wx => v = .bool false ∧ wx = W0)
  case first =>
    obtain ⟨⟨g0, g1, g2, g3, g4, g5, g6, g7, g8⟩, -, -⟩ := blk_facts9 HB3.out
    by_cases h1 : k = 1
    · subst h1
      have dq := strF N P (HHIT.out rfl)
      go_wp2_with fail
      go_meet
      case rel => exact ⟨rfl, rfl⟩
    · have dk : ((k : Int) == 1) = false := by simp; omega
      clear h1
      go_wp2_with fail
      go_meet
      case rel => exact ⟨rfl, rfl⟩
  case rest =>
    obtain ⟨rfl, rfl⟩ := hcut
    obtain ⟨⟨g0, g1, g2, g3, g4, g5, g6, g7, g8⟩, -, -⟩ := blk_facts9 HB3.out
    go_upto_region 7 with fail
    obtain ⟨W1, hW1⟩ : ∃ y, wc.alloc (.cells #[.int .i64 (k : Nat), .string N, .bool T, .int .i64 K, .string X, .int .i64 Z, .slice B m q, .slice none 0 0, .slice none 0 0] 39) = y := ⟨_, rfl⟩
    have hz1 : W1.heap.size = w.heap.size + 1 + 1 + 1 := by rw [← hW1]; simp; omega
    have hbw1 : Below wc.heap.size wc W1 := hW1 ▸ (Below.refl _ _).alloc (Nat.le_refl _) _
    have HB7 : Hid (Blk W1 (w.heap.size + 1 + 1) 39 #[.int .i64 (k : Nat), .string N, .bool T, .int .i64 K, .string X, .int .i64 Z, .slice B m q, .slice none 0 0, .slice none 0 0]) := hidE (by
      have := hW1 ▸ heap_alloc_new wc _
      rw [hz0] at this
      exact this)
    replace HB3 := hidE (HB3.out.below hbw1 (by omega))
    replace HB6 := hidE (HB6.out.below hbw1 (by omega))
    replace HB0 := hidE (HB0.out.trans (hbw1.mono (by omega)))
    rw [hW1]
    clear hW1 hbw1 g0 g1 g2 g3 g4 g5 g6 g7 g8 hz0
    have HSN : Hid (∀ g, S g → g < W1.heap.size ∧ g ≠ w.heap.size + 1 + 1) := hidE (fun g hg => by have := HS.out g hg; exact ⟨by omega, by omega⟩)
    obtain ⟨i0, hi0, hz0, hz1', hz2⟩ := info_parts infoE
    have hk9 : nk ≤ 2 := by
      rw [← HNK.out]
      cases e <;> simp [kidsE]
    go_wp2_with fail
    go_loopg [8] nk (fun gg vi wr => ∃ (i : Nat) (A : Option Addr) (cp : Nat), gg = nk - i ∧ vi = .int .i64 (i : Nat) ∧ i ≤ nk ∧ Hid (Chg (only (w.heap.size + 1 + 1)) W1 wr) ∧
      Hid (Blk wr (w.heap.size + 1 + 1) 39 #[.int .i64 (k : Nat), .string N, .bool T, .int .i64 K, .string X, .int .i64 Z, .slice B m q, .slice A i cp, .slice none 0 0]) ∧
      Hid (Rw pcE S W1.heap.size 39 wr ((kidsE (ren P.data.toList Q.data.toList e)).take i) (.slice A i cp)))
    case atStart => exact ⟨0, none, 0, rfl, rfl, by omega, hidE (Chg.refl _ _), HB7, hidE (Rw.nil _ _ _ _ _)⟩
    case round =>
      obtain ⟨i, A, cp, rfl, rfl, hi, hC, hBL, hRW⟩ := hrel
      have hsr := hC.out.size
      have hb3 := HB3.out.chg hC.out (by unfold only; omega)
      obtain ⟨⟨g0, g1, g2, g3, g4, g5, g6, g7, g8⟩, -, -⟩ := blk_facts9 hb3
      by_cases hlt : i < nk
      · obtain ⟨x, hx⟩ : ∃ x, (kidsE e)[i]? = some x := ⟨_, List.getElem?_eq_getElem (by rw [HNK.out]; exact hlt)⟩
        have HX := hidE hx
        obtain ⟨r, hr⟩ : ∃ r, keptK P.data.toList e i = r := ⟨_, rfl⟩
        have HR := hidE hr
        have HK1 : Hid (N = P → k = 3 → r = true) := hidE (fun h1 h2 => by rw [← hr, keptK, HK.out, h2, show nmE e = P.data.toList by rw [← h1, ← HNM.out]]; simp)
        have HK2 : Hid (N = P → k = 5 → i = 1 → r = true) := hidE (fun h1 h2 h3 => by rw [← hr, keptK, HK.out, h2, h3, show nmE e = P.data.toList by rw [← h1, ← HNM.out]]; simp)
        have HK3 : Hid (¬ N = P → r = false) := hidE (fun h1 => by
          have : ¬ nmE e = P.data.toList := fun h => h1 (by rw [← HNM.out, h])
          rw [← hr, keptK, decide_eq_false this, Bool.false_and])
        have HK4 : Hid (k ≠ 3 → k ≠ 5 → r = false) := hidE (fun h1 h2 => by rw [← hr, keptK, HK.out]; simp [h1, h2])
        have HK5 : Hid (k ≠ 3 → i ≠ 1 → r = false) := hidE (fun h1 h2 => by rw [← hr, keptK, HK.out]; simp [h1, h2])
        clear hx hr
        have i0' : (0 : Int) ≤ (i : Int) := by omega
        go_upto_region 10 with fail
        obtain ⟨wv, hwv⟩ : ∃ y, y = wr := ⟨_, rfl⟩
        subst hwv
        go_cut [51] from 27 to 74 (fun v wx => v = .bool r ∧ wx = wv)
        case first =>
          by_cases hq : N = P
          · have dq := strT N P hq
            by_cases h3 : k = 3
            · obtain rfl := HK1.out hq h3
              subst h3
              clear hq
              go_wp2_with fail
              go_meet
              case rel => exact ⟨rfl, rfl⟩
            · have d3 : ((k : Int) == 3) = false := by simp; omega
              by_cases h5 : k = 5
              · by_cases h1 : i = 1
                · obtain rfl := HK2.out hq h5 h1
                  subst h5 h1
                  clear hq
                  go_wp2_with fail
                  go_meet
                  case rel => exact ⟨rfl, rfl⟩
                · obtain rfl := HK5.out h3 h1
                  have d1 : ((i : Int) == 1) = false := by simp; omega
                  subst h5
                  clear hq h1
                  go_wp2_with fail
                  go_meet
                  case rel => exact ⟨rfl, rfl⟩
              · obtain rfl := HK4.out h3 h5
                have d5 : ((k : Int) == 5) = false := by simp; omega
                clear hq h3 h5
                go_wp2_with fail
                go_meet
                case rel => exact ⟨rfl, rfl⟩
          · have dq := strF N P hq
            obtain rfl := HK3.out hq
            clear hq
            go_wp2_with fail
            go_meet
            case rel => exact ⟨rfl, rfl⟩
        case rest =>
          obtain ⟨rfl, rfl⟩ := hcut
          obtain ⟨g, cs, rfl, hSg, hcs, hrow⟩ := HKD.out.row i x HX.out
          obtain ⟨Px, rfl, hTx, hIx⟩ := hcs
          obtain ⟨yk, yx, yt, yK, yX, yZ, yB, ym, yq, yA, yn, yc, yL, yl, yd, hs⟩ := exC_shape x Px
          rw [hs] at hrow
          have HCS : Hid (pcE.Cs S w x [.int .i64 yk, .string yx, .bool yt, .int .i64 yK, .string yX, .int .i64 yZ, .slice yB ym yq, .slice yA yn yc, .slice yL yl yd]) := hidE ⟨Px, hs.symm, hTx, hIx⟩
          have HSG := hidE hSg
          have HRO := hidE hrow
          have hgk : wc.heap[g]? = w.heap[g]? := (hC.out.block g (by have := HS.out g hSg; omega) (by have := HS.out g hSg; unfold only; omega)).trans (HB0.out.block g (HS.out g hSg))
          have hgl : g < w.heap.size := HS.out g hSg
          have hr2 := Lie.keep (w := w) hrow hgk
          have f0 : wc.cell? ⟨g, i * 9, none⟩ = some (.int .i64 yk) := hr2 0 _ rfl
          have f1 : wc.cell? ⟨g, i * 9 + 1, none⟩ = some (.string yx) := hr2 1 _ rfl
          have f2 : wc.cell? ⟨g, i * 9 + 2, none⟩ = some (.bool yt) := hr2 2 _ rfl
          have f3 : wc.cell? ⟨g, i * 9 + 3, none⟩ = some (.int .i64 yK) := hr2 3 _ rfl
          have f4 : wc.cell? ⟨g, i * 9 + 4, none⟩ = some (.string yX) := hr2 4 _ rfl
          have f5 : wc.cell? ⟨g, i * 9 + 5, none⟩ = some (.int .i64 yZ) := hr2 5 _ rfl
          have f6 : wc.cell? ⟨g, i * 9 + 6, none⟩ = some (.slice yB ym yq) := hr2 6 _ rfl
          have f7 : wc.cell? ⟨g, i * 9 + 7, none⟩ = some (.slice yA yn yc) := hr2 7 _ rfl
          have f8 : wc.cell? ⟨g, i * 9 + 8, none⟩ = some (.slice yL yl yd) := hr2 8 _ rfl
          have HTL : Hid (((kidsE (ren P.data.toList Q.data.toList e)).take i).length = i) := hidE (by rw [List.length_take, ren_klen, HNK.out]; omega)
          have HTK : Hid ((kidsE (ren P.data.toList Q.data.toList e)).take (i + 1) = (kidsE (ren P.data.toList Q.data.toList e)).take i ++ [if r = true then x else ren P.data.toList Q.data.toList x]) := hidE (by rw [List.take_add_one, ren_kids HX.out, HR.out]; rfl)
          obtain ⟨vs, hown, hrv⟩ := hRW.out
          have HOW := hidE hown
          rw [HTL.out] at hown
          have HOI := hidE hown
          have HRV := hidE hrv
          have hnb : some (w.heap.size + 1 + 1) ≠ (Value.slice A i cp).ownBlock := fun e => by have := (hown.lt _ e.symm).1; omega
          have hn3 : some w.heap.size ≠ (Value.slice A i cp).ownBlock := fun e => by have := (hown.lt _ e.symm).1; omega
          have hng : some g ≠ (Value.slice A i cp).ownBlock := fun e => by have := (hown.lt _ e.symm).1; omega
          have HNB := hidE hnb
          have HN3 := hidE hn3
          have HNG := hidE hng
          obtain ⟨⟨-, -, -, -, -, -, -, c7, c8⟩, ⟨-, -, -, -, -, -, -, z7, -⟩, l7⟩ := blk_facts9 hBL.out
          have HLD : Hid (∀ U : World, U.heap[w.heap.size]? = wc.heap[w.heap.size]? → U.heap[g]? = wc.heap[g]? → (U.cell? ⟨w.heap.size, 7, none⟩ = some (.slice (some ⟨g, 0, none⟩) nk (nk + kc)) ∧ U.cell? ⟨g, i * 9, none⟩ = some (.int .i64 yk) ∧ U.cell? ⟨g, i * 9 + 1, none⟩ = some (.string yx) ∧ U.cell? ⟨g, i * 9 + 2, none⟩ = some (.bool yt) ∧ U.cell? ⟨g, i * 9 + 3, none⟩ = some (.int .i64 yK) ∧ U.cell? ⟨g, i * 9 + 4, none⟩ = some (.string yX) ∧ U.cell? ⟨g, i * 9 + 5, none⟩ = some (.int .i64 yZ) ∧ U.cell? ⟨g, i * 9 + 6, none⟩ = some (.slice yB ym yq) ∧ U.cell? ⟨g, i * 9 + 7, none⟩ = some (.slice yA yn yc) ∧ U.cell? ⟨g, i * 9 + 8, none⟩ = some (.slice yL yl yd))) := hidE (fun U h1 h2 => ⟨cell_keep g7 h1, cell_keep f0 h2, cell_keep f1 h2, cell_keep f2 h2, cell_keep f3 h2, cell_keep f4 h2, cell_keep f5 h2, cell_keep f6 h2, cell_keep f7 h2, cell_keep f8 h2⟩)
          have HCW : Hid (pcE.Cs S wc x [.int .i64 yk, .string yx, .bool yt, .int .i64 yK, .string yX, .int .i64 yZ, .slice yB ym yq, .slice yA yn yc, .slice yL yl yd]) := hidE (pcE.keep (fun _ h => h) (fun a ha => (hC.out.block a (by have := HS.out a ha; omega) (by have := HS.out a ha; unfold only; omega)).trans (HB0.out.block a (HS.out a ha))) HCS.out)
          clear hSg hrow hs hTx hIx hr2 hgk hown hrv hnb hn3 hng hb3 HCS hRW
          cases r with
          | true =>
            rw [if_pos rfl] at HTK
            have HO3 := hidE (HOI.out.alloc (.cells [.int .i64 yk, .string yx, .bool yt, .int .i64 yK, .string yX, .int .i64 yZ, .slice yB ym yq, .slice yA yn yc, .slice yL yl yd].toArray 39))
            go_upto_region 11 with fail
            refine wp_region_held_drew (S := fun U : World => U.cell? ⟨w.heap.size, 7, none⟩ = some (.slice (some ⟨g, 0, none⟩) nk (nk + kc)) ∧ U.cell? ⟨g, i * 9, none⟩ = some (.int .i64 yk) ∧ U.cell? ⟨g, i * 9 + 1, none⟩ = some (.string yx) ∧ U.cell? ⟨g, i * 9 + 2, none⟩ = some (.bool yt) ∧ U.cell? ⟨g, i * 9 + 3, none⟩ = some (.int .i64 yK) ∧ U.cell? ⟨g, i * 9 + 4, none⟩ = some (.string yX) ∧ U.cell? ⟨g, i * 9 + 5, none⟩ = some (.int .i64 yZ) ∧ U.cell? ⟨g, i * 9 + 6, none⟩ = some (.slice yB ym yq) ∧ U.cell? ⟨g, i * 9 + 7, none⟩ = some (.slice yA yn yc) ∧ U.cell? ⟨g, i * 9 + 8, none⟩ = some (.slice yL yl yd)) (by kernel_rfl) ?_ (fun hHeld => ?_)
            · exact HLD.out _ rfl rfl
            refine takeH (i := 0) (d := 52) (v := ?_) rfl rfl (by kernel_rfl) (by kernel_rfl) (by kernel_rfl) (fun _ _ _ h => h) (Or.inl ⟨by rfl, ?_⟩) (by assumption) ?_
            rotate_left 1
            · (intro w hSw; (try dsimp only at hSw); go_simp; (try with_reducible rfl))
            simp only [List.setIfInBounds_toArray, List.set_cons_zero, List.set_cons_succ]
            refine takeH (i := 2) (d := 54) (v := ?_) rfl rfl (by kernel_rfl) (by kernel_rfl) (by kernel_rfl) (fun _ _ _ h => h) (Or.inl ⟨by rfl, ?_⟩) (by assumption) ?_
            rotate_left 1
            · (intro w hSw; (try dsimp only at hSw); go_simp; (try with_reducible rfl))
            simp only [List.setIfInBounds_toArray, List.set_cons_zero, List.set_cons_succ]
            refine takeH (i := 3) (d := 55) (v := ?_) rfl rfl (by kernel_rfl) (by kernel_rfl) (by kernel_rfl) (fun _ _ _ h => h) (Or.inl ⟨by rfl, ?_⟩) (by assumption) ?_
            rotate_left 1
            · (intro w hSw; (try dsimp only at hSw); go_simp; (try with_reducible rfl))
            simp only [List.setIfInBounds_toArray, List.set_cons_zero, List.set_cons_succ]
            refine takeH (i := 4) (d := 56) (v := ?_) rfl rfl (by kernel_rfl) (by kernel_rfl) (by kernel_rfl) (fun _ _ _ h => h) (Or.inl ⟨by rfl, ?_⟩) (by assumption) ?_
            rotate_left 1
            · (intro w hSw; (try dsimp only at hSw); go_simp; (try with_reducible rfl))
            simp only [List.setIfInBounds_toArray, List.set_cons_zero, List.set_cons_succ]
            refine takeH (i := 5) (d := 57) (v := ?_) rfl rfl (by kernel_rfl) (by kernel_rfl) (by kernel_rfl) (fun _ _ _ h => h) (Or.inl ⟨by rfl, ?_⟩) (by assumption) ?_
            rotate_left 1
            · (intro w hSw; (try dsimp only at hSw); go_simp; (try with_reducible rfl))
            simp only [List.setIfInBounds_toArray, List.set_cons_zero, List.set_cons_succ]
            refine takeH (i := 6) (d := 58) (v := ?_) rfl rfl (by kernel_rfl) (by kernel_rfl) (by kernel_rfl) (fun _ _ _ h => h) (Or.inl ⟨by rfl, ?_⟩) (by assumption) ?_
            rotate_left 1
            · (intro w hSw; (try dsimp only at hSw); go_simp; (try with_reducible rfl))
            simp only [List.setIfInBounds_toArray, List.set_cons_zero, List.set_cons_succ]
            refine wpAnyH_ready (rs := [1, 7]) (by kernel_rfl) (by simp) ?_
            refine AllReadyH.cons (i := 1) rfl (fun K hK => ?_) ?_
            · go_simp
              refine hK.out _ _ ?_ (fun hHeld => ?_)
              · try dsimp only
                first | exact HLD.out _ rfl rfl | exact HLD.out _ (Below.heap_alloc _ _ _ (by omega)) (Below.heap_alloc _ _ _ (by omega))
              clear hK K
              refine wpAnyH_ready (rs := [7]) (by kernel_rfl) (by simp) ?_
              refine AllReadyH.cons (i := 7) rfl (fun K hK => ?_) ?_
              · go_simp
                refine hK.out _ _ ?_ (fun hHeld => ?_)
                · try dsimp only
                  first | exact HLD.out _ rfl rfl | exact HLD.out _ (Below.heap_alloc _ _ _ (by omega)) (Below.heap_alloc _ _ _ (by omega))
                clear hK K
                refine wpAnyH_ready (rs := [8]) (by kernel_rfl) (by simp) ?_
                refine AllReadyH.cons (i := 8) rfl (fun K hK => ?_) ?_
                · skip
                  refine step_append_lies _ rfl (.tmp 53) (.tmp 59) 36 rfl W1.heap.size 39 i0 _ 9 136 Tryz.underlying36 hi0 hz0 hz1' hz2 rfl (by decide) _ i vs rfl HO3.out ⟨wc.heap.size, 0, none⟩ 1 1 [.int .i64 yk, .string yx, .bool yt, .int .i64 yK, .string yX, .int .i64 yZ, .slice yB ym yq, .slice yA yn yc, .slice yL yl yd] rfl rfl (World.news_of_block (heap_alloc_new _ _)) (by intro u hu; simp at hu; rcases hu with rfl | rfl | rfl | rfl | rfl | rfl | rfl | rfl | rfl <;> rfl) (by decide) (by unfold maxLen; omega) (by omega) (by simp; omega) _ rfl ?_
                  intro g3 c3 w5 hown5 hgrow hat5 hlt5
                  have hb5 := ((hBL.out).alloc (.cells [.int .i64 yk, .string yx, .bool yt, .int .i64 yK, .string yX, .int .i64 yZ, .slice yB ym yq, .slice yA yn yc, .slice yL yl yd].toArray 39)).drew.grown hgrow HNB.out
                  have HNX := hidE (row_next (P := pcE) (j := 7) (v := .slice A i cp) (v' := .slice (some ⟨g3, 0, none⟩) (i + 1) c3) (x := x) (cs := [.int .i64 yk, .string yx, .bool yt, .int .i64 yK, .string yX, .int .i64 yZ, .slice yB ym yq, .slice yA yn yc, .slice yL yl yd]) HSN.out (by omega) hC.out hBL.out HOW.out HRV.out (((Below.refl _ wc).alloc (Nat.le_refl _) (.cells [.int .i64 yk, .string yx, .bool yt, .int .i64 yK, .string yX, .int .i64 yZ, .slice yB ym yq, .slice yA yn yc, .slice yL yl yd].toArray 39)).drew) (pcE.keep (fun a h => .inl h) (fun a ha => Below.heap_alloc _ _ _ (by have := HS.out a ha; omega)) HCW.out) (by rw [HTL.out]; exact hown5) hgrow (hat5.elim (fun h => .inl h.symm) (fun h => .inr (congrArg some h))))
                  have HK5a : Hid (w5.heap[w.heap.size]? = wc.heap[w.heap.size]?) := hidE ((hgrow.block _ (by simp; omega) HN3.out).trans (Below.heap_alloc _ _ _ (by omega)))
                  have HK5b : Hid (w5.heap[g]? = wc.heap[g]?) := hidE ((hgrow.block _ (by simp; omega) HNG.out).trans (Below.heap_alloc _ _ _ (by omega)))
                  clear c7 c8 z7 l7
                  obtain ⟨⟨-, -, -, -, -, -, -, c7, c8⟩, ⟨-, -, -, -, -, -, -, z7, -⟩, l7⟩ := blk_facts9 hb5
                  clear hown5 hgrow hat5 hb5
                  go_simp
                  refine hK.out _ _ ?_ (fun hHeld => ?_)
                  · try dsimp only
                    exact HLD.out _ HK5a.out HK5b.out
                  clear hK K
                  refine takeH (i := 9) (d := 61) (v := ?_) rfl rfl (by kernel_rfl) (by kernel_rfl) (by kernel_rfl) (fun _ _ _ h => h) (Or.inl ⟨by rfl, ?_⟩) (by assumption) ?_
                  rotate_left 1
                  · (intro w hSw; (try dsimp only at hSw); go_simp; (try with_reducible rfl))
                  simp only [List.setIfInBounds_toArray, List.set_cons_zero, List.set_cons_succ]
                  refine wpAnyH_ready (rs := [10]) (by kernel_rfl) (by simp) ?_
                  refine AllReadyH.cons (i := 10) rfl (fun K hK => ?_) ?_
                  · go_simp
                    refine hK.out _ _ ?_ (fun hHeld => ?_)
                    · try dsimp only
                      exact HLD.out _ ((Below.heap_setCell _ _ _ _ (by dsimp only; omega)).trans HK5a.out) ((Below.heap_setCell _ _ _ _ (by dsimp only; omega)).trans HK5b.out)
                    clear hK K
                    refine wpAnyH_done (by kernel_rfl) ?_ _
                    go_wp2_with fail
                    go_roundg (nk - (i + 1))
                    case measure => omega
                    case rel => exact ⟨i + 1, some ⟨g3, 0, none⟩, c3, rfl, by go_num, by omega, hidE HNX.out.1, hidE (by simpa using HNX.out.2.1), hidE (HTK.out ▸ HNX.out.2.2)⟩
                  exact AllReadyH.nil
                exact AllReadyH.nil
              exact AllReadyH.nil
            refine AllReadyH.cons (i := 7) rfl (fun K hK => ?_) ?_
            · go_simp
              refine hK.out _ _ ?_ (fun hHeld => ?_)
              · try dsimp only
                first | exact HLD.out _ rfl rfl | exact HLD.out _ (Below.heap_alloc _ _ _ (by omega)) (Below.heap_alloc _ _ _ (by omega))
              clear hK K
              refine wpAnyH_ready (rs := [1]) (by kernel_rfl) (by simp) ?_
              refine AllReadyH.cons (i := 1) rfl (fun K hK => ?_) ?_
              · go_simp
                refine hK.out _ _ ?_ (fun hHeld => ?_)
                · try dsimp only
                  first | exact HLD.out _ rfl rfl | exact HLD.out _ (Below.heap_alloc _ _ _ (by omega)) (Below.heap_alloc _ _ _ (by omega))
                clear hK K
                refine wpAnyH_ready (rs := [8]) (by kernel_rfl) (by simp) ?_
                refine AllReadyH.cons (i := 8) rfl (fun K hK => ?_) ?_
                · skip
                  refine step_append_lies _ rfl (.tmp 53) (.tmp 59) 36 rfl W1.heap.size 39 i0 _ 9 136 Tryz.underlying36 hi0 hz0 hz1' hz2 rfl (by decide) _ i vs rfl HO3.out ⟨wc.heap.size, 0, none⟩ 1 1 [.int .i64 yk, .string yx, .bool yt, .int .i64 yK, .string yX, .int .i64 yZ, .slice yB ym yq, .slice yA yn yc, .slice yL yl yd] rfl rfl (World.news_of_block (heap_alloc_new _ _)) (by intro u hu; simp at hu; rcases hu with rfl | rfl | rfl | rfl | rfl | rfl | rfl | rfl | rfl <;> rfl) (by decide) (by unfold maxLen; omega) (by omega) (by simp; omega) _ rfl ?_
                  intro g3 c3 w5 hown5 hgrow hat5 hlt5
                  have hb5 := ((hBL.out).alloc (.cells [.int .i64 yk, .string yx, .bool yt, .int .i64 yK, .string yX, .int .i64 yZ, .slice yB ym yq, .slice yA yn yc, .slice yL yl yd].toArray 39)).drew.grown hgrow HNB.out
                  have HNX := hidE (row_next (P := pcE) (j := 7) (v := .slice A i cp) (v' := .slice (some ⟨g3, 0, none⟩) (i + 1) c3) (x := x) (cs := [.int .i64 yk, .string yx, .bool yt, .int .i64 yK, .string yX, .int .i64 yZ, .slice yB ym yq, .slice yA yn yc, .slice yL yl yd]) HSN.out (by omega) hC.out hBL.out HOW.out HRV.out (((Below.refl _ wc).alloc (Nat.le_refl _) (.cells [.int .i64 yk, .string yx, .bool yt, .int .i64 yK, .string yX, .int .i64 yZ, .slice yB ym yq, .slice yA yn yc, .slice yL yl yd].toArray 39)).drew) (pcE.keep (fun a h => .inl h) (fun a ha => Below.heap_alloc _ _ _ (by have := HS.out a ha; omega)) HCW.out) (by rw [HTL.out]; exact hown5) hgrow (hat5.elim (fun h => .inl h.symm) (fun h => .inr (congrArg some h))))
                  have HK5a : Hid (w5.heap[w.heap.size]? = wc.heap[w.heap.size]?) := hidE ((hgrow.block _ (by simp; omega) HN3.out).trans (Below.heap_alloc _ _ _ (by omega)))
                  have HK5b : Hid (w5.heap[g]? = wc.heap[g]?) := hidE ((hgrow.block _ (by simp; omega) HNG.out).trans (Below.heap_alloc _ _ _ (by omega)))
                  clear c7 c8 z7 l7
                  obtain ⟨⟨-, -, -, -, -, -, -, c7, c8⟩, ⟨-, -, -, -, -, -, -, z7, -⟩, l7⟩ := blk_facts9 hb5
                  clear hown5 hgrow hat5 hb5
                  go_simp
                  refine hK.out _ _ ?_ (fun hHeld => ?_)
                  · try dsimp only
                    exact HLD.out _ HK5a.out HK5b.out
                  clear hK K
                  refine takeH (i := 9) (d := 61) (v := ?_) rfl rfl (by kernel_rfl) (by kernel_rfl) (by kernel_rfl) (fun _ _ _ h => h) (Or.inl ⟨by rfl, ?_⟩) (by assumption) ?_
                  rotate_left 1
                  · (intro w hSw; (try dsimp only at hSw); go_simp; (try with_reducible rfl))
                  simp only [List.setIfInBounds_toArray, List.set_cons_zero, List.set_cons_succ]
                  refine wpAnyH_ready (rs := [10]) (by kernel_rfl) (by simp) ?_
                  refine AllReadyH.cons (i := 10) rfl (fun K hK => ?_) ?_
                  · go_simp
                    refine hK.out _ _ ?_ (fun hHeld => ?_)
                    · try dsimp only
                      exact HLD.out _ ((Below.heap_setCell _ _ _ _ (by dsimp only; omega)).trans HK5a.out) ((Below.heap_setCell _ _ _ _ (by dsimp only; omega)).trans HK5b.out)
                    clear hK K
                    refine wpAnyH_done (by kernel_rfl) ?_ _
                    go_wp2_with fail
                    go_roundg (nk - (i + 1))
                    case measure => omega
                    case rel => exact ⟨i + 1, some ⟨g3, 0, none⟩, c3, rfl, by go_num, by omega, hidE HNX.out.1, hidE (by simpa using HNX.out.2.1), hidE (HTK.out ▸ HNX.out.2.2)⟩
                  exact AllReadyH.nil
                exact AllReadyH.nil
              exact AllReadyH.nil
            exact AllReadyH.nil
          | false =>
            rw [if_neg (by decide)] at HTK
            have HCALL := hidE (HIH.out x S _ wc.drew (by have := kidE_size HX.out; have := HNN.out; omega) (rdX_cs.2 (pcE.keep (w := wc) (w' := wc.drew) (S' := S) (fun _ h => h) (fun _ _ => rfl) HCW.out)) (fun a ha => by have := HS.out a ha; show a < wc.heap.size; omega) (by have := kidE_wt HX.out; have := HWT.out; omega))
            go_upto_region 12 with fail
            refine wp_region_held_drew (S := fun U : World => U.cell? ⟨w.heap.size, 7, none⟩ = some (.slice (some ⟨g, 0, none⟩) nk (nk + kc)) ∧ U.cell? ⟨g, i * 9, none⟩ = some (.int .i64 yk) ∧ U.cell? ⟨g, i * 9 + 1, none⟩ = some (.string yx) ∧ U.cell? ⟨g, i * 9 + 2, none⟩ = some (.bool yt) ∧ U.cell? ⟨g, i * 9 + 3, none⟩ = some (.int .i64 yK) ∧ U.cell? ⟨g, i * 9 + 4, none⟩ = some (.string yX) ∧ U.cell? ⟨g, i * 9 + 5, none⟩ = some (.int .i64 yZ) ∧ U.cell? ⟨g, i * 9 + 6, none⟩ = some (.slice yB ym yq) ∧ U.cell? ⟨g, i * 9 + 7, none⟩ = some (.slice yA yn yc) ∧ U.cell? ⟨g, i * 9 + 8, none⟩ = some (.slice yL yl yd)) (by kernel_rfl) ?_ (fun hHeld => ?_)
            · exact HLD.out _ rfl rfl
            refine takeH (i := 0) (d := 62) (v := ?_) rfl rfl (by kernel_rfl) (by kernel_rfl) (by kernel_rfl) (fun _ _ _ h => h) (Or.inl ⟨by rfl, ?_⟩) (by assumption) ?_
            rotate_left 1
            · (intro w hSw; (try dsimp only at hSw); go_simp; (try with_reducible rfl))
            simp only [List.setIfInBounds_toArray, List.set_cons_zero, List.set_cons_succ]
            refine takeH (i := 2) (d := 64) (v := ?_) rfl rfl (by kernel_rfl) (by kernel_rfl) (by kernel_rfl) (fun _ _ _ h => h) (Or.inl ⟨by rfl, ?_⟩) (by assumption) ?_
            rotate_left 1
            · (intro w hSw; (try dsimp only at hSw); go_simp; (try with_reducible rfl))
            simp only [List.setIfInBounds_toArray, List.set_cons_zero, List.set_cons_succ]
            refine takeH (i := 3) (d := 65) (v := ?_) rfl rfl (by kernel_rfl) (by kernel_rfl) (by kernel_rfl) (fun _ _ _ h => h) (Or.inl ⟨by rfl, ?_⟩) (by assumption) ?_
            rotate_left 1
            · (intro w hSw; (try dsimp only at hSw); go_simp; (try with_reducible rfl))
            simp only [List.setIfInBounds_toArray, List.set_cons_zero, List.set_cons_succ]
            refine takeH (i := 4) (d := 66) (v := ?_) rfl rfl (by kernel_rfl) (by kernel_rfl) (by kernel_rfl) (fun _ _ _ h => h) (Or.inl ⟨by rfl, ?_⟩) (by assumption) ?_
            rotate_left 1
            · (intro w hSw; (try dsimp only at hSw); go_simp; (try with_reducible rfl))
            simp only [List.setIfInBounds_toArray, List.set_cons_zero, List.set_cons_succ]
            refine takeH (i := 5) (d := 67) (v := ?_) rfl rfl (by kernel_rfl) (by kernel_rfl) (by kernel_rfl) (fun _ _ _ h => h) (Or.inl ⟨by rfl, ?_⟩) (by assumption) ?_
            rotate_left 1
            · (intro w hSw; (try dsimp only at hSw); go_simp; (try with_reducible rfl))
            simp only [List.setIfInBounds_toArray, List.set_cons_zero, List.set_cons_succ]
            refine takeH (i := 6) (d := 68) (v := ?_) rfl rfl (by kernel_rfl) (by kernel_rfl) (by kernel_rfl) (fun _ _ _ h => h) (Or.inl ⟨by rfl, ?_⟩) (by assumption) ?_
            rotate_left 1
            · (intro w hSw; (try dsimp only at hSw); go_simp; (try with_reducible rfl))
            simp only [List.setIfInBounds_toArray, List.set_cons_zero, List.set_cons_succ]
            refine takeH (i := 7) (d := 69) (v := ?_) rfl rfl (by kernel_rfl) (by kernel_rfl) (by kernel_rfl) (fun _ _ _ h => h) (Or.inl ⟨by rfl, ?_⟩) (by assumption) ?_
            rotate_left 1
            · (intro w hSw; (try dsimp only at hSw); go_simp; (try with_reducible rfl))
            simp only [List.setIfInBounds_toArray, List.set_cons_zero, List.set_cons_succ]
            refine takeH (i := 8) (d := 70) (v := ?_) rfl rfl (by kernel_rfl) (by kernel_rfl) (by kernel_rfl) (fun _ _ _ h => h) (Or.inl ⟨by rfl, ?_⟩) (by assumption) ?_
            rotate_left 1
            · (intro w hSw; (try dsimp only at hSw); go_simp; (try with_reducible rfl))
            simp only [List.setIfInBounds_toArray, List.set_cons_zero, List.set_cons_succ]
            refine wpAnyH_ready (rs := [1, 9]) (by kernel_rfl) (by simp) ?_
            refine AllReadyH.cons (i := 1) rfl (fun K hK => ?_) ?_
            · go_simp
              refine hK.out _ _ ?_ (fun hHeld => ?_)
              · try dsimp only
                first | exact HLD.out _ rfl rfl | exact HLD.out _ HK9a.out HK9b.out | exact HLD.out _ ((Below.heap_alloc _ _ _ (by omega)).trans HK9a.out) ((Below.heap_alloc _ _ _ (by omega)).trans HK9b.out)
              clear hK K
              refine wpAnyH_ready (rs := [9]) (by kernel_rfl) (by simp) ?_
              refine AllReadyH.cons (i := 9) rfl (fun K hK => ?_) ?_
              · go_simp
                with_reducible refine HCALL.out.mono ?_
                rintro e0 w9 ⟨cs9, hsh9, rfl, hcs9, hb9⟩
                obtain ⟨zk, zx, zt, zK, zX, zZ, zB, zm, zq, zA, zn, zc, zL, zl, zd, rfl⟩ := hsh9
                replace hb9 : Below wc.heap.size wc w9 := ((Below.refl _ wc).drew).trans hb9
                have hs9 := hb9.size
                have HB9 := hidE hb9
                have HC9 : Hid (pcE.Cs (fun g => S g ∨ (wc.heap.size ≤ g ∧ g < w9.heap.size)) w9 (ren P.data.toList Q.data.toList x) [.int .i64 zk, .string zx, .bool zt, .int .i64 zK, .string zX, .int .i64 zZ, .slice zB zm zq, .slice zA zn zc, .slice zL zl zd]) := hidE hcs9
                have HK9a : Hid (w9.heap[w.heap.size]? = wc.heap[w.heap.size]?) := hidE (hb9.block _ (by omega))
                have HK9b : Hid (w9.heap[g]? = wc.heap[g]?) := hidE (hb9.block _ (by omega))
                have HBL9 := hidE (hBL.out.below hb9 l7)
                have HO3 := hidE ((own_below HOI.out hb9).alloc (.cells [.int .i64 zk, .string zx, .bool zt, .int .i64 zK, .string zX, .int .i64 zZ, .slice zB zm zq, .slice zA zn zc, .slice zL zl zd].toArray 39))
                clear c7 c8 z7 l7 hcs9 hb9 HCALL
                obtain ⟨⟨-, -, -, -, -, -, -, c7, c8⟩, ⟨-, -, -, -, -, -, -, z7, -⟩, l7⟩ := blk_facts9 HBL9.out
                go_wp2_with fail
                refine hK.out _ _ ?_ (fun hHeld => ?_)
                · try dsimp only
                  first | exact HLD.out _ rfl rfl | exact HLD.out _ HK9a.out HK9b.out | exact HLD.out _ ((Below.heap_alloc _ _ _ (by omega)).trans HK9a.out) ((Below.heap_alloc _ _ _ (by omega)).trans HK9b.out)
                clear hK K
                refine wpAnyH_ready (rs := [10]) (by kernel_rfl) (by simp) ?_
                refine AllReadyH.cons (i := 10) rfl (fun K hK => ?_) ?_
                · go_simp
                  refine hK.out _ _ ?_ (fun hHeld => ?_)
                  · try dsimp only
                    first | exact HLD.out _ rfl rfl | exact HLD.out _ HK9a.out HK9b.out | exact HLD.out _ ((Below.heap_alloc _ _ _ (by omega)).trans HK9a.out) ((Below.heap_alloc _ _ _ (by omega)).trans HK9b.out)
                  clear hK K
                  refine wpAnyH_ready (rs := [11]) (by kernel_rfl) (by simp) ?_
                  refine AllReadyH.cons (i := 11) rfl (fun K hK => ?_) ?_
                  · skip
                    refine step_append_lies _ rfl (.tmp 63) (.tmp 72) 36 rfl W1.heap.size 39 i0 _ 9 136 Tryz.underlying36 hi0 hz0 hz1' hz2 rfl (by decide) _ i vs rfl HO3.out ⟨w9.heap.size, 0, none⟩ 1 1 [.int .i64 zk, .string zx, .bool zt, .int .i64 zK, .string zX, .int .i64 zZ, .slice zB zm zq, .slice zA zn zc, .slice zL zl zd] rfl rfl (World.news_of_block (heap_alloc_new _ _)) (by intro u hu; simp at hu; rcases hu with rfl | rfl | rfl | rfl | rfl | rfl | rfl | rfl | rfl <;> rfl) (by decide) (by unfold maxLen; omega) (by omega) (by simp; omega) _ rfl ?_
                    intro g3 c3 w5 hown5 hgrow hat5 hlt5
                    have hb5 := (HBL9.out.alloc (.cells [.int .i64 zk, .string zx, .bool zt, .int .i64 zK, .string zX, .int .i64 zZ, .slice zB zm zq, .slice zA zn zc, .slice zL zl zd].toArray 39)).grown hgrow HNB.out
                    have HNX := hidE (row_next (P := pcE) (j := 7) (v := .slice A i cp) (v' := .slice (some ⟨g3, 0, none⟩) (i + 1) c3) (x := ren P.data.toList Q.data.toList x) (cs := [.int .i64 zk, .string zx, .bool zt, .int .i64 zK, .string zX, .int .i64 zZ, .slice zB zm zq, .slice zA zn zc, .slice zL zl zd]) HSN.out (by omega) hC.out hBL.out HOW.out HRV.out (HB9.out.trans (((Below.refl w9.heap.size w9).alloc (Nat.le_refl _) (.cells [.int .i64 zk, .string zx, .bool zt, .int .i64 zK, .string zX, .int .i64 zZ, .slice zB zm zq, .slice zA zn zc, .slice zL zl zd].toArray 39)).mono (by omega))) (pcE.keep (fun a h => h.imp id fun h => ⟨h.1, by have := h.2; simp; omega⟩) (fun a ha => Below.heap_alloc _ _ _ (ha.elim (fun h => by have := HS.out a h; omega) (fun h => h.2))) HC9.out) (by rw [HTL.out]; exact hown5) hgrow (hat5.elim (fun h => .inl h.symm) (fun h => .inr (congrArg some h))))
                    have HK5a : Hid (w5.heap[w.heap.size]? = wc.heap[w.heap.size]?) := hidE ((hgrow.block _ (by simp; omega) HN3.out).trans ((Below.heap_alloc _ _ _ (by omega)).trans HK9a.out))
                    have HK5b : Hid (w5.heap[g]? = wc.heap[g]?) := hidE ((hgrow.block _ (by simp; omega) HNG.out).trans ((Below.heap_alloc _ _ _ (by omega)).trans HK9b.out))
                    clear c7 c8 z7 l7
                    obtain ⟨⟨-, -, -, -, -, -, -, c7, c8⟩, ⟨-, -, -, -, -, -, -, z7, -⟩, l7⟩ := blk_facts9 hb5
                    clear hown5 hgrow hat5 hb5
                    go_simp
                    refine hK.out _ _ ?_ (fun hHeld => ?_)
                    · try dsimp only
                      exact HLD.out _ HK5a.out HK5b.out
                    clear hK K
                    refine takeH (i := 12) (d := 74) (v := ?_) rfl rfl (by kernel_rfl) (by kernel_rfl) (by kernel_rfl) (fun _ _ _ h => h) (Or.inl ⟨by rfl, ?_⟩) (by assumption) ?_
                    rotate_left 1
                    · (intro w hSw; (try dsimp only at hSw); go_simp; (try with_reducible rfl))
                    simp only [List.setIfInBounds_toArray, List.set_cons_zero, List.set_cons_succ]
                    refine wpAnyH_ready (rs := [13]) (by kernel_rfl) (by simp) ?_
                    refine AllReadyH.cons (i := 13) rfl (fun K hK => ?_) ?_
                    · go_simp
                      refine hK.out _ _ ?_ (fun hHeld => ?_)
                      · try dsimp only
                        exact HLD.out _ ((Below.heap_setCell _ _ _ _ (by dsimp only; omega)).trans HK5a.out) ((Below.heap_setCell _ _ _ _ (by dsimp only; omega)).trans HK5b.out)
                      clear hK K
                      refine wpAnyH_done (by kernel_rfl) ?_ _
                      go_wp2_with fail
                      go_roundg (nk - (i + 1))
                      case measure => omega
                      case rel => exact ⟨i + 1, some ⟨g3, 0, none⟩, c3, rfl, by go_num, by omega, hidE HNX.out.1, hidE (by simpa using HNX.out.2.1), hidE (HTK.out ▸ HNX.out.2.2)⟩
                    exact AllReadyH.nil
                  exact AllReadyH.nil
                exact AllReadyH.nil
              exact AllReadyH.nil
            refine AllReadyH.cons (i := 9) rfl (fun K hK => ?_) ?_
            · go_simp
              with_reducible refine HCALL.out.mono ?_
              rintro e0 w9 ⟨cs9, hsh9, rfl, hcs9, hb9⟩
              obtain ⟨zk, zx, zt, zK, zX, zZ, zB, zm, zq, zA, zn, zc, zL, zl, zd, rfl⟩ := hsh9
              replace hb9 : Below wc.heap.size wc w9 := ((Below.refl _ wc).drew).trans hb9
              have hs9 := hb9.size
              have HB9 := hidE hb9
              have HC9 : Hid (pcE.Cs (fun g => S g ∨ (wc.heap.size ≤ g ∧ g < w9.heap.size)) w9 (ren P.data.toList Q.data.toList x) [.int .i64 zk, .string zx, .bool zt, .int .i64 zK, .string zX, .int .i64 zZ, .slice zB zm zq, .slice zA zn zc, .slice zL zl zd]) := hidE hcs9
              have HK9a : Hid (w9.heap[w.heap.size]? = wc.heap[w.heap.size]?) := hidE (hb9.block _ (by omega))
              have HK9b : Hid (w9.heap[g]? = wc.heap[g]?) := hidE (hb9.block _ (by omega))
              have HBL9 := hidE (hBL.out.below hb9 l7)
              have HO3 := hidE ((own_below HOI.out hb9).alloc (.cells [.int .i64 zk, .string zx, .bool zt, .int .i64 zK, .string zX, .int .i64 zZ, .slice zB zm zq, .slice zA zn zc, .slice zL zl zd].toArray 39))
              clear c7 c8 z7 l7 hcs9 hb9 HCALL
              obtain ⟨⟨-, -, -, -, -, -, -, c7, c8⟩, ⟨-, -, -, -, -, -, -, z7, -⟩, l7⟩ := blk_facts9 HBL9.out
              go_wp2_with fail
              refine hK.out _ _ ?_ (fun hHeld => ?_)
              · try dsimp only
                first | exact HLD.out _ rfl rfl | exact HLD.out _ HK9a.out HK9b.out | exact HLD.out _ ((Below.heap_alloc _ _ _ (by omega)).trans HK9a.out) ((Below.heap_alloc _ _ _ (by omega)).trans HK9b.out)
              clear hK K
              refine wpAnyH_ready (rs := [1, 10]) (by kernel_rfl) (by simp) ?_
              refine AllReadyH.cons (i := 1) rfl (fun K hK => ?_) ?_
              · go_simp
                refine hK.out _ _ ?_ (fun hHeld => ?_)
                · try dsimp only
                  first | exact HLD.out _ rfl rfl | exact HLD.out _ HK9a.out HK9b.out | exact HLD.out _ ((Below.heap_alloc _ _ _ (by omega)).trans HK9a.out) ((Below.heap_alloc _ _ _ (by omega)).trans HK9b.out)
                clear hK K
                refine wpAnyH_ready (rs := [10]) (by kernel_rfl) (by simp) ?_
                refine AllReadyH.cons (i := 10) rfl (fun K hK => ?_) ?_
                · go_simp
                  refine hK.out _ _ ?_ (fun hHeld => ?_)
                  · try dsimp only
                    first | exact HLD.out _ rfl rfl | exact HLD.out _ HK9a.out HK9b.out | exact HLD.out _ ((Below.heap_alloc _ _ _ (by omega)).trans HK9a.out) ((Below.heap_alloc _ _ _ (by omega)).trans HK9b.out)
                  clear hK K
                  refine wpAnyH_ready (rs := [11]) (by kernel_rfl) (by simp) ?_
                  refine AllReadyH.cons (i := 11) rfl (fun K hK => ?_) ?_
                  · skip
                    refine step_append_lies _ rfl (.tmp 63) (.tmp 72) 36 rfl W1.heap.size 39 i0 _ 9 136 Tryz.underlying36 hi0 hz0 hz1' hz2 rfl (by decide) _ i vs rfl HO3.out ⟨w9.heap.size, 0, none⟩ 1 1 [.int .i64 zk, .string zx, .bool zt, .int .i64 zK, .string zX, .int .i64 zZ, .slice zB zm zq, .slice zA zn zc, .slice zL zl zd] rfl rfl (World.news_of_block (heap_alloc_new _ _)) (by intro u hu; simp at hu; rcases hu with rfl | rfl | rfl | rfl | rfl | rfl | rfl | rfl | rfl <;> rfl) (by decide) (by unfold maxLen; omega) (by omega) (by simp; omega) _ rfl ?_
                    intro g3 c3 w5 hown5 hgrow hat5 hlt5
                    have hb5 := (HBL9.out.alloc (.cells [.int .i64 zk, .string zx, .bool zt, .int .i64 zK, .string zX, .int .i64 zZ, .slice zB zm zq, .slice zA zn zc, .slice zL zl zd].toArray 39)).grown hgrow HNB.out
                    have HNX := hidE (row_next (P := pcE) (j := 7) (v := .slice A i cp) (v' := .slice (some ⟨g3, 0, none⟩) (i + 1) c3) (x := ren P.data.toList Q.data.toList x) (cs := [.int .i64 zk, .string zx, .bool zt, .int .i64 zK, .string zX, .int .i64 zZ, .slice zB zm zq, .slice zA zn zc, .slice zL zl zd]) HSN.out (by omega) hC.out hBL.out HOW.out HRV.out (HB9.out.trans (((Below.refl w9.heap.size w9).alloc (Nat.le_refl _) (.cells [.int .i64 zk, .string zx, .bool zt, .int .i64 zK, .string zX, .int .i64 zZ, .slice zB zm zq, .slice zA zn zc, .slice zL zl zd].toArray 39)).mono (by omega))) (pcE.keep (fun a h => h.imp id fun h => ⟨h.1, by have := h.2; simp; omega⟩) (fun a ha => Below.heap_alloc _ _ _ (ha.elim (fun h => by have := HS.out a h; omega) (fun h => h.2))) HC9.out) (by rw [HTL.out]; exact hown5) hgrow (hat5.elim (fun h => .inl h.symm) (fun h => .inr (congrArg some h))))
                    have HK5a : Hid (w5.heap[w.heap.size]? = wc.heap[w.heap.size]?) := hidE ((hgrow.block _ (by simp; omega) HN3.out).trans ((Below.heap_alloc _ _ _ (by omega)).trans HK9a.out))
                    have HK5b : Hid (w5.heap[g]? = wc.heap[g]?) := hidE ((hgrow.block _ (by simp; omega) HNG.out).trans ((Below.heap_alloc _ _ _ (by omega)).trans HK9b.out))
                    clear c7 c8 z7 l7
                    obtain ⟨⟨-, -, -, -, -, -, -, c7, c8⟩, ⟨-, -, -, -, -, -, -, z7, -⟩, l7⟩ := blk_facts9 hb5
                    clear hown5 hgrow hat5 hb5
                    go_simp
                    refine hK.out _ _ ?_ (fun hHeld => ?_)
                    · try dsimp only
                      exact HLD.out _ HK5a.out HK5b.out
                    clear hK K
                    refine takeH (i := 12) (d := 74) (v := ?_) rfl rfl (by kernel_rfl) (by kernel_rfl) (by kernel_rfl) (fun _ _ _ h => h) (Or.inl ⟨by rfl, ?_⟩) (by assumption) ?_
                    rotate_left 1
                    · (intro w hSw; (try dsimp only at hSw); go_simp; (try with_reducible rfl))
                    simp only [List.setIfInBounds_toArray, List.set_cons_zero, List.set_cons_succ]
                    refine wpAnyH_ready (rs := [13]) (by kernel_rfl) (by simp) ?_
                    refine AllReadyH.cons (i := 13) rfl (fun K hK => ?_) ?_
                    · go_simp
                      refine hK.out _ _ ?_ (fun hHeld => ?_)
                      · try dsimp only
                        exact HLD.out _ ((Below.heap_setCell _ _ _ _ (by dsimp only; omega)).trans HK5a.out) ((Below.heap_setCell _ _ _ _ (by dsimp only; omega)).trans HK5b.out)
                      clear hK K
                      refine wpAnyH_done (by kernel_rfl) ?_ _
                      go_wp2_with fail
                      go_roundg (nk - (i + 1))
                      case measure => omega
                      case rel => exact ⟨i + 1, some ⟨g3, 0, none⟩, c3, rfl, by go_num, by omega, hidE HNX.out.1, hidE (by simpa using HNX.out.2.1), hidE (HTK.out ▸ HNX.out.2.2)⟩
                    exact AllReadyH.nil
                  exact AllReadyH.nil
                exact AllReadyH.nil
              refine AllReadyH.cons (i := 10) rfl (fun K hK => ?_) ?_
              · go_simp
                refine hK.out _ _ ?_ (fun hHeld => ?_)
                · try dsimp only
                  first | exact HLD.out _ rfl rfl | exact HLD.out _ HK9a.out HK9b.out | exact HLD.out _ ((Below.heap_alloc _ _ _ (by omega)).trans HK9a.out) ((Below.heap_alloc _ _ _ (by omega)).trans HK9b.out)
                clear hK K
                refine wpAnyH_ready (rs := [1]) (by kernel_rfl) (by simp) ?_
                refine AllReadyH.cons (i := 1) rfl (fun K hK => ?_) ?_
                · go_simp
                  refine hK.out _ _ ?_ (fun hHeld => ?_)
                  · try dsimp only
                    first | exact HLD.out _ rfl rfl | exact HLD.out _ HK9a.out HK9b.out | exact HLD.out _ ((Below.heap_alloc _ _ _ (by omega)).trans HK9a.out) ((Below.heap_alloc _ _ _ (by omega)).trans HK9b.out)
                  clear hK K
                  refine wpAnyH_ready (rs := [11]) (by kernel_rfl) (by simp) ?_
                  refine AllReadyH.cons (i := 11) rfl (fun K hK => ?_) ?_
                  · skip
                    refine step_append_lies _ rfl (.tmp 63) (.tmp 72) 36 rfl W1.heap.size 39 i0 _ 9 136 Tryz.underlying36 hi0 hz0 hz1' hz2 rfl (by decide) _ i vs rfl HO3.out ⟨w9.heap.size, 0, none⟩ 1 1 [.int .i64 zk, .string zx, .bool zt, .int .i64 zK, .string zX, .int .i64 zZ, .slice zB zm zq, .slice zA zn zc, .slice zL zl zd] rfl rfl (World.news_of_block (heap_alloc_new _ _)) (by intro u hu; simp at hu; rcases hu with rfl | rfl | rfl | rfl | rfl | rfl | rfl | rfl | rfl <;> rfl) (by decide) (by unfold maxLen; omega) (by omega) (by simp; omega) _ rfl ?_
                    intro g3 c3 w5 hown5 hgrow hat5 hlt5
                    have hb5 := (HBL9.out.alloc (.cells [.int .i64 zk, .string zx, .bool zt, .int .i64 zK, .string zX, .int .i64 zZ, .slice zB zm zq, .slice zA zn zc, .slice zL zl zd].toArray 39)).grown hgrow HNB.out
                    have HNX := hidE (row_next (P := pcE) (j := 7) (v := .slice A i cp) (v' := .slice (some ⟨g3, 0, none⟩) (i + 1) c3) (x := ren P.data.toList Q.data.toList x) (cs := [.int .i64 zk, .string zx, .bool zt, .int .i64 zK, .string zX, .int .i64 zZ, .slice zB zm zq, .slice zA zn zc, .slice zL zl zd]) HSN.out (by omega) hC.out hBL.out HOW.out HRV.out (HB9.out.trans (((Below.refl w9.heap.size w9).alloc (Nat.le_refl _) (.cells [.int .i64 zk, .string zx, .bool zt, .int .i64 zK, .string zX, .int .i64 zZ, .slice zB zm zq, .slice zA zn zc, .slice zL zl zd].toArray 39)).mono (by omega))) (pcE.keep (fun a h => h.imp id fun h => ⟨h.1, by have := h.2; simp; omega⟩) (fun a ha => Below.heap_alloc _ _ _ (ha.elim (fun h => by have := HS.out a h; omega) (fun h => h.2))) HC9.out) (by rw [HTL.out]; exact hown5) hgrow (hat5.elim (fun h => .inl h.symm) (fun h => .inr (congrArg some h))))
                    have HK5a : Hid (w5.heap[w.heap.size]? = wc.heap[w.heap.size]?) := hidE ((hgrow.block _ (by simp; omega) HN3.out).trans ((Below.heap_alloc _ _ _ (by omega)).trans HK9a.out))
                    have HK5b : Hid (w5.heap[g]? = wc.heap[g]?) := hidE ((hgrow.block _ (by simp; omega) HNG.out).trans ((Below.heap_alloc _ _ _ (by omega)).trans HK9b.out))
                    clear c7 c8 z7 l7
                    obtain ⟨⟨-, -, -, -, -, -, -, c7, c8⟩, ⟨-, -, -, -, -, -, -, z7, -⟩, l7⟩ := blk_facts9 hb5
                    clear hown5 hgrow hat5 hb5
                    go_simp
                    refine hK.out _ _ ?_ (fun hHeld => ?_)
                    · try dsimp only
                      exact HLD.out _ HK5a.out HK5b.out
                    clear hK K
                    refine takeH (i := 12) (d := 74) (v := ?_) rfl rfl (by kernel_rfl) (by kernel_rfl) (by kernel_rfl) (fun _ _ _ h => h) (Or.inl ⟨by rfl, ?_⟩) (by assumption) ?_
                    rotate_left 1
                    · (intro w hSw; (try dsimp only at hSw); go_simp; (try with_reducible rfl))
                    simp only [List.setIfInBounds_toArray, List.set_cons_zero, List.set_cons_succ]
                    refine wpAnyH_ready (rs := [13]) (by kernel_rfl) (by simp) ?_
                    refine AllReadyH.cons (i := 13) rfl (fun K hK => ?_) ?_
                    · go_simp
                      refine hK.out _ _ ?_ (fun hHeld => ?_)
                      · try dsimp only
                        exact HLD.out _ ((Below.heap_setCell _ _ _ _ (by dsimp only; omega)).trans HK5a.out) ((Below.heap_setCell _ _ _ _ (by dsimp only; omega)).trans HK5b.out)
                      clear hK K
                      refine wpAnyH_done (by kernel_rfl) ?_ _
                      go_wp2_with fail
                      go_roundg (nk - (i + 1))
                      case measure => omega
                      case rel => exact ⟨i + 1, some ⟨g3, 0, none⟩, c3, rfl, by go_num, by omega, hidE HNX.out.1, hidE (by simpa using HNX.out.2.1), hidE (HTK.out ▸ HNX.out.2.2)⟩
                    exact AllReadyH.nil
                  exact AllReadyH.nil
                exact AllReadyH.nil
              exact AllReadyH.nil
            exact AllReadyH.nil
      · have e1 : nk = i := by omega
        subst e1
        have HTA : Hid ((kidsE (ren P.data.toList Q.data.toList e)).take nk = kidsE (ren P.data.toList Q.data.toList e)) := hidE (List.take_of_length_le (by rw [ren_klen, HNK.out]; exact Nat.le_refl _))
        obtain ⟨-, hcp, hkl⟩ := (HTA.out ▸ hRW.out : Rw pcE S W1.heap.size 39 wr (kidsE (ren P.data.toList Q.data.toList e)) (.slice A nk cp)).lst
        have HKL := hidE hkl
        obtain ⟨Wm, hWm⟩ : ∃ y, y = wr := ⟨_, rfl⟩
        subst hWm
        have HSM : Hid (∀ g, S g → g < Wm.heap.size ∧ g ≠ w.heap.size + 1 + 1) := hidE (fun g hg => by have := HSN.out g hg; exact ⟨by omega, this.2⟩)
        have HB3m := hidE hb3
        obtain ⟨j0, hj0, hy0, hy1, hy2⟩ := info_parts infoA
        have hna9 : na ≤ 9000 := by
          have := altsE_len e
          have := HWT.out
          rw [← HNA.out]
          omega
        clear hkl hRW hb3 HTA
        go_wp2_with fail
        clear g0 g1 g2 g3 g4 g5 g6 g7 g8 hlt
        go_loopg [9] na (fun gg vi wr => ∃ (i : Nat) (A2 : Option Addr) (cp2 : Nat), gg = na - i ∧ vi = .int .i64 (i : Nat) ∧ i ≤ na ∧ Hid (Chg (only (w.heap.size + 1 + 1)) Wm wr) ∧
          Hid (Blk wr (w.heap.size + 1 + 1) 39 #[.int .i64 (k : Nat), .string N, .bool T, .int .i64 K, .string X, .int .i64 Z, .slice B m q, .slice A nk cp, .slice A2 i cp2]) ∧
          Hid (Rw pcA S Wm.heap.size 74 wr ((altsE (ren P.data.toList Q.data.toList e)).take i) (.slice A2 i cp2)))
        case atStart => exact ⟨0, none, 0, rfl, rfl, by omega, hidE (Chg.refl _ _), hBL, hidE (Rw.nil _ _ _ _ _)⟩
        case round =>
          obtain ⟨i, A2, cp2, rfl, rfl, hi2, hC2, hB2, hR2⟩ := hrel
          have hsr2 := hC2.out.size
          have hb3w := HB3m.out.chg hC2.out (by unfold only; omega)
          obtain ⟨⟨g0, g1, g2, g3, g4, g5, g6, g7, g8⟩, -, -⟩ := blk_facts9 hb3w
          by_cases hlt : i < na
          · obtain ⟨a, ha⟩ : ∃ a, (altsE e)[i]? = some a := ⟨_, List.getElem?_eq_getElem (by rw [HNA.out]; exact hlt)⟩
            obtain ⟨c, us, b⟩ := a
            have HA := hidE ha
            obtain ⟨g, cs, rfl, hSg, hcs, hrow⟩ := HAL.out.row i _ ha
            obtain ⟨V, v, Px, rfl, hV, hTx, hIx⟩ := hcs
            obtain ⟨yk, yx, yt, yK, yX, yZ, yB, ym, yq, yA, yn, yc, yL, yl, yd, hs⟩ := exC_shape b Px
            obtain ⟨Y, hY⟩ : ∃ Y : ByteArray, ⟨c.toArray⟩ = Y := ⟨_, rfl⟩
            obtain ⟨nv, hnv⟩ : ∃ n, us.length = n := ⟨_, rfl⟩
            have hal : alC (.mk c us b) V v Px = [.string Y, .slice V nv v, .int .i64 yk, .string yx, .bool yt, .int .i64 yK, .string yX, .int .i64 yZ, .slice yB ym yq, .slice yA yn yc, .slice yL yl yd] := by
              show [Sx.strV c, .slice V us.length v] ++ exC b Px = _
              rw [hs, hnv]
              simp [Sx.strV, hY]
            rw [hal] at hrow
            have hkS : ∀ a, S a → wr.heap[a]? = w.heap[a]? := fun a ha => (hC2.out.block a (by have := HSM.out a ha; omega) (by have := (HSM.out a ha).2; exact this)).trans ((hC.out.block a (by have := HSN.out a ha; omega) (by have := (HSN.out a ha).2; exact this)).trans (HB0.out.block a (HS.out a ha)))
            have HCW : Hid (pcA.Cs S wr (.mk c us b) [.string Y, .slice V nv v, .int .i64 yk, .string yx, .bool yt, .int .i64 yK, .string yX, .int .i64 yZ, .slice yB ym yq, .slice yA yn yc, .slice yL yl yd]) := hidE (pcA.keep (fun _ h => h) hkS ⟨V, v, Px, hal.symm, hV, hTx, hIx⟩)
            have HXW : Hid (pcE.Cs S wr b [.int .i64 yk, .string yx, .bool yt, .int .i64 yK, .string yX, .int .i64 yZ, .slice yB ym yq, .slice yA yn yc, .slice yL yl yd]) := hidE (pcE.keep (fun _ h => h) hkS ⟨Px, hs.symm, hTx, hIx⟩)
            have HVW : Hid (NmsIn S wr us V) := hidE (hV.keep (fun _ h => h) hkS)
            have hgl : g < w.heap.size := HS.out g hSg
            have hr2 := Lie.keep (w := w) hrow (hkS g hSg)
            have f0 : wr.cell? ⟨g, i * 11, none⟩ = some (.string Y) := hr2 0 _ rfl
            have f1 : wr.cell? ⟨g, i * 11 + 1, none⟩ = some (.slice V nv v) := hr2 1 _ rfl
            have f2 : wr.cell? ⟨g, i * 11 + 2, none⟩ = some (.int .i64 yk) := hr2 2 _ rfl
            have f3 : wr.cell? ⟨g, i * 11 + 3, none⟩ = some (.string yx) := hr2 3 _ rfl
            have f4 : wr.cell? ⟨g, i * 11 + 4, none⟩ = some (.bool yt) := hr2 4 _ rfl
            have f5 : wr.cell? ⟨g, i * 11 + 5, none⟩ = some (.int .i64 yK) := hr2 5 _ rfl
            have f6 : wr.cell? ⟨g, i * 11 + 6, none⟩ = some (.string yX) := hr2 6 _ rfl
            have f7 : wr.cell? ⟨g, i * 11 + 7, none⟩ = some (.int .i64 yZ) := hr2 7 _ rfl
            have f8 : wr.cell? ⟨g, i * 11 + 8, none⟩ = some (.slice yB ym yq) := hr2 8 _ rfl
            have f9 : wr.cell? ⟨g, i * 11 + 9, none⟩ = some (.slice yA yn yc) := hr2 9 _ rfl
            have f10 : wr.cell? ⟨g, i * 11 + 10, none⟩ = some (.slice yL yl yd) := hr2 10 _ rfl
            have HTL : Hid (((altsE (ren P.data.toList Q.data.toList e)).take i).length = i) := hidE (by rw [List.length_take, ren_alts, List.length_map, HNA.out]; omega)
            have HTK : Hid ((altsE (ren P.data.toList Q.data.toList e)).take (i + 1) = (altsE (ren P.data.toList Q.data.toList e)).take i ++ [ren1 P.data.toList Q.data.toList (.mk c us b)]) := hidE (by rw [List.take_add_one, ren_alts, List.getElem?_map, HA.out]; rfl)
            have HAW : Hid (b.size < e.size ∧ us.length + b.wt ≤ e.wt) := hidE ⟨altE_size (List.mem_of_getElem? ha), altE_wt (List.mem_of_getElem? ha)⟩
            obtain ⟨vs, hown, hrv⟩ := hR2.out
            have HOW := hidE hown
            rw [HTL.out] at hown
            have HOI := hidE hown
            have HRV := hidE hrv
            have HNB : Hid (some (w.heap.size + 1 + 1) ≠ (Value.slice A2 i cp2).ownBlock) := hidE (fun e => by have := (hown.lt _ e.symm).1; omega)
            obtain ⟨q1, hq1⟩ : ∃ q1, decide (P.data.toList ∈ us) = q1 := ⟨_, rfl⟩
            have HR1 : Hid (ren1 P.data.toList Q.data.toList (.mk c us b) = .mk c us (if q1 = true then b else ren P.data.toList Q.data.toList b)) := hidE (by
              rw [ren1, ← hq1]
              congr 1
              by_cases h : P.data.toList ∈ us <;> simp [h])
            obtain ⟨Wa, hWa⟩ : ∃ y, wr.alloc (.cells #[.string Y, .slice V nv v, .int .i64 yk, .string yx, .bool yt, .int .i64 yK, .string yX, .int .i64 yZ, .slice yB ym yq, .slice yA yn yc, .slice yL yl yd] 74) = y := ⟨_, rfl⟩
            have hba : Below wr.heap.size wr Wa := hWa ▸ (Below.refl _ wr).alloc (Nat.le_refl _) _
            have hza : Wa.heap.size = wr.heap.size + 1 := by rw [← hWa]; simp
            have hbb : Blk Wa wr.heap.size 74 #[.string Y, .slice V nv v, .int .i64 yk, .string yx, .bool yt, .int .i64 yK, .string yX, .int .i64 yZ, .slice yB ym yq, .slice yA yn yc, .slice yL yl yd] := hWa ▸ heap_alloc_new wr _
            have HBA := hidE hba
            have HBB := hidE hbb
            have HWA := hidE hWa
            have HZA := hidE hza
            have HNV := hidE hnv
            have HY := hidE hY
            have HH := hidE (ref2_has (.slice V nv v) us P Wa (nms_rowV hnv.symm (HVW.out.keep (fun _ h => h) (fun a ha => hba.block a (by have := HSM.out a ha; omega))) (fun a ha => by have := HSM.out a ha; omega)) (by have := HAW.out.2; have := HWT.out; omega))
            rw [hq1] at HH
            clear ha hSg hrow hV hTx hIx hs hY hnv hal hkS hr2 hown hrv hR2 hq1 hWa hba hbb hza
            go_upto_region 17 with fail
            rw [HWA.out]
            clear HWA f0 f1 f2 f3 f4 f5 f6 f7 f8 f9 f10 g0 g1 g2 g3 g4 g5 g6 g7 g8
            obtain ⟨⟨a0, a1, a2, a3, a4, a5, a6, a7, a8, a9, a10⟩, ⟨y0, y1, y2, y3, y4, y5, y6, y7, y8, y9, y10⟩, ly⟩ := blk_facts11 HBB.out
            have HB2a := hidE (hB2.out.below HBA.out hB2.out.lt)
            go_wp2_with fail
            refine HH.out.mono ?_
            rintro e0 w4 ⟨rfl, rfl⟩
            clear HH
            cases q1 with
            | true =>
              rw [if_pos rfl] at HR1
              obtain ⟨⟨-, -, -, -, -, -, -, -, c8⟩, ⟨-, -, -, -, -, -, -, -, z8⟩, l8⟩ := blk_facts9 HB2a.out
              have HO3 := hidE ((own_below HOI.out HBA.out).alloc (.cells [.string Y, .slice V nv v, .int .i64 yk, .string yx, .bool yt, .int .i64 yK, .string yX, .int .i64 yZ, .slice yB ym yq, .slice yA yn yc, .slice yL yl yd].toArray 74))
              go_wp2_with (at_builtin; refine wpList_append_lies _ rfl (.tmp 100) (.tmp 102) 37 rfl Wm.heap.size 74 j0 _ 11 176 Tryz.underlying37 hj0 hy0 hy1 hy2 rfl (by decide) _ i vs rfl HO3.out ⟨Wa.heap.size, 0, none⟩ 1 1 [.string Y, .slice V nv v, .int .i64 yk, .string yx, .bool yt, .int .i64 yK, .string yX, .int .i64 yZ, .slice yB ym yq, .slice yA yn yc, .slice yL yl yd] rfl rfl (new_cells' _ _ _ _ (by simp)) (by intro u hu; simp at hu; rcases hu with rfl | rfl | rfl | rfl | rfl | rfl | rfl | rfl | rfl | rfl | rfl <;> rfl) (by omega) (by unfold maxLen; omega) (by omega) (by have := HZA.out; simp; omega) _ rfl ?_; intro g3 c3 w5 hown5 hgrow hat5 hlt5; have HNX := hidE (row_next (P := pcA) (j := 8) (v := .slice A2 i cp2) (v' := .slice (some ⟨g3, 0, none⟩) (i + 1) c3) (x := .mk c us b) (cs := [.string Y, .slice V nv v, .int .i64 yk, .string yx, .bool yt, .int .i64 yK, .string yX, .int .i64 yZ, .slice yB ym yq, .slice yA yn yc, .slice yL yl yd]) HSM.out (by omega) hC2.out hB2.out HOW.out HRV.out (HBA.out.trans (((Below.refl Wa.heap.size Wa).alloc (Nat.le_refl _) (.cells [.string Y, .slice V nv v, .int .i64 yk, .string yx, .bool yt, .int .i64 yK, .string yX, .int .i64 yZ, .slice yB ym yq, .slice yA yn yc, .slice yL yl yd].toArray 74)).mono (by have := HZA.out; omega))) (pcA.keep (fun a h => .inl h) (fun a ha => (Below.heap_alloc _ _ _ (by have := HSM.out a ha; have := HZA.out; omega)).trans (HBA.out.block a (by have := HSM.out a ha; omega))) HCW.out) (by rw [HTL.out]; exact hown5) hgrow (hat5.elim (fun h => .inl h.symm) (fun h => .inr (congrArg some h)))); have hb5 := (HB2a.out.alloc (.cells [.string Y, .slice V nv v, .int .i64 yk, .string yx, .bool yt, .int .i64 yK, .string yX, .int .i64 yZ, .slice yB ym yq, .slice yA yn yc, .slice yL yl yd].toArray 74)).grown hgrow HNB.out; clear c8 z8 l8 hown5 hgrow hat5; obtain ⟨⟨-, -, -, -, -, -, -, -, c8⟩, ⟨-, -, -, -, -, -, -, -, z8⟩, l8⟩ := blk_facts9 hb5; clear hb5)
              go_roundg (na - (i + 1))
              case measure => omega
              case rel => exact ⟨i + 1, some ⟨g3, 0, none⟩, c3, rfl, by go_num, by omega, hidE HNX.out.1, hidE (by simpa using HNX.out.2.1), hidE (by rw [HTK.out, HR1.out]; exact HNX.out.2.2)⟩
            | false =>
              rw [if_neg (by decide)] at HR1
              have HCALL := hidE (HIH.out b S _ Wa (by have := HAW.out.1; have := HNN.out; omega) (rdX_cs.2 (pcE.keep (fun _ h => h) (fun a ha => HBA.out.block a (by have := HSM.out a ha; omega)) HXW.out)) (fun a ha => by have := HSM.out a ha; have := HZA.out; omega) (by have := HAW.out.2; have := HWT.out; omega))
              go_wp2_with fail
              refine HCALL.out.mono ?_
              rintro e0 w9 ⟨cs9, hsh9, rfl, hcs9, hb9⟩
              obtain ⟨zk, zx, zt, zK, zX, zZ, zB, zm, zq, zA, zn, zc, zL, zl, zd, rfl⟩ := hsh9
              have hs9 := hb9.size
              have HB9 := hidE hb9
              have HC9 := hidE hcs9
              have HB29 := hidE (HB2a.out.below hb9 HB2a.out.lt)
              have HBB9 := hidE (HBB.out.below hb9 ly)
              clear a0 a1 a2 a3 a4 a5 a6 a7 a8 a9 a10 y0 y1 y2 y3 y4 y5 y6 y7 y8 y9 y10 ly hcs9 hb9 HCALL
              obtain ⟨⟨a0, a1, a2, a3, a4, a5, a6, a7, a8, a9, a10⟩, ⟨y0, y1, y2, y3, y4, y5, y6, y7, y8, y9, y10⟩, ly⟩ := blk_facts11 HBB9.out
              go_upto_region 20 with fail
              obtain ⟨Ws, hWs⟩ : ∃ y, (((((((((w9.setCell ⟨wr.heap.size, 2, none⟩ (.int .i64 zk)).setCell ⟨wr.heap.size, 3, none⟩ (.string zx)).setCell ⟨wr.heap.size, 4, none⟩ (.bool zt)).setCell ⟨wr.heap.size, 5, none⟩ (.int .i64 zK)).setCell ⟨wr.heap.size, 6, none⟩ (.string zX)).setCell ⟨wr.heap.size, 7, none⟩ (.int .i64 zZ)).setCell ⟨wr.heap.size, 8, none⟩ (.slice zB zm zq)).setCell ⟨wr.heap.size, 9, none⟩ (.slice zA zn zc)).setCell ⟨wr.heap.size, 10, none⟩ (.slice zL zl zd)) = y := ⟨_, rfl⟩
              have hks : ∀ k, k ≠ wr.heap.size → Ws.heap[k]? = w9.heap[k]? := fun k hk => hWs ▸ so11_2_far w9 wr.heap.size k _ _ _ _ _ _ _ _ _ hk
              have hzs : Ws.heap.size = w9.heap.size := hWs ▸ size_so11_2 _ _ _ _ _ _ _ _ _ _ _
              have hb9w : Below wr.heap.size wr w9 := HBA.out.trans (HB9.out.mono (by have := HZA.out; omega))
              have HBS : Hid (Below wr.heap.size wr Ws) := hidE (hWs ▸ ((((((((hb9w.setCell (p := ⟨wr.heap.size, 2, none⟩) (Nat.le_refl _) _).setCell (p := ⟨wr.heap.size, 3, none⟩) (Nat.le_refl _) _).setCell (p := ⟨wr.heap.size, 4, none⟩) (Nat.le_refl _) _).setCell (p := ⟨wr.heap.size, 5, none⟩) (Nat.le_refl _) _).setCell (p := ⟨wr.heap.size, 6, none⟩) (Nat.le_refl _) _).setCell (p := ⟨wr.heap.size, 7, none⟩) (Nat.le_refl _) _).setCell (p := ⟨wr.heap.size, 8, none⟩) (Nat.le_refl _) _).setCell (p := ⟨wr.heap.size, 9, none⟩) (Nat.le_refl _) _).setCell (p := ⟨wr.heap.size, 10, none⟩) (Nat.le_refl _) _)
              have hbs11 : Blk Ws wr.heap.size 74 #[.string Y, .slice V nv v, .int .i64 zk, .string zx, .bool zt, .int .i64 zK, .string zX, .int .i64 zZ, .slice zB zm zq, .slice zA zn zc, .slice zL zl zd] := hWs ▸ blk_so11_2 _ _ _ _ _ _ _ _ _ HBB9.out
              have HB2s := hidE (HB29.out.same (hks _ (by have := hB2.out.lt; omega)))
              have HZS : Hid (wr.heap.size < Ws.heap.size) := hidE (by have := HZA.out; omega)
              have HCZ : Hid (pcA.Cs (fun g => S g ∨ (wr.heap.size ≤ g ∧ g < Ws.heap.size)) Ws (.mk c us (ren P.data.toList Q.data.toList b)) [.string Y, .slice V nv v, .int .i64 zk, .string zx, .bool zt, .int .i64 zK, .string zX, .int .i64 zZ, .slice zB zm zq, .slice zA zn zc, .slice zL zl zd]) := hidE (by
                obtain ⟨P2, hz, hT2, hI2⟩ := HC9.out
                have hS9 : ∀ g, (S g ∨ (Wa.heap.size ≤ g ∧ g < w9.heap.size)) → (S g ∨ (wr.heap.size ≤ g ∧ g < Ws.heap.size)) := fun g hg => hg.imp id fun h => ⟨by have := HZA.out; omega, by omega⟩
                have hk9 : ∀ g, (S g ∨ (Wa.heap.size ≤ g ∧ g < w9.heap.size)) → Ws.heap[g]? = w9.heap[g]? := fun g hg => hks g (by
                  rcases hg with h | h
                  · have := HSM.out g h; omega
                  · have := HZA.out; omega)
                refine ⟨V, v, P2, ?_, HVW.out.keep (fun _ h => .inl h) (fun a ha => HBS.out.block a (by have := HSM.out a ha; omega)), hT2.keep hS9 hk9, ExIn.keep hS9 hk9 _ _ _ hI2⟩
                show [.string Y, .slice V nv v, .int .i64 zk, .string zx, .bool zt, .int .i64 zK, .string zX, .int .i64 zZ, .slice zB zm zq, .slice zA zn zc, .slice zL zl zd] = [Sx.strV c, .slice V us.length v] ++ exC (ren P.data.toList Q.data.toList b) P2
                rw [← hz, HNV.out]
                simp [Sx.strV, HY.out])
              clear a0 a1 a2 a3 a4 a5 a6 a7 a8 a9 a10 y0 y1 y2 y3 y4 y5 y6 y7 y8 y9 y10 ly hks hzs hb9w
              obtain ⟨⟨a0, a1, a2, a3, a4, a5, a6, a7, a8, a9, a10⟩, -, ly⟩ := blk_facts11 hbs11
              rw [hWs]
              clear hWs hbs11 hs9 HB9 HC9 HB29 HBB9
              obtain ⟨⟨-, -, -, -, -, -, -, -, c8⟩, ⟨-, -, -, -, -, -, -, -, z8⟩, l8⟩ := blk_facts9 HB2s.out
              have HO3 := hidE ((own_below HOI.out HBS.out).alloc (.cells [.string Y, .slice V nv v, .int .i64 zk, .string zx, .bool zt, .int .i64 zK, .string zX, .int .i64 zZ, .slice zB zm zq, .slice zA zn zc, .slice zL zl zd].toArray 74))
              go_wp2_with (at_builtin; refine wpList_append_lies _ rfl (.tmp 100) (.tmp 102) 37 rfl Wm.heap.size 74 j0 _ 11 176 Tryz.underlying37 hj0 hy0 hy1 hy2 rfl (by decide) _ i vs rfl HO3.out ⟨Ws.heap.size, 0, none⟩ 1 1 [.string Y, .slice V nv v, .int .i64 zk, .string zx, .bool zt, .int .i64 zK, .string zX, .int .i64 zZ, .slice zB zm zq, .slice zA zn zc, .slice zL zl zd] rfl rfl (new_cells' _ _ _ _ (by simp)) (by intro u hu; simp at hu; rcases hu with rfl | rfl | rfl | rfl | rfl | rfl | rfl | rfl | rfl | rfl | rfl <;> rfl) (by omega) (by unfold maxLen; omega) (by omega) (by have := HZS.out; simp; omega) _ rfl ?_; intro g3 c3 w5 hown5 hgrow hat5 hlt5; have HNX := hidE (row_next (P := pcA) (j := 8) (v := .slice A2 i cp2) (v' := .slice (some ⟨g3, 0, none⟩) (i + 1) c3) (x := .mk c us (ren P.data.toList Q.data.toList b)) (cs := [.string Y, .slice V nv v, .int .i64 zk, .string zx, .bool zt, .int .i64 zK, .string zX, .int .i64 zZ, .slice zB zm zq, .slice zA zn zc, .slice zL zl zd]) HSM.out (by omega) hC2.out hB2.out HOW.out HRV.out (HBS.out.trans (((Below.refl Ws.heap.size Ws).alloc (Nat.le_refl _) (.cells [.string Y, .slice V nv v, .int .i64 zk, .string zx, .bool zt, .int .i64 zK, .string zX, .int .i64 zZ, .slice zB zm zq, .slice zA zn zc, .slice zL zl zd].toArray 74)).mono (by have := HZS.out; omega))) (pcA.keep (fun a h => h.imp id fun h => ⟨h.1, by have := h.2; simp; omega⟩) (fun a ha => Below.heap_alloc _ _ _ (ha.elim (fun h => by have := HSM.out a h; have := HZS.out; omega) (fun h => h.2))) HCZ.out) (by rw [HTL.out]; exact hown5) hgrow (hat5.elim (fun h => .inl h.symm) (fun h => .inr (congrArg some h)))); have hb5 := (HB2s.out.alloc (.cells [.string Y, .slice V nv v, .int .i64 zk, .string zx, .bool zt, .int .i64 zK, .string zX, .int .i64 zZ, .slice zB zm zq, .slice zA zn zc, .slice zL zl zd].toArray 74)).grown hgrow HNB.out; clear c8 z8 l8 hown5 hgrow hat5; obtain ⟨⟨-, -, -, -, -, -, -, -, c8⟩, ⟨-, -, -, -, -, -, -, -, z8⟩, l8⟩ := blk_facts9 hb5; clear hb5)
              go_roundg (na - (i + 1))
              case measure => omega
              case rel => exact ⟨i + 1, some ⟨g3, 0, none⟩, c3, rfl, by go_num, by omega, hidE HNX.out.1, hidE (by simpa using HNX.out.2.1), hidE (by rw [HTK.out, HR1.out]; exact HNX.out.2.2)⟩
          · have e1 : na = i := by omega
            subst e1
            have HTA2 : Hid ((altsE (ren P.data.toList Q.data.toList e)).take na = altsE (ren P.data.toList Q.data.toList e)) := hidE (List.take_of_length_le (by rw [ren_alts, List.length_map, HNA.out]; exact Nat.le_refl _))
            obtain ⟨-, -, hll⟩ := (HTA2.out ▸ hR2.out : Rw pcA S Wm.heap.size 74 wr (altsE (ren P.data.toList Q.data.toList e)) (.slice A2 na cp2)).lst
            have HB6w := hidE ((HB6.out.chg hC.out (by unfold only; omega)).chg hC2.out (by unfold only; omega))
            have hbw : Below w.heap.size w wr := (HB0.out.trans (hC.out.toBelow (by omega) (fun p hp => by unfold only; omega))).trans (hC2.out.toBelow (by omega) (fun p hp => by unfold only; omega))
            have HEND : Hid (RenP S w (ren P.data.toList Q.data.toList e) (.returned (.agg #[.int .i64 (k : Nat), .string N, .bool T, .int .i64 K, .string X, .int .i64 Z, .slice B m q, .slice A nk cp, .slice A2 na cp2])) (((((((((wr.setCell ⟨w.heap.size + 1, 0, none⟩ (.int .i64 (k : Nat))).setCell ⟨w.heap.size + 1, 1, none⟩ (.string N)).setCell ⟨w.heap.size + 1, 2, none⟩ (.bool T)).setCell ⟨w.heap.size + 1, 3, none⟩ (.int .i64 K)).setCell ⟨w.heap.size + 1, 4, none⟩ (.string X)).setCell ⟨w.heap.size + 1, 5, none⟩ (.int .i64 Z)).setCell ⟨w.heap.size + 1, 6, none⟩ (.slice B m q)).setCell ⟨w.heap.size + 1, 7, none⟩ (.slice A nk cp)).setCell ⟨w.heap.size + 1, 8, none⟩ (.slice A2 na cp2))) := hidE (by
              obtain ⟨Wz, hWz⟩ : ∃ y, (((((((((wr.setCell ⟨w.heap.size + 1, 0, none⟩ (.int .i64 (k : Nat))).setCell ⟨w.heap.size + 1, 1, none⟩ (.string N)).setCell ⟨w.heap.size + 1, 2, none⟩ (.bool T)).setCell ⟨w.heap.size + 1, 3, none⟩ (.int .i64 K)).setCell ⟨w.heap.size + 1, 4, none⟩ (.string X)).setCell ⟨w.heap.size + 1, 5, none⟩ (.int .i64 Z)).setCell ⟨w.heap.size + 1, 6, none⟩ (.slice B m q)).setCell ⟨w.heap.size + 1, 7, none⟩ (.slice A nk cp)).setCell ⟨w.heap.size + 1, 8, none⟩ (.slice A2 na cp2)) = y := ⟨_, rfl⟩
              have hkz : ∀ k, k ≠ w.heap.size + 1 → Wz.heap[k]? = wr.heap[k]? := fun k hk => hWz ▸ set9_far wr (w.heap.size + 1) k _ _ _ _ _ _ _ _ _ hk
              have hzz : Wz.heap.size = wr.heap.size := hWz ▸ size_set9 _ _ _ _ _ _ _ _ _ _ _
              have hbz : Below w.heap.size w Wz := hWz ▸ below_set9 hbw (by omega) _ _ _ _ _ _ _ _ _
              rw [hWz]
              refine HFIN.out Wz A A2 cp cp2 hcp hbz (HKL.out.keep (fun g hg => hg.imp id fun h => ⟨by omega, by omega⟩) (fun g hg => ?_)) (hll.keep (fun g hg => hg.imp id fun h => ⟨by omega, by omega⟩) (fun g hg => hkz g ?_))
              · have h1 : g < Wm.heap.size ∧ g ≠ w.heap.size + 1 + 1 ∧ g ≠ w.heap.size + 1 := by
                  rcases hg with h | h
                  · have := HSM.out g h; have := HS.out g h; omega
                  · omega
                exact (hkz g h1.2.2).trans (hC2.out.block g h1.1 h1.2.1)
              · rcases hg with h | h
                · have := HS.out g h; omega
                · omega)
            obtain ⟨⟨a0, a1, a2, a3, a4, a5, a6, a7, a8⟩, -, -⟩ := blk_facts9 hB2.out
            obtain ⟨⟨y0, y1, y2, y3, y4, y5, y6, y7, y8⟩, ⟨z0, z1, z2, z3, z4, z5, z6, z7, z8⟩, ly⟩ := blk_facts9 HB6w.out
            clear hll hbw hlt
            go_wp2_with fail
            try simp only [Exit.inBlock, Exit.then]
            refine bodyPost_ret (results_cell_row rfl _ _ (w.heap.size + 1) 39 _ (0, 0) _ rfl (blk_set9 _ _ _ _ _ _ _ _ _ HB6w.out) Tryz.underlying39 rfl (by kernel_rfl)) rfl ?_
            exact HEND.out

/-- renamed walked whole -/
theorem s9_ren (P Q : ByteArray) : ∀ n, RenOK P Q n
  | 0 => fun e S v w hn _ _ _ => by have := oneE_size e; omega
  | n + 1 => fun e S v w hn hv hS hwt => by
    by_cases h : e = .var P.data.toList
    · subst h
      rw [show ren P.data.toList Q.data.toList (.var P.data.toList) = .var Q.data.toList by rw [ren, if_pos rfl]]
      exact ren_hit P Q S v w hv
    · exact ren_step P Q n (s9_ren P Q n) e S v w hn hv hS hwt h
end Go.Proofs.YtefldbbiajkbnaaGreatDoor

namespace Go.Proofs.YtefldbbiajkbnaaGreatDoor
open Go.RowKit Lx Tx Sx Go.Maps Go.WideMaps Go.Shelf
set_option maxRecDepth 100000

mutual
theorem ren_wt (p q : Nm) : ∀ e : Ex, (ren p q e).wt = e.wt
  | .var y => by unfold ren; rfl
  | .con y => rfl
  | .lam y a => by
    unfold ren
    split
    · rfl
    · simp only [Ex.wt, ren_wt p q a]
  | .app a b => by unfold ren; simp only [Ex.wt, ren_wt p q a, ren_wt p q b]
  | .lt y t a b => by
    unfold ren
    split
    · simp only [Ex.wt, ren_wt p q a]
    · simp only [Ex.wt, ren_wt p q a, ren_wt p q b]
  | .cs a l => by unfold ren; simp only [Ex.wt, ren_wt p q a, ren_wtA p q l]
  | .ann a t => by unfold ren; simp only [Ex.wt, ren_wt p q a]
theorem ren_wt1 (p q : Nm) : ∀ a : Al, (ren1 p q a).wt = a.wt
  | .mk c vs b => by
    unfold ren1
    split
    · rfl
    · simp only [Al.wt, ren_wt p q b]
theorem ren_wtA (p q : Nm) : ∀ l : List Al, wtA (renA p q l) = wtA l
  | [] => rfl
  | a :: r => by unfold renA; simp only [wtA, ren_wt1 p q a, ren_wtA p q r]
end
mutual
theorem ren_ok {p q : Nm} (hq : Gd 1 q) : ∀ e : Ex, e.Ok → (ren p q e).Ok
  | .var y, h => by
    unfold ren Ex.Ok
    split
    · exact hq
    · exact h
  | .con y, h => h
  | .lam y a, h => by
    unfold ren
    split
    · exact h
    · exact ⟨h.1, ren_ok hq a h.2⟩
  | .app a b, h => by unfold ren; exact ⟨ren_ok hq a h.1, ren_ok hq b h.2⟩
  | .lt y t a b, h => by
    unfold ren
    split
    · exact ⟨h.1, h.2.1, ren_ok hq a h.2.2.1, h.2.2.2⟩
    · exact ⟨h.1, h.2.1, ren_ok hq a h.2.2.1, ren_ok hq b h.2.2.2⟩
  | .cs a l, h => by unfold ren; exact ⟨ren_ok hq a h.1, ren_okA hq l h.2⟩
  | .ann a t, h => by unfold ren; exact ⟨ren_ok hq a h.1, h.2⟩
theorem ren_ok1 {p q : Nm} (hq : Gd 1 q) : ∀ a : Al, a.Ok → (ren1 p q a).Ok
  | .mk c vs b, h => by
    unfold ren1
    split
    · exact h
    · exact ⟨h.1, h.2.1, ren_ok hq b h.2.2⟩
theorem ren_okA {p q : Nm} (hq : Gd 1 q) : ∀ l : List Al, okA l → okA (renA p q l)
  | [], h => h
  | a :: r, h => by unfold renA; exact ⟨ren_ok1 hq a h.1, ren_okA hq r h.2⟩
end
/-- a lambda of a name over what lies in a block -/
theorem lam_rd {S : Nat → Prop} {U : World} {X : ByteArray} {x : Ex} {xs : List Value} {g : Nat} {t : TypeId} (hS : S g) (hx : pcE.Cs S U x xs) (hb : Blk U g t xs.toArray) :
    RdX S U (.lam X.data.toList x) (.agg #[.int .i64 3, .string X, .bool false, .int .i64 0, .string ⟨#[]⟩, .int .i64 0, .slice none 0 0, .slice (some ⟨g, 0, none⟩) 1 1, .slice none 0 0]) := by
  have hl := lie_blk hb
  obtain ⟨P, rfl, hT, hI⟩ := hx
  refine ⟨⟨none, 0, some ⟨g, 0, none⟩, 0, none, 0⟩, ?_, trivial, ?_⟩
  · unfold exC
    simp [kdE, nmE, toE, tyE, kidsE, altsE, tyC, Sx.strV]
  · rw [ExIn]
    exact ⟨g, rfl, hS, P, hl, hT, hI⟩
theorem lam_call {W U : World} {S : Nat → Prop} {X : ByteArray} {x : Ex} {xs : List Value} {g : Nat} {t : TypeId} (hU : Below W.heap.size W U) (hx : pcE.Cs S U x xs) (hS : ∀ a, S a → a < U.heap.size) (hb : Blk U g t xs.toArray) (hok : x.Ok) (hwt : x.wt ≤ 4000) (hgd : Gd 1 X.data.toList) :
    Calls Tryz.prog 29 #[.agg #[.int .i64 3, .string X, .bool false, .int .i64 0, .string ⟨#[]⟩, .int .i64 0, .slice none 0 0, .slice (some ⟨g, 0, none⟩) 1 1, .slice none 0 0]] U (NmsP W (freeE (.lam X.data.toList x))) :=
  (sc_FreeP _ (fun a => a < U.heap.size) _ U (lam_rd hb.lt (pcE.keep hS (fun _ _ => rfl) hx) hb) (fun _ h => h) ⟨hgd, hok⟩ (by simp only [Ex.wt]; omega)).mono fun _ _ h => h.low hU

set_option maxHeartbeats 12800000 in
theorem s9_rename (s P Q : ByteArray) (w : World) (hs : s.size ≤ maxLen) (hP : P.size ≤ maxLen) (hQ : Q.size ≤ maxLen) : Calls Tryz.prog 9 #[.string s, .string P, .string Q] w fun e w' => e = .returned (.bool true) ∧ Below w.heap.size w w' := by
  have HAW := hidE (s9_awake w)
  have HP := hidE (fun U => sx_parseExpr s U hs)
  have HWP := hidE (fun U => s9_word P U hP)
  have HWQ := hidE (fun U => s9_word Q U hQ)
  clear hs hP hQ
  go_enter Tryz.func9, Tryz.ntmps9
  go_wp2_with fail
  refine HAW.out.mono ?_
  rintro e wa ⟨rfl, ba⟩
  have BA := hidE ba
  clear ba HAW
  go_wp2_with fail
  refine (HP.out _).mono ?_
  rintro e w1 ⟨b1, hcs⟩
  have B1 := hidE (BA.out.trans (b1.mono BA.out.size))
  have hs1 := b1.size
  clear HP
  rcases hcs with ⟨n, hn, hp, rfl⟩ | ⟨x, cs, hsh, hok, hwt, hp, rfl, hx⟩
  · have dn : ((n : Int) != 0) = true := neqT _ _ (by omega)
    unfold exZ
    clear hp hn b1
    go_wp2_with fail
    refine (HWP.out _).mono ?_
    rintro e w2 ⟨q1, rfl, -, b2⟩
    have B2 := hidE (((B1.out.alloc B1.out.size _).trans (b2.mono (by have := B1.out.size; simp; omega))))
    clear b2 HWP
    go_wp2_with fail
    refine (HWQ.out _).mono ?_
    rintro e w3 ⟨q2, rfl, -, b3⟩
    have B3 := hidE (B2.out.trans (b3.mono B2.out.size))
    clear b3 HWQ
    go_wp2_with fail
    go_ret
    exact ⟨rfl, B3.out⟩
  · obtain ⟨k, x0, t, K, X0, Z, B, m, q, KA, kn, kc, LA, ln, lc, rfl⟩ := hsh
    obtain ⟨W1, hW1⟩ : ∃ y, w1.alloc (.cells #[.int .i64 k, .string x0, .bool t, .int .i64 K, .string X0, .int .i64 Z, .slice B m q, .slice KA kn kc, .slice LA ln lc] 39) = y := ⟨_, rfl⟩
    have hbW : Below w1.heap.size w1 W1 := hW1 ▸ (Below.refl _ w1).alloc (Nat.le_refl _) _
    have hsW : W1.heap.size = w1.heap.size + 1 := by rw [← hW1]; simp
    have HBX := hidE (hW1 ▸ heap_alloc_new w1 _ : Blk W1 w1.heap.size 39 #[.int .i64 k, .string x0, .bool t, .int .i64 K, .string X0, .int .i64 Z, .slice B m q, .slice KA kn kc, .slice LA ln lc])
    have BX := hidE (B1.out.trans (hbW.mono B1.out.size))
    have HXX : Hid (∀ U, Below W1.heap.size W1 U → pcE.Cs (fun g => g < w1.heap.size) U x [.int .i64 k, .string x0, .bool t, .int .i64 K, .string X0, .int .i64 Z, .slice B m q, .slice KA kn kc, .slice LA ln lc]) := hidE (fun U hU => pcE.keep (fun g hg => hg.2) (fun g hg => (hbW.trans (hU.mono (by omega))).block g hg.2) hx)
    have HOK := hidE hok
    have HWT := hidE hwt
    have HSW := hidE hsW
    have HW1 := hidE hW1
    clear b1 hp hx hW1 hbW hsW hok hwt
    go_upto_region 3 with fail
    rw [HW1.out]
    clear HW1
    go_wp2_with fail
    refine (HWP.out _).mono ?_
    rintro e w2 ⟨q1, rfl, hg1, b2⟩
    have BW := hidE b2
    have HG1 := hidE hg1
    clear b2 HWP hg1
    go_wp2_with fail
    refine (HWQ.out _).mono ?_
    rintro e w3 ⟨q2, rfl, hg2, b3⟩
    replace BW := hidE (BW.out.trans (b3.mono BW.out.size))
    have HG2 := hidE hg2
    have B3 := hidE (BX.out.trans (BW.out.mono BX.out.size))
    clear b3 HWQ hg2
    by_cases hpq : P = Q
    · have dq := strT P Q hpq
      clear hpq
      go_wp2_with fail
      go_ret
      exact ⟨rfl, B3.out⟩
    have dq := strF P Q hpq
    clear hpq
    cases q1 with
    | false =>
      go_wp2_with fail
      go_ret
      exact ⟨rfl, B3.out⟩
    | true =>
    cases q2 with
    | false =>
      go_wp2_with fail
      go_ret
      exact ⟨rfl, B3.out⟩
    | true =>
    replace HG1 := hidE (HG1.out rfl)
    replace HG2 := hidE (HG2.out rfl)
    have HFR := hidE (sc_FreeP x _ _ w3 (rdX_cs.2 (HXX.out w3 BW.out)) (fun g hg => by have := HSW.out; have := BW.out.size; omega) HOK.out (by have := HWT.out; omega))
    obtain ⟨⟨a0, a1, a2, a3, a4, a5, a6, a7, a8⟩, -, -⟩ := blk_facts9 (HBX.out.below BW.out (by have := HSW.out; omega))
    go_wp2_with fail
    refine HFR.out.mono ?_
    rintro e w4 ⟨A1, n1, c1, rfl, hn1, hm1, hb1⟩
    obtain ⟨qa, hqa⟩ : ∃ y, decide (Q.data.toList ∈ freeE x) = y := ⟨_, rfl⟩
    have HHA := hidE (ref2_has (.slice A1 n1 c1) (freeE x) Q w4 (nms_rowV hn1 hm1 (fun g hg => hg.2)) (by have := len_all x; have := HWT.out; omega))
    rw [hqa] at HHA
    have HQA := hidE hqa
    replace BW := hidE (BW.out.trans (hb1.mono BW.out.size))
    clear hn1 hm1 hb1 hqa HFR a0 a1 a2 a3 a4 a5 a6 a7 a8
    go_wp2_with fail
    refine HHA.out.mono ?_
    rintro e w5 ⟨rfl, rfl⟩
    clear HHA
    have HBO := hidE (sc_BoundP x _ _ w4 (rdX_cs.2 (HXX.out w4 BW.out)) (fun g hg => by have := HSW.out; have := BW.out.size; omega) HOK.out (by have := HWT.out; omega))
    obtain ⟨⟨a0, a1, a2, a3, a4, a5, a6, a7, a8⟩, -, -⟩ := blk_facts9 (HBX.out.below BW.out (by have := HSW.out; omega))
    go_wp2_with fail
    refine HBO.out.mono ?_
    rintro e w6 ⟨A2, n2, c2, rfl, hn2, hm2, hb2⟩
    obtain ⟨qb, hqb⟩ : ∃ y, decide (Q.data.toList ∈ boundE x) = y := ⟨_, rfl⟩
    have HHB := hidE (ref2_has (.slice A2 n2 c2) (boundE x) Q w6 (nms_rowV hn2 hm2 (fun g hg => hg.2)) (by have := len_all x; have := HWT.out; omega))
    rw [hqb] at HHB
    have HQB := hidE hqb
    replace BW := hidE (BW.out.trans (hb2.mono BW.out.size))
    clear hn2 hm2 hb2 hqb HBO a0 a1 a2 a3 a4 a5 a6 a7 a8
    go_wp2_with fail
    refine HHB.out.mono ?_
    rintro e w7 ⟨rfl, rfl⟩
    clear HHB
    have B6 := hidE (BX.out.trans (BW.out.mono BX.out.size))
    cases qa with
    | true =>
      go_wp2_with fail
      go_ret
      exact ⟨rfl, B6.out⟩
    | false =>
    cases qb with
    | true =>
      go_wp2_with fail
      go_ret
      exact ⟨rfl, B6.out⟩
    | false =>
    have HEQ : Hid (freeE (.lam P.data.toList x) = freeE (.lam Q.data.toList (ren P.data.toList Q.data.toList x))) := hidE (by
      have h1 : Q.data.toList ∉ fr x := fun h => of_decide_eq_false HQA.out (mem_addA.2 (.inr h))
      have h2 : Q.data.toList ∉ bis x := fun h => of_decide_eq_false HQB.out (mem_addA.2 (.inr h))
      unfold freeE
      rw [fr_renamed h1 h2])
    have HLM : Hid (∀ U, Below w6.heap.size w6 U → ∀ g, Blk U g 39 #[.int .i64 k, .string x0, .bool t, .int .i64 K, .string X0, .int .i64 Z, .slice B m q, .slice KA kn kc, .slice LA ln lc] → Calls Tryz.prog 29 #[.agg #[.int .i64 3, .string P, .bool false, .int .i64 0, .string ⟨#[]⟩, .int .i64 0, .slice none 0 0, .slice (some ⟨g, 0, none⟩) 1 1, .slice none 0 0]] U (NmsP w6 (freeE (.lam P.data.toList x)))) := hidE (fun U hU g hb => lam_call hU (HXX.out U (BW.out.trans (hU.mono BW.out.size))) (fun a ha => by have := HSW.out; have := BW.out.size; have := hU.size; omega) hb HOK.out HWT.out HG1.out)
    obtain ⟨⟨a0, a1, a2, a3, a4, a5, a6, a7, a8⟩, -, -⟩ := blk_facts9 (HBX.out.below BW.out (by have := HSW.out; omega))
    go_wp2_with fail
    refine (HLM.out _ ((Below.refl _ w6).alloc (Nat.le_refl _) _) _ (alloc_at _ _ _ (by first | rfl | omega | simp))).mono ?_
    rintro e w8 ⟨A3, n3, c3, rfl, hn3, hm3, hb3⟩
    replace BW := hidE (BW.out.trans (hb3.mono BW.out.size))
    have HN3 := hidE hn3
    have HM3 := hidE hm3
    have hs8 := hb3.size
    clear hn3 hm3 hb3 HLM a0 a1 a2 a3 a4 a5 a6 a7 a8
    have HRN := hidE (s9_ren P Q x.size x (fun g => g < w1.heap.size) (.agg #[.int .i64 k, .string x0, .bool t, .int .i64 K, .string X0, .int .i64 Z, .slice B m q, .slice KA kn kc, .slice LA ln lc]) w8 (Nat.le_refl _) (rdX_cs.2 (HXX.out w8 BW.out)) (fun g hg => by have := HSW.out; have := BW.out.size; omega) (by have := HWT.out; omega))
    obtain ⟨⟨a0, a1, a2, a3, a4, a5, a6, a7, a8⟩, -, -⟩ := blk_facts9 (HBX.out.below BW.out (by have := HSW.out; omega))
    go_wp2_with fail
    refine HRN.out.mono ?_
    rintro e w9 ⟨cs9, hsh9, rfl, hcs9, hb9⟩
    obtain ⟨zk, zx, zt, zK, zX, zZ, zB, zm, zq, zA, zn, zc, zL, zl, zd, rfl⟩ := hsh9
    have HLQ : Hid (∀ U, Below w9.heap.size w9 U → ∀ g, Blk U g 39 #[.int .i64 zk, .string zx, .bool zt, .int .i64 zK, .string zX, .int .i64 zZ, .slice zB zm zq, .slice zA zn zc, .slice zL zl zd] → Calls Tryz.prog 29 #[.agg #[.int .i64 3, .string Q, .bool false, .int .i64 0, .string ⟨#[]⟩, .int .i64 0, .slice none 0 0, .slice (some ⟨g, 0, none⟩) 1 1, .slice none 0 0]] U (NmsP w9 (freeE (.lam Q.data.toList (ren P.data.toList Q.data.toList x))))) := hidE (fun U hU g hb => lam_call hU (pcE.keep (fun _ h => h) (fun a ha => hU.block a (by
        rcases ha with h | h
        · have := HSW.out; have := BW.out.size; have := hb9.size; omega
        · exact h.2)) hcs9) (fun a ha => by
        rcases ha with h | h
        · have := HSW.out; have := BW.out.size; have := hb9.size; have := hU.size; omega
        · have := hU.size; omega) hb (ren_ok HG2.out x HOK.out) (by rw [ren_wt]; exact HWT.out) HG2.out)
    replace HM3 := hidE (HM3.out.keep (S' := fun g => g < w9.heap.size) (fun g hg => by have := hb9.size; omega) (fun g hg => hb9.block g hg.2))
    replace BW := hidE (BW.out.trans (hb9.mono BW.out.size))
    clear hcs9 hb9 HRN a0 a1 a2 a3 a4 a5 a6 a7 a8
    go_wp2_with fail
    refine (HLQ.out _ ((Below.refl _ w9).alloc (Nat.le_refl _) _) _ (alloc_at _ _ _ (by first | rfl | omega | simp))).mono ?_
    rintro e w10 ⟨A4, n4, c4, rfl, hn4, hm4, hb4⟩
    have HNA := hidE (sc_names (freeE (.lam P.data.toList x)) (freeE (.lam Q.data.toList (ren P.data.toList Q.data.toList x))) _ _ A3 A4 c3 c4 w10 (HM3.out.keep (fun _ h => h) (fun g hg => hb4.block g hg)) hm4 (by have h1 := len_all (.lam P.data.toList x); have h2 := HWT.out; simp only [Ex.wt] at h1; omega))
    rw [← HN3.out, ← hn4, show decide (freeE (.lam P.data.toList x) = freeE (.lam Q.data.toList (ren P.data.toList Q.data.toList x))) = true from decide_eq_true HEQ.out] at HNA
    replace BW := hidE (BW.out.trans (hb4.mono BW.out.size))
    clear hn4 hm4 hb4 HLQ HM3 HN3
    go_wp2_with fail
    refine HNA.out.mono ?_
    rintro e w11 ⟨rfl, hb5⟩
    replace BW := hidE (BW.out.trans (hb5.mono BW.out.size))
    have BE := hidE (BX.out.trans (BW.out.mono BX.out.size))
    clear hb5 HNA
    go_wp2_with fail
    go_ret
    exact ⟨rfl, BE.out⟩
end Go.Proofs.YtefldbbiajkbnaaGreatDoor
