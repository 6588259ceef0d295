/-
  Contracts of the code's functions, part 23.
-/
import Derived.Test.YtefldbbiajkbnaaGreatDoorDaV
/-
  How constructors' declarations and declarations lie in memory; what reads them, as functions of the tokens.
-/
namespace Go.Proofs.YtefldbbiajkbnaaGreatDoor
open Go.RowKit Lx Tx Sx

/-- a constructor's declaration: its name, its type's four cells -/
def pcC : Pc (Nm × Ty) where
  n := 5
  Cs S w c cs := ∃ (A : Option Addr) (a : Nat), cs = Sx.strV c.1 :: tyV c.2 A a ∧ Args S w c.2 A
  len := by rintro S w c cs ⟨A, a, rfl, -⟩; rfl
  keep := by
    rintro S S' w w' c cs hS hk ⟨A, a, rfl, h⟩
    exact ⟨A, a, rfl, Args.keep hS hk _ _ h⟩
def shC (cs : List Value) : Prop := ∃ (s : ByteArray) (K : Int) (X : ByteArray) (Z : Int) (B : Option Addr) (m q : Nat), cs = [.string s, .int .i64 K, .string X, .int .i64 Z, .slice B m q]
def kdD : De → Nat
  | .data _ _ _ => 1
  | .sig _ _ => 2
  | .bind _ _ => 3
def nmD : De → Nm
  | .data n _ _ => n
  | .sig x _ => x
  | .bind x _ => x
/-- the cells of an expression without anything -/
def exZl : List Value := [.int .i64 0, .string ⟨#[]⟩, .bool false, .int .i64 0, .string ⟨#[]⟩, .int .i64 0, .slice none 0 0, .slice none 0 0, .slice none 0 0]
def tyZl : List Value := [.int .i64 0, .string ⟨#[]⟩, .int .i64 0, .slice none 0 0]
/-- a declaration's seventeen cells, and what lies behind them -/
def DeCs (S : Nat → Prop) (w : World) : De → List Value → Prop
  | .data n ps l, cs => ∃ (V : Option Addr) (v : Nat) (A : Option Addr) (a : Nat), cs = [.int .i64 1, Sx.strV n, .slice V ps.length v, .slice A l.length a] ++ tyZl ++ exZl ∧ NmsIn S w ps V ∧ LstG pcC S w l A
  | .sig x t, cs => ∃ (A : Option Addr) (a : Nat), cs = [.int .i64 2, Sx.strV x, .slice none 0 0, .slice none 0 0] ++ tyV t A a ++ exZl ∧ Args S w t A
  | .bind x e, cs => ∃ P : Pls, cs = [.int .i64 3, Sx.strV x, .slice none 0 0, .slice none 0 0] ++ tyZl ++ exC e P ∧ TyA S w (tyE e) P.A ∧ ExIn S w e P.K P.L
def pcD : Pc De where
  n := 17
  Cs := DeCs
  len := by
    intro S w d cs h
    cases d with
    | data n ps l => obtain ⟨V, v, A, a, rfl, -⟩ := h; rfl
    | sig x t => obtain ⟨A, a, rfl, -⟩ := h; rfl
    | bind x e => obtain ⟨P, rfl, -⟩ := h; simp [tyZl, exC_length]
  keep := by
    intro S S' w w' d cs hS hk h
    cases d with
    | data n ps l => obtain ⟨V, v, A, a, rfl, h1, h2⟩ := h; exact ⟨V, v, A, a, rfl, h1.keep hS hk, h2.keep hS hk⟩
    | sig x t => obtain ⟨A, a, rfl, h⟩ := h; exact ⟨A, a, rfl, Args.keep hS hk _ _ h⟩
    | bind x e => obtain ⟨P, rfl, h1, h2⟩ := h; exact ⟨P, rfl, h1.keep hS hk, ExIn.keep hS hk e _ _ h2⟩
def shD (cs : List Value) : Prop := ∃ (k0 : Int) (s : ByteArray) (V : Option Addr) (vm vq : Nat) (G : Option Addr) (gm gq : Nat) (K0 : Int) (X0 : ByteArray) (Z0 : Int) (B0 : Option Addr) (m0 q0 : Nat) (k : Int) (x : ByteArray) (t : Bool) (K : Int) (X : ByteArray) (Z : Int) (B : Option Addr) (m q : Nat) (KA : Option Addr) (kn kc : Nat) (LA : Option Addr) (ln lc : Nat),
  cs = [.int .i64 k0, .string s, .slice V vm vq, .slice G gm gq, .int .i64 K0, .string X0, .int .i64 Z0, .slice B0 m0 q0, .int .i64 k, .string x, .bool t, .int .i64 K, .string X, .int .i64 Z, .slice B m q, .slice KA kn kc, .slice LA ln lc]
/-! ### readers -/
def conF (l : List Tok) : Option ((Nm × Ty) × List Tok) :=
  if (hd l).kind = 2 then
    if isHd l.tail 6 [58] = true then (typ l.tail.tail).map fun y => (((hd l).text, y.1), y.2) else none
  else none
theorem rdCon_eq (l : List Tok) : rdCon l = conF l := by
  rw [rdCon, conF, tok1_any 2 (by decide)]
  by_cases h : (hd l).kind = 2
  · simp only [if_pos h]
    rw [show eat pCol l.tail = if isHd l.tail 6 [58] = true then some l.tail.tail else none from eat_isHd 6 (by decide) [58] _]
    by_cases h1 : isHd l.tail 6 [58] = true
    · simp only [if_pos h1]
    · simp only [if_neg h1]
  · simp only [if_neg h]
def dataF (l : List Tok) : Option (De × List Tok) :=
  if (hd l).kind = 2 then (brF (fun _ => rdCon) ((vars l.tail).2.tail.length + 1) (vars l.tail).2).map fun y => (.data (hd l).text (vars l.tail).1 y.1, y.2) else none
theorem rdData_eq (l : List Tok) : rdData l = dataF l := by
  rw [rdData, dataF, tok1_any 2 (by decide)]
  by_cases h : (hd l).kind = 2
  · simp only [if_pos h, eat_opn, brF]
    by_cases h2 : isHd (vars l.tail).2 6 [123] = true
    · simp only [if_pos h2, eat_cls]
      by_cases h3 : isHd (vars l.tail).2.tail 6 [125] = true
      · simp only [if_pos h3]; rfl
      · simp only [if_neg h3, Sx.sep, sep_sep]
        cases sepM (fun _ => rdCon) ((vars l.tail).2.tail.length + 1) (vars l.tail).2.tail with
        | none => rfl
        | some z =>
          simp only
          by_cases h4 : isHd z.2 6 [125] = true
          · simp only [if_pos h4]; rfl
          · simp only [if_neg h4]; rfl
    · simp only [if_neg h2]; rfl
  · simp only [if_neg h]
def declF (l : List Tok) : Option (De × List Tok) :=
  if isHd l 3 wData = true then rdData l.tail
  else if (hd l).kind = 1 then
    if isHd l.tail 6 [58] = true then (typ l.tail.tail).map fun y => (.sig (hd l).text y.1, y.2)
    else if isHd l.tail 6 [61] = true then (rdE (enoughE l.tail.tail) l.tail.tail).map fun y => (.bind (hd l).text y.1, y.2)
    else none
  else none
theorem rdDecl_eq (l : List Tok) : rdDecl l = declF l := by
  rw [rdDecl, declF, show eat (isKey · wData) l = if isHd l 3 wData = true then some l.tail else none from eat_isHd 3 (by decide) wData l]
  by_cases h : isHd l 3 wData = true
  · simp only [if_pos h]
  · simp only [if_neg h]
    rw [tok1_any 1 (by decide)]
    by_cases h1 : (hd l).kind = 1
    · simp only [if_pos h1, show eat pCol l.tail = if isHd l.tail 6 [58] = true then some l.tail.tail else none from eat_isHd 6 (by decide) [58] _]
      by_cases h2 : isHd l.tail 6 [58] = true
      · simp only [if_pos h2]
      · simp only [if_neg h2, show eat pEq l.tail = if isHd l.tail 6 [61] = true then some l.tail.tail else none from eat_isHd 6 (by decide) [61] _]
        by_cases h3 : isHd l.tail 6 [61] = true
        · simp only [if_pos h3]
        · simp only [if_neg h3]
    · simp only [if_neg h1]
end Go.Proofs.YtefldbbiajkbnaaGreatDoor

/-
  Package syntax: what tells that a piece stands next: an atom; a semicolon, which is gone past.
-/
namespace Go.Proofs.YtefldbbiajkbnaaGreatDoor
open Go.RowKit Lx Tx Sx

theorem nx_atom (S : Nat → Prop) (b : Nat) (l : List Tok) (w : World) (h : RdrS S w b l) (hS : ∀ g, S g → g ≠ b ∧ g < w.heap.size) (hl : l.length ≤ 100000) :
    Calls Tryz.prog 149 #[.pointer (some ⟨b, 0, none⟩)] w fun e w' => e = .returned (.bool (atomEB l)) ∧ RdrS S w' b (if atomEB l = true then id l else l) ∧ ChR b w w' := by
  refine (sx_atAtom S b l w h (fun g hg => (hS g hg).2) hl).mono ?_
  rintro e w' ⟨rfl, hb⟩
  refine ⟨rfl, ?_, ChR.of_below hb⟩
  have : (if atomEB l = true then id l else l) = l := by split <;> rfl
  rw [this]
  exact h.below hb (fun g hg => (hS g hg).2)
theorem nx_atom_af (l : List Tok) (hG : AllG l) (_ : atomEB l = true) : AllG (id l) ∧ (id l).length ≤ l.length ∧ 3 * (id l).length + 1 + 1 ≤ 3 * l.length + 2 := ⟨hG, Nat.le_refl _, Nat.le_refl _⟩
theorem nx_sep_af (l : List Tok) (hG : AllG l) (h : semB l = true) : AllG l.tail ∧ l.tail.length ≤ l.length ∧ 3 * l.tail.length + 0 + 1 ≤ 3 * l.length + 1 := by
  obtain ⟨t0, r, e, -, -⟩ := isHd_ne l 6 [59] (by decide) h
  subst e
  exact ⟨AllG.tail' hG, by simp, by simp <;> omega⟩
/-- what was made ahead of the pieces does not matter -/
theorem LPost.pre {α : Type} {P : Pc α} {S : Nat → Prop} {b : Nat} {w w0 : World} {o : Option (List α × List Tok)} {e : Ending} {w' : World} (c : ChR b w w0) (h : LPost P S b w0 o e w') : LPost P S b w o e w' := by
  obtain ⟨h1, A, m, d, h⟩ := h
  refine ⟨c.trans h1, A, m, d, ?_⟩
  rcases h with h | ⟨x, r, h2, h3, h4, h5, h6⟩
  · exact .inl h
  · exact .inr ⟨x, r, h2, h3, h4, h5.keep (fun g hg => ⟨Nat.le_trans c.size hg.1, hg.2⟩) (fun _ _ => rfl), h6⟩
end Go.Proofs.YtefldbbiajkbnaaGreatDoor

/-
  What stands behind an opening brace, as a function of the tokens; what pieces in braces leave is no longer.
-/
namespace Go.Proofs.YtefldbbiajkbnaaGreatDoor
open Go.RowKit Lx Tx Sx

def brG {α : Type} (rd : Nat → List Tok → Option (α × List Tok)) (f : Nat) (r : List Tok) : Option (List α × List Tok) :=
  if isHd r 6 [125] = true then some ([], r.tail)
  else
    match sepM rd f r with
    | none => none
    | some y => if isHd y.2 6 [125] = true then some (y.1, y.2.tail) else none
theorem brF_eq {α : Type} (rd : Nat → List Tok → Option (α × List Tok)) (f : Nat) (l : List Tok) : brF rd f l = if isHd l 6 [123] = true then brG rd f l.tail else none := rfl
theorem many_len {α : Type} {nx : List Tok → Bool} {af : List Tok → List Tok} {rd : Nat → List Tok → Option (α × List Tok)} (haf : ∀ l, AllG l → nx l = true → AllG (af l) ∧ (af l).length ≤ l.length)
    (hrd : ∀ (f1 : Nat) (l : List Tok) (x : α) (r : List Tok), AllG l → rd f1 l = some (x, r) → AllG r ∧ r.length < l.length) (f : Nat) : ∀ (l : List Tok) (x : List α) (r : List Tok), AllG l → manyF nx af rd f l = some (x, r) → AllG r ∧ r.length ≤ l.length := by
  induction f with
  | zero => intro l x r _ h; rw [manyF] at h; cases h
  | succ f ih =>
    intro l x r hG h
    by_cases hn : nx l = true
    · obtain ⟨g1, l1⟩ := haf l hG hn
      cases ho : rd f (af l) with
      | none => rw [many_no f l hn ho] at h; cases h
      | some y =>
        obtain ⟨p, r1⟩ := y
        rw [many_yes f l hn p r1 ho] at h
        obtain ⟨g2, l2⟩ := hrd f _ p r1 g1 ho
        cases hm : manyF nx af rd f r1 with
        | none => rw [hm] at h; cases h
        | some z =>
          obtain ⟨xs, r2⟩ := z
          rw [hm] at h
          simp only [Option.map_some, Option.some.injEq, Prod.mk.injEq] at h
          obtain ⟨rfl, rfl⟩ := h
          obtain ⟨g3, l3⟩ := ih r1 xs r2 g2 hm
          exact ⟨g3, by omega⟩
    · rw [many_end f l (by simpa using hn)] at h
      simp only [Option.some.injEq, Prod.mk.injEq] at h
      obtain ⟨rfl, rfl⟩ := h
      exact ⟨hG, Nat.le_refl _⟩
theorem sem_af (l : List Tok) (hG : AllG l) (h : semB l = true) : AllG l.tail ∧ l.tail.length ≤ l.length := by
  obtain ⟨t0, r, e, -, -⟩ := isHd_ne l 6 [59] (by decide) h
  subst e
  exact ⟨AllG.tail' hG, by simp⟩
theorem sep_len {α : Type} {rd : Nat → List Tok → Option (α × List Tok)} (hrd : ∀ (f1 : Nat) (l : List Tok) (x : α) (r : List Tok), AllG l → rd f1 l = some (x, r) → AllG r ∧ r.length < l.length) (f : Nat) (l : List Tok) (x : List α) (r : List Tok)
    (hG : AllG l) (h : sepM rd f l = some (x, r)) : AllG r ∧ r.length < l.length := by
  rw [sepM] at h
  cases ho : rd f l with
  | none => rw [ho] at h; cases h
  | some y =>
    obtain ⟨p, r1⟩ := y
    rw [ho] at h
    simp only at h
    obtain ⟨g1, l1⟩ := hrd f l p r1 hG ho
    cases hm : manyF semB List.tail rd f r1 with
    | none => rw [hm] at h; cases h
    | some z =>
      obtain ⟨xs, r2⟩ := z
      rw [hm] at h
      simp only [Option.map_some, Option.some.injEq, Prod.mk.injEq] at h
      obtain ⟨rfl, rfl⟩ := h
      obtain ⟨g3, l3⟩ := many_len sem_af hrd f r1 xs r2 g1 hm
      exact ⟨g3, by omega⟩
theorem br_len {α : Type} {rd : Nat → List Tok → Option (α × List Tok)} (hrd : ∀ (f1 : Nat) (l : List Tok) (x : α) (r : List Tok), AllG l → rd f1 l = some (x, r) → AllG r ∧ r.length < l.length) (f : Nat) (l : List Tok) (x : List α) (r : List Tok)
    (hG : AllG l) (h : brF rd f l = some (x, r)) : AllG r ∧ r.length < l.length := by
  rw [brF_eq] at h
  by_cases h1 : isHd l 6 [123] = true
  · rw [if_pos h1, brG] at h
    obtain ⟨t0, r0, e, -, -⟩ := isHd_ne l 6 [123] (by decide) h1
    subst e
    rw [List.tail_cons] at h
    have hG1 : AllG r0 := AllG.tail' hG
    by_cases h2 : isHd r0 6 [125] = true
    · rw [if_pos h2] at h
      obtain ⟨t1, r1, e, -, -⟩ := isHd_ne r0 6 [125] (by decide) h2
      subst e
      simp only [List.tail_cons, Option.some.injEq, Prod.mk.injEq] at h
      obtain ⟨rfl, rfl⟩ := h
      exact ⟨AllG.tail' hG1, by simp; omega⟩
    · rw [if_neg h2] at h
      cases ho : sepM rd f r0 with
      | none => rw [ho] at h; cases h
      | some y =>
        obtain ⟨xs, r1⟩ := y
        rw [ho] at h
        simp only at h
        obtain ⟨g1, l1⟩ := sep_len hrd f r0 xs r1 hG1 ho
        by_cases h3 : isHd r1 6 [125] = true
        · rw [if_pos h3] at h
          obtain ⟨t1, r2, e, -, -⟩ := isHd_ne r1 6 [125] (by decide) h3
          subst e
          simp only [List.tail_cons, Option.some.injEq, Prod.mk.injEq] at h
          obtain ⟨rfl, rfl⟩ := h
          exact ⟨AllG.tail' g1, by simp at l1 ⊢; omega⟩
        · rw [if_neg h3] at h; cases h
  · rw [if_neg h1] at h; cases h
end Go.Proofs.YtefldbbiajkbnaaGreatDoor

/-
  Package syntax: what serves the readers of expressions: kids in blocks that were just made.
-/
namespace Go.Proofs.YtefldbbiajkbnaaGreatDoor
open Go.RowKit Lx Tx Sx

theorem lie_blk {w : World} {g : Nat} {cs : List Value} {t : TypeId} (h : Blk w g t cs.toArray) : Lie w g 0 cs := by
  intro j v hv
  have h0 := h.cell j
  rw [Nat.zero_add]
  rw [h0]
  simpa using hv
/-- one kid, in a block that has its cells -/
theorem kid_new {S S' : Nat → Prop} {w w' : World} {y : Ex} {cs : List Value} {g : Nat} {t : TypeId} (hx : pcE.Cs S w y cs) (hS : ∀ k, S k → S' k) (hk : ∀ k, S k → w'.heap[k]? = w.heap[k]?) (hl : Blk w' g t cs.toArray) :
    ∃ P : Pls, Lie w' g 0 (exC y P) ∧ TyA S' w' (tyE y) P.A ∧ ExIn S' w' y P.K P.L := by
  obtain ⟨P, rfl, h2, h3⟩ := pcE.keep hS hk hx
  exact ⟨P, lie_blk hl, h2, h3⟩
/-- two kids, one behind the other, in a block -/
theorem kids_new {S S' : Nat → Prop} {w w' : World} {y z : Ex} {cs ds : List Value} {g : Nat} {t : TypeId} (hx : pcE.Cs S w y cs) (hz : pcE.Cs S w z ds) (hS : ∀ k, S k → S' k) (hk : ∀ k, S k → w'.heap[k]? = w.heap[k]?) (hl : Blk w' g t (cs ++ ds).toArray) :
    (∃ P : Pls, Lie w' g 0 (exC y P) ∧ TyA S' w' (tyE y) P.A ∧ ExIn S' w' y P.K P.L) ∧ ∃ P : Pls, Lie w' g 9 (exC z P) ∧ TyA S' w' (tyE z) P.A ∧ ExIn S' w' z P.K P.L := by
  have hl1 := pcE.len hx
  have hL := lie_blk hl
  obtain ⟨P, rfl, h2, h3⟩ := pcE.keep hS hk hx
  obtain ⟨Q, rfl, h4, h5⟩ := pcE.keep hS hk hz
  refine ⟨⟨P, fun j v hv => ?_, h2, h3⟩, Q, fun j v hv => ?_, h4, h5⟩
  · exact hL j v (by rw [List.getElem?_append_left (List.getElem?_eq_some_iff.1 hv).1]; exact hv)
  · have := hL (9 + j) v (by rw [List.getElem?_append_right (by rw [exC_length]; omega), exC_length, Nat.add_sub_cancel_left]; exact hv)
    rwa [Nat.zero_add] at this
theorem two_new (W : World) (o o2 : Obj) (k : Nat) (hk : k < W.heap.size) : ((W.alloc o).alloc o2).heap[k]? = W.heap[k]? := (Below.heap_alloc _ _ _ (by simp; omega)).trans (Below.heap_alloc _ _ _ hk)
theorem two_top (W : World) (o o2 : Obj) (n : Nat) (hn : W.heap.size = n) : ((W.alloc o).alloc o2).heap[n + 1]? = some o2 := by
  have := heap_alloc_new (W.alloc o) o2
  rwa [show (W.alloc o).heap.size = n + 1 by simp [hn]] at this
theorem size_set9 (w : World) (g : Nat) (b0 b1 b2 b3 b4 b5 b6 b7 b8 : Value) :
    (((((((((w.setCell ⟨g, 0, none⟩ b0).setCell ⟨g, 1, none⟩ b1).setCell ⟨g, 2, none⟩ b2).setCell ⟨g, 3, none⟩ b3).setCell ⟨g, 4, none⟩ b4).setCell ⟨g, 5, none⟩ b5).setCell ⟨g, 6, none⟩ b6).setCell ⟨g, 7, none⟩ b7).setCell ⟨g, 8, none⟩ b8).heap.size = w.heap.size := by simp
end Go.Proofs.YtefldbbiajkbnaaGreatDoor

/-
  Blocks of five, nine, eleven, seventeen cells: what is stored into all of them at once.
-/
namespace Go.Proofs.YtefldbbiajkbnaaGreatDoor
open Go.RowKit Lx Tx Sx
set_option maxRecDepth 100000

theorem blk_set5 {w : World} {g : Nat} {t : TypeId} {a0 a1 a2 a3 a4 : Value} (b0 b1 b2 b3 b4 : Value) (h : Blk w g t #[a0, a1, a2, a3, a4]) : Blk (((((w.setCell ⟨g, 0, none⟩ b0).setCell ⟨g, 1, none⟩ b1).setCell ⟨g, 2, none⟩ b2).setCell ⟨g, 3, none⟩ b3).setCell ⟨g, 4, none⟩ b4) g t #[b0, b1, b2, b3, b4] := by
  have s : ∀ (W : World) (cs : Array Value) (i : Nat) (b : Value), Blk W g t cs → Blk (W.setCell ⟨g, i, none⟩ b) g t (cs.setIfInBounds i b) := fun W cs i b h => heap_setCell_same W g i _ _ b h
  have hh := (s _ _ 4 b4 (s _ _ 3 b3 (s _ _ 2 b2 (s _ _ 1 b1 (s _ _ 0 b0 h)))))
  have e : ((((((#[a0, a1, a2, a3, a4] : Array Value).setIfInBounds 0 b0).setIfInBounds 1 b1).setIfInBounds 2 b2).setIfInBounds 3 b3).setIfInBounds 4 b4) = #[b0, b1, b2, b3, b4] := by simp
  rw [e] at hh
  exact hh
theorem ChR.set5 {bb : Nat} {w w' : World} {g : Nat} (h : ChR bb w w') (b0 b1 b2 b3 b4 : Value) (hg : w.heap.size ≤ g) : ChR bb w (((((w'.setCell ⟨g, 0, none⟩ b0).setCell ⟨g, 1, none⟩ b1).setCell ⟨g, 2, none⟩ b2).setCell ⟨g, 3, none⟩ b3).setCell ⟨g, 4, none⟩ b4) :=
  (((((h.setCell (p := ⟨g, 0, none⟩) (.inl hg) b0).setCell (p := ⟨g, 1, none⟩) (.inl hg) b1).setCell (p := ⟨g, 2, none⟩) (.inl hg) b2).setCell (p := ⟨g, 3, none⟩) (.inl hg) b3).setCell (p := ⟨g, 4, none⟩) (.inl hg) b4)
theorem set5_far (w : World) (g k : Nat) (b0 b1 b2 b3 b4 : Value) (hk : k ≠ g) : (((((w.setCell ⟨g, 0, none⟩ b0).setCell ⟨g, 1, none⟩ b1).setCell ⟨g, 2, none⟩ b2).setCell ⟨g, 3, none⟩ b3).setCell ⟨g, 4, none⟩ b4).heap[k]? = w.heap[k]? := by
  rw [Below.heap_setCell _ ⟨g, 4, none⟩ _ k hk, Below.heap_setCell _ ⟨g, 3, none⟩ _ k hk, Below.heap_setCell _ ⟨g, 2, none⟩ _ k hk, Below.heap_setCell _ ⟨g, 1, none⟩ _ k hk, Below.heap_setCell _ ⟨g, 0, none⟩ _ k hk]
theorem size_set5 (w : World) (g : Nat) (b0 b1 b2 b3 b4 : Value) : (((((w.setCell ⟨g, 0, none⟩ b0).setCell ⟨g, 1, none⟩ b1).setCell ⟨g, 2, none⟩ b2).setCell ⟨g, 3, none⟩ b3).setCell ⟨g, 4, none⟩ b4).heap.size = w.heap.size := by simp
theorem blk_facts5 {w : World} {g : Nat} {t : TypeId} {a0 a1 a2 a3 a4 : Value} (h : Blk w g t #[a0, a1, a2, a3, a4]) : (w.cell? ⟨g, 0, none⟩ = some a0 ∧ w.cell? ⟨g, 1, none⟩ = some a1 ∧ w.cell? ⟨g, 2, none⟩ = some a2 ∧ w.cell? ⟨g, 3, none⟩ = some a3 ∧ w.cell? ⟨g, 4, none⟩ = some a4) ∧ (w.frozen? ⟨g, 0, none⟩ = false ∧ w.frozen? ⟨g, 1, none⟩ = false ∧ w.frozen? ⟨g, 2, none⟩ = false ∧ w.frozen? ⟨g, 3, none⟩ = false ∧ w.frozen? ⟨g, 4, none⟩ = false) ∧ g < w.heap.size :=
  ⟨⟨h.cell 0, h.cell 1, h.cell 2, h.cell 3, h.cell 4⟩, ⟨h.frozen 0, h.frozen 1, h.frozen 2, h.frozen 3, h.frozen 4⟩, h.lt⟩
theorem blk_facts9 {w : World} {g : Nat} {t : TypeId} {a0 a1 a2 a3 a4 a5 a6 a7 a8 : Value} (h : Blk w g t #[a0, a1, a2, a3, a4, a5, a6, a7, a8]) : (w.cell? ⟨g, 0, none⟩ = some a0 ∧ w.cell? ⟨g, 1, none⟩ = some a1 ∧ w.cell? ⟨g, 2, none⟩ = some a2 ∧ w.cell? ⟨g, 3, none⟩ = some a3 ∧ w.cell? ⟨g, 4, none⟩ = some a4 ∧ w.cell? ⟨g, 5, none⟩ = some a5 ∧ w.cell? ⟨g, 6, none⟩ = some a6 ∧ w.cell? ⟨g, 7, none⟩ = some a7 ∧ w.cell? ⟨g, 8, none⟩ = some a8) ∧ (w.frozen? ⟨g, 0, none⟩ = false ∧ w.frozen? ⟨g, 1, none⟩ = false ∧ w.frozen? ⟨g, 2, none⟩ = false ∧ w.frozen? ⟨g, 3, none⟩ = false ∧ w.frozen? ⟨g, 4, none⟩ = false ∧ w.frozen? ⟨g, 5, none⟩ = false ∧ w.frozen? ⟨g, 6, none⟩ = false ∧ w.frozen? ⟨g, 7, none⟩ = false ∧ w.frozen? ⟨g, 8, none⟩ = false) ∧ g < w.heap.size :=
  ⟨⟨h.cell 0, h.cell 1, h.cell 2, h.cell 3, h.cell 4, h.cell 5, h.cell 6, h.cell 7, h.cell 8⟩, ⟨h.frozen 0, h.frozen 1, h.frozen 2, h.frozen 3, h.frozen 4, h.frozen 5, h.frozen 6, h.frozen 7, h.frozen 8⟩, h.lt⟩
theorem blk_set11 {w : World} {g : Nat} {t : TypeId} {a0 a1 a2 a3 a4 a5 a6 a7 a8 a9 a10 : Value} (b0 b1 b2 b3 b4 b5 b6 b7 b8 b9 b10 : Value) (h : Blk w g t #[a0, a1, a2, a3, a4, a5, a6, a7, a8, a9, a10]) : Blk (((((((((((w.setCell ⟨g, 0, none⟩ b0).setCell ⟨g, 1, none⟩ b1).setCell ⟨g, 2, none⟩ b2).setCell ⟨g, 3, none⟩ b3).setCell ⟨g, 4, none⟩ b4).setCell ⟨g, 5, none⟩ b5).setCell ⟨g, 6, none⟩ b6).setCell ⟨g, 7, none⟩ b7).setCell ⟨g, 8, none⟩ b8).setCell ⟨g, 9, none⟩ b9).setCell ⟨g, 10, none⟩ b10) g t #[b0, b1, b2, b3, b4, b5, b6, b7, b8, b9, b10] := by
  have s : ∀ (W : World) (cs : Array Value) (i : Nat) (b : Value), Blk W g t cs → Blk (W.setCell ⟨g, i, none⟩ b) g t (cs.setIfInBounds i b) := fun W cs i b h => heap_setCell_same W g i _ _ b h
  have hh := (s _ _ 10 b10 (s _ _ 9 b9 (s _ _ 8 b8 (s _ _ 7 b7 (s _ _ 6 b6 (s _ _ 5 b5 (s _ _ 4 b4 (s _ _ 3 b3 (s _ _ 2 b2 (s _ _ 1 b1 (s _ _ 0 b0 h)))))))))))
  have e : ((((((((((((#[a0, a1, a2, a3, a4, a5, a6, a7, a8, a9, a10] : Array Value).setIfInBounds 0 b0).setIfInBounds 1 b1).setIfInBounds 2 b2).setIfInBounds 3 b3).setIfInBounds 4 b4).setIfInBounds 5 b5).setIfInBounds 6 b6).setIfInBounds 7 b7).setIfInBounds 8 b8).setIfInBounds 9 b9).setIfInBounds 10 b10) = #[b0, b1, b2, b3, b4, b5, b6, b7, b8, b9, b10] := by simp
  rw [e] at hh
  exact hh
theorem ChR.set11 {bb : Nat} {w w' : World} {g : Nat} (h : ChR bb w w') (b0 b1 b2 b3 b4 b5 b6 b7 b8 b9 b10 : Value) (hg : w.heap.size ≤ g) : ChR bb w (((((((((((w'.setCell ⟨g, 0, none⟩ b0).setCell ⟨g, 1, none⟩ b1).setCell ⟨g, 2, none⟩ b2).setCell ⟨g, 3, none⟩ b3).setCell ⟨g, 4, none⟩ b4).setCell ⟨g, 5, none⟩ b5).setCell ⟨g, 6, none⟩ b6).setCell ⟨g, 7, none⟩ b7).setCell ⟨g, 8, none⟩ b8).setCell ⟨g, 9, none⟩ b9).setCell ⟨g, 10, none⟩ b10) :=
  (((((((((((h.setCell (p := ⟨g, 0, none⟩) (.inl hg) b0).setCell (p := ⟨g, 1, none⟩) (.inl hg) b1).setCell (p := ⟨g, 2, none⟩) (.inl hg) b2).setCell (p := ⟨g, 3, none⟩) (.inl hg) b3).setCell (p := ⟨g, 4, none⟩) (.inl hg) b4).setCell (p := ⟨g, 5, none⟩) (.inl hg) b5).setCell (p := ⟨g, 6, none⟩) (.inl hg) b6).setCell (p := ⟨g, 7, none⟩) (.inl hg) b7).setCell (p := ⟨g, 8, none⟩) (.inl hg) b8).setCell (p := ⟨g, 9, none⟩) (.inl hg) b9).setCell (p := ⟨g, 10, none⟩) (.inl hg) b10)
theorem set11_far (w : World) (g k : Nat) (b0 b1 b2 b3 b4 b5 b6 b7 b8 b9 b10 : Value) (hk : k ≠ g) : (((((((((((w.setCell ⟨g, 0, none⟩ b0).setCell ⟨g, 1, none⟩ b1).setCell ⟨g, 2, none⟩ b2).setCell ⟨g, 3, none⟩ b3).setCell ⟨g, 4, none⟩ b4).setCell ⟨g, 5, none⟩ b5).setCell ⟨g, 6, none⟩ b6).setCell ⟨g, 7, none⟩ b7).setCell ⟨g, 8, none⟩ b8).setCell ⟨g, 9, none⟩ b9).setCell ⟨g, 10, none⟩ b10).heap[k]? = w.heap[k]? := by
  rw [Below.heap_setCell _ ⟨g, 10, none⟩ _ k hk, Below.heap_setCell _ ⟨g, 9, none⟩ _ k hk, Below.heap_setCell _ ⟨g, 8, none⟩ _ k hk, Below.heap_setCell _ ⟨g, 7, none⟩ _ k hk, Below.heap_setCell _ ⟨g, 6, none⟩ _ k hk, Below.heap_setCell _ ⟨g, 5, none⟩ _ k hk, Below.heap_setCell _ ⟨g, 4, none⟩ _ k hk, Below.heap_setCell _ ⟨g, 3, none⟩ _ k hk, Below.heap_setCell _ ⟨g, 2, none⟩ _ k hk, Below.heap_setCell _ ⟨g, 1, none⟩ _ k hk, Below.heap_setCell _ ⟨g, 0, none⟩ _ k hk]
theorem size_set11 (w : World) (g : Nat) (b0 b1 b2 b3 b4 b5 b6 b7 b8 b9 b10 : Value) : (((((((((((w.setCell ⟨g, 0, none⟩ b0).setCell ⟨g, 1, none⟩ b1).setCell ⟨g, 2, none⟩ b2).setCell ⟨g, 3, none⟩ b3).setCell ⟨g, 4, none⟩ b4).setCell ⟨g, 5, none⟩ b5).setCell ⟨g, 6, none⟩ b6).setCell ⟨g, 7, none⟩ b7).setCell ⟨g, 8, none⟩ b8).setCell ⟨g, 9, none⟩ b9).setCell ⟨g, 10, none⟩ b10).heap.size = w.heap.size := by simp
theorem blk_facts11 {w : World} {g : Nat} {t : TypeId} {a0 a1 a2 a3 a4 a5 a6 a7 a8 a9 a10 : Value} (h : Blk w g t #[a0, a1, a2, a3, a4, a5, a6, a7, a8, a9, a10]) : (w.cell? ⟨g, 0, none⟩ = some a0 ∧ w.cell? ⟨g, 1, none⟩ = some a1 ∧ w.cell? ⟨g, 2, none⟩ = some a2 ∧ w.cell? ⟨g, 3, none⟩ = some a3 ∧ w.cell? ⟨g, 4, none⟩ = some a4 ∧ w.cell? ⟨g, 5, none⟩ = some a5 ∧ w.cell? ⟨g, 6, none⟩ = some a6 ∧ w.cell? ⟨g, 7, none⟩ = some a7 ∧ w.cell? ⟨g, 8, none⟩ = some a8 ∧ w.cell? ⟨g, 9, none⟩ = some a9 ∧ w.cell? ⟨g, 10, none⟩ = some a10) ∧ (w.frozen? ⟨g, 0, none⟩ = false ∧ w.frozen? ⟨g, 1, none⟩ = false ∧ w.frozen? ⟨g, 2, none⟩ = false ∧ w.frozen? ⟨g, 3, none⟩ = false ∧ w.frozen? ⟨g, 4, none⟩ = false ∧ w.frozen? ⟨g, 5, none⟩ = false ∧ w.frozen? ⟨g, 6, none⟩ = false ∧ w.frozen? ⟨g, 7, none⟩ = false ∧ w.frozen? ⟨g, 8, none⟩ = false ∧ w.frozen? ⟨g, 9, none⟩ = false ∧ w.frozen? ⟨g, 10, none⟩ = false) ∧ g < w.heap.size :=
  ⟨⟨h.cell 0, h.cell 1, h.cell 2, h.cell 3, h.cell 4, h.cell 5, h.cell 6, h.cell 7, h.cell 8, h.cell 9, h.cell 10⟩, ⟨h.frozen 0, h.frozen 1, h.frozen 2, h.frozen 3, h.frozen 4, h.frozen 5, h.frozen 6, h.frozen 7, h.frozen 8, h.frozen 9, h.frozen 10⟩, h.lt⟩
theorem blk_facts17 {w : World} {g : Nat} {t : TypeId} {a0 a1 a2 a3 a4 a5 a6 a7 a8 a9 a10 a11 a12 a13 a14 a15 a16 : Value} (h : Blk w g t #[a0, a1, a2, a3, a4, a5, a6, a7, a8, a9, a10, a11, a12, a13, a14, a15, a16]) : (w.cell? ⟨g, 0, none⟩ = some a0 ∧ w.cell? ⟨g, 1, none⟩ = some a1 ∧ w.cell? ⟨g, 2, none⟩ = some a2 ∧ w.cell? ⟨g, 3, none⟩ = some a3 ∧ w.cell? ⟨g, 4, none⟩ = some a4 ∧ w.cell? ⟨g, 5, none⟩ = some a5 ∧ w.cell? ⟨g, 6, none⟩ = some a6 ∧ w.cell? ⟨g, 7, none⟩ = some a7 ∧ w.cell? ⟨g, 8, none⟩ = some a8 ∧ w.cell? ⟨g, 9, none⟩ = some a9 ∧ w.cell? ⟨g, 10, none⟩ = some a10 ∧ w.cell? ⟨g, 11, none⟩ = some a11 ∧ w.cell? ⟨g, 12, none⟩ = some a12 ∧ w.cell? ⟨g, 13, none⟩ = some a13 ∧ w.cell? ⟨g, 14, none⟩ = some a14 ∧ w.cell? ⟨g, 15, none⟩ = some a15 ∧ w.cell? ⟨g, 16, none⟩ = some a16) ∧ (w.frozen? ⟨g, 0, none⟩ = false ∧ w.frozen? ⟨g, 1, none⟩ = false ∧ w.frozen? ⟨g, 2, none⟩ = false ∧ w.frozen? ⟨g, 3, none⟩ = false ∧ w.frozen? ⟨g, 4, none⟩ = false ∧ w.frozen? ⟨g, 5, none⟩ = false ∧ w.frozen? ⟨g, 6, none⟩ = false ∧ w.frozen? ⟨g, 7, none⟩ = false ∧ w.frozen? ⟨g, 8, none⟩ = false ∧ w.frozen? ⟨g, 9, none⟩ = false ∧ w.frozen? ⟨g, 10, none⟩ = false ∧ w.frozen? ⟨g, 11, none⟩ = false ∧ w.frozen? ⟨g, 12, none⟩ = false ∧ w.frozen? ⟨g, 13, none⟩ = false ∧ w.frozen? ⟨g, 14, none⟩ = false ∧ w.frozen? ⟨g, 15, none⟩ = false ∧ w.frozen? ⟨g, 16, none⟩ = false) ∧ g < w.heap.size :=
  ⟨⟨h.cell 0, h.cell 1, h.cell 2, h.cell 3, h.cell 4, h.cell 5, h.cell 6, h.cell 7, h.cell 8, h.cell 9, h.cell 10, h.cell 11, h.cell 12, h.cell 13, h.cell 14, h.cell 15, h.cell 16⟩, ⟨h.frozen 0, h.frozen 1, h.frozen 2, h.frozen 3, h.frozen 4, h.frozen 5, h.frozen 6, h.frozen 7, h.frozen 8, h.frozen 9, h.frozen 10, h.frozen 11, h.frozen 12, h.frozen 13, h.frozen 14, h.frozen 15, h.frozen 16⟩, h.lt⟩
end Go.Proofs.YtefldbbiajkbnaaGreatDoor

/-
  Package syntax: what stands behind a parenthesis.
-/
namespace Go.Proofs.YtefldbbiajkbnaaGreatDoor
open Go.RowKit Lx Tx Sx
set_option maxRecDepth 100000

theorem wt_pos (e : Ex) : 1 ≤ e.wt := by
  induction e using Ex.rec (motive_2 := fun _ => True) (motive_3 := fun _ => True) <;> first | trivial | (simp only [Ex.wt]; omega)
theorem rdE_len (f1 : Nat) (l : List Tok) (x : Ex) (r : List Tok) (hG : AllG l) (h : rdE f1 l = some (x, r)) : AllG r ∧ r.length < l.length := by
  obtain ⟨-, h1, h2⟩ := (rd_facts f1).1 l x r hG h
  have := wt_pos x
  exact ⟨h1, by omega⟩
/-- what stands behind the type that is told of it -/
def parH (y : Ex) : Option (Ty × List Tok) → Option (Ex × List Tok)
  | none => none
  | some z => if isHd z.2 6 [41] = true then some (.ann y z.1, z.2.tail) else none
/-- what stands behind the expression in parentheses -/
def parG (y : Ex) (r : List Tok) : Option (Ex × List Tok) :=
  if isHd r 6 [58] = true then parH y (typ r.tail)
  else if isHd r 6 [41] = true then some (y, r.tail) else none
theorem parF_eq (f : Nat) (l : List Tok) : parF f l = match rdE f l with | none => none | some y => parG y.1 y.2 := by
  rw [parF]
  cases rdE f l with
  | none => rfl
  | some y =>
    simp only [parG]
    by_cases h : isHd y.2 6 [58] = true
    · simp only [if_pos h]
      cases typ y.2.tail <;> rfl
    · simp only [if_neg h]

set_option maxHeartbeats 6400000 in
theorem sx_inPar (f : Nat) (S : Nat → Prop) (b : Nat) (l : List Tok) (w : World) (h : RdrS S w b l) (hS : ∀ g, S g → g ≠ b ∧ g < w.heap.size) (hG : AllG l) (hl : l.length ≤ 100000) (hf : 3 * l.length + 3 ≤ f)
    (IH : GReads pcE shE S b 56 3 rdE f) :
    Calls Tryz.prog 176 #[.pointer (some ⟨b, 0, none⟩)] w (GPost pcE shE S b w (parF f l)) := by
  have hbl := h.lt
  have hE := IH (w.alloc (.cells exZ 39)) l (h.alloc _ (fun g hg => (hS g hg).2)) (fun g hg => ⟨(hS g hg).1, by have := (hS g hg).2; simp; omega⟩) hG hl hf
  obtain ⟨O, hO⟩ : ∃ O, rdE f l = O := ⟨_, rfl⟩
  rw [hO] at hE
  obtain ⟨M, hM⟩ : ∃ M, parF f l = M := ⟨_, rfl⟩
  rw [hM]
  rw [parF_eq, hO] at hM
  unfold exZ at hE
  have HE := hidE hE
  have HM0 := hidE hM
  have HO := hidE hO
  have HS := hidE hS
  have HG := hidE hG
  clear h hS hE hM hO hG IH hf
  go_enter Tryz.func176, Tryz.ntmps176
  go_wp2_with fail
  refine HE.out.mono ?_
  rintro e w2 ⟨c2, cs, hsh, hcs⟩
  obtain ⟨ck, cx, ct, cK, cX, cZ, cB, cm, cq, cKA, ckn, ckc, cLA, cln, clc, rfl⟩ := hsh
  have hs2 := c2.size
  simp at hs2
  have hbk : Blk w2 w.heap.size 39 exZ := Blk.chgR (heap_alloc_new _ _) c2 (by unfold only; omega)
  obtain ⟨W, hW⟩ : ∃ W, w2.alloc (.cells #[.int .i64 ck, .string cx, .bool ct, .int .i64 cK, .string cX, .int .i64 cZ, .slice cB cm cq, .slice cKA ckn ckc, .slice cLA cln clc] 39) = W := ⟨_, rfl⟩
  have hbw : Below w2.heap.size w2 W := hW ▸ (Below.refl _ w2).alloc (Nat.le_refl _) _
  have hsW : W.heap.size = w2.heap.size + 1 := by rw [← hW]; simp
  have hb4 : Blk W w2.heap.size 39 #[.int .i64 ck, .string cx, .bool ct, .int .i64 cK, .string cX, .int .i64 cZ, .slice cB cm cq, .slice cKA ckn ckc, .slice cLA cln clc] := hW ▸ heap_alloc_new _ _
  have hb2 : Blk W w.heap.size 39 exZ := (hbw.block _ hbk.lt).trans hbk
  have HB4 := hidE hb4
  have HB2 := hidE hb2
  have HCW := hidE (c2.pre.below hbw)
  have HBW := hidE hbw
  clear hbk c2 HE hb4 hb2 hbw
  rcases hcs with ⟨ho, rfl⟩ | ⟨y, r2, ho, rfl, hrd, hrr⟩
  · subst ho
    go_upto_region 2 with fail
    try rw [hW]
    clear hW
    go_upto_region 6 with fail
    obtain ⟨⟨f0, f1, f2, f3, f4, f5, f6, f7, f8⟩, -, hl4⟩ := blk_facts9 HB4.out
    obtain ⟨⟨g0, g1, g2, g3, g4, g5, g6, g7, g8⟩, ⟨z0, z1, z2, z3, z4, z5, z6, z7, z8⟩, hl2⟩ := blk_facts9 HB2.out
    go_region
    all_goals
      go_wp2_with fail
      try simp only [Exit.inBlock, Exit.then]
      refine bodyPost_ret (results_ct rfl _ _ w.heap.size 39 _ (0, 0) _ rfl ((blk_set9 _ _ _ _ _ _ _ _ _ HB2.out).drew) Tryz.underlying39 rfl (by kernel_rfl)) rfl ?_
      exact ⟨(HCW.out.set9 _ _ _ _ _ _ _ _ _ (Nat.le_refl _)).drew, _, ⟨_, _, _, _, _, _, _, _, _, _, _, _, _, _, _, rfl⟩, .inl ⟨HM0.out.symm, rfl⟩⟩
  · subst ho
    have hg2 := rdE_len f l y r2 HG.out HO.out
    have HM1 : Hid (M = parG y r2) := hidE HM0.out.symm
    have HLR : Hid (r2.length ≤ 100000) := hidE (by have := hg2.2; omega)
    have HRW := hidE (hrr.below HBW.out (fun g hg => by have := (HS.out g hg).2; omega))
    have HXW := hidE (pcE.keep (S' := fun g => w.heap.size ≤ g ∧ g < w2.heap.size ∧ g ≠ w.heap.size) (fun g hg => ⟨by have := hg.1; simp at this; omega, hg.2, by have := hg.1; simp at this; omega⟩) (fun g hg => HBW.out.block g hg.2) hrd)
    have hSG := sx_signR S b r2 ⟨#[58]⟩ W HRW.out (fun g hg => ⟨(HS.out g hg).1, by have := (HS.out g hg).2; omega⟩) HLR.out
    obtain ⟨q2, hq2⟩ : ∃ q, isHd r2 6 [58] = q := ⟨_, rfl⟩
    rw [show (⟨#[58]⟩ : ByteArray).data.toList = [58] from rfl, took, hq2] at hSG
    have HSG := hidE hSG
    have HG2 := hidE hg2.1
    have HQ2 := hidE hq2
    clear hSG hrd hrr hq2 hg2
    go_upto_region 2 with fail
    try rw [hW]
    clear hW
    go_wp2_with fail
    refine HSG.out.mono ?_
    rintro e w3 ⟨rfl, hr3, c3⟩
    have hs3 := c3.size
    have HXW := hidE (pcE.keep (S' := fun g => w.heap.size ≤ g ∧ g < w2.heap.size ∧ g ≠ w.heap.size) (fun g hg => hg) (fun g hg => c3.block g (by omega) (by unfold only; omega)) HXW.out)
    have HB4 := hidE (HB4.out.chgR c3 (by unfold only; omega))
    have HB2 := hidE (HB2.out.chgR c3 (by unfold only; omega))
    have HCW := hidE (HCW.out.trans c3)
    clear c3 HSG HRW HBW
    cases q2 with
    | false =>
      rw [if_neg (by decide)] at hr3
      have HM : Hid (M = if isHd r2 6 [41] = true then some (y, r2.tail) else none) := hidE (by rw [HM1.out, parG, HQ2.out, if_neg (by decide)])
      have HRR := hidE hr3
      clear hr3
      go_upto_region 6 with fail
      obtain ⟨q6, hq6⟩ : ∃ q, isHd r2 6 [41] = q := ⟨_, rfl⟩
      have HSG : Hid (∀ V : World, RdrS S V b r2 → w.heap.size ≤ V.heap.size → Calls Tryz.prog 106 #[.pointer (some ⟨b, 0, none⟩), .string ⟨#[41]⟩] V fun e w' => e = .returned (.bool q6) ∧ RdrS S w' b (if q6 = true then r2.tail else r2) ∧ ChR b V w') := hidE fun V hr hv => by
        have := sx_signR S b r2 ⟨#[41]⟩ V hr (fun g hg => ⟨(HS.out g hg).1, by have := (HS.out g hg).2; omega⟩) (by have := HLR.out; omega)
        rw [show (⟨#[41]⟩ : ByteArray).data.toList = [41] from rfl, took, hq6] at this
        exact this
      have HQ6 := hidE hq6
      have SOF : Hid (∀ V : World, V.heap[w2.heap.size]? = w3.heap[w2.heap.size]? → V.cell? ⟨w2.heap.size, 0, none⟩ = some (.int .i64 ck) ∧ V.cell? ⟨w2.heap.size, 1, none⟩ = some (.string cx) ∧ V.cell? ⟨w2.heap.size, 2, none⟩ = some (.bool ct) ∧ V.cell? ⟨w2.heap.size, 3, none⟩ = some (.int .i64 cK) ∧ V.cell? ⟨w2.heap.size, 4, none⟩ = some (.string cX) ∧ V.cell? ⟨w2.heap.size, 5, none⟩ = some (.int .i64 cZ) ∧ V.cell? ⟨w2.heap.size, 6, none⟩ = some (.slice cB cm cq) ∧ V.cell? ⟨w2.heap.size, 7, none⟩ = some (.slice cKA ckn ckc) ∧ V.cell? ⟨w2.heap.size, 8, none⟩ = some (.slice cLA cln clc)) := hidE fun V hV => (blk_facts9 (hV.trans HB4.out)).1
      have SET : Hid (∀ (V : World) (u0 u1 u2 u3 u4 u5 u6 u7 u8 : Value), V.heap[w2.heap.size]? = w3.heap[w2.heap.size]? → (((((((((V.setCell ⟨w.heap.size, 0, none⟩ u0).setCell ⟨w.heap.size, 1, none⟩ u1).setCell ⟨w.heap.size, 2, none⟩ u2).setCell ⟨w.heap.size, 3, none⟩ u3).setCell ⟨w.heap.size, 4, none⟩ u4).setCell ⟨w.heap.size, 5, none⟩ u5).setCell ⟨w.heap.size, 6, none⟩ u6).setCell ⟨w.heap.size, 7, none⟩ u7).setCell ⟨w.heap.size, 8, none⟩ u8).heap[w2.heap.size]? = w3.heap[w2.heap.size]?) := hidE fun V u0 u1 u2 u3 u4 u5 u6 u7 u8 hV => (set9_far V w.heap.size w2.heap.size u0 u1 u2 u3 u4 u5 u6 u7 u8 (by omega)).trans hV
      obtain ⟨f0, f1, f2, f3, f4, f5, f6, f7, f8⟩ := SOF.out w3 rfl
      have B0 : Hid (w3.drew.heap[w2.heap.size]? = w3.heap[w2.heap.size]?) := hidE rfl
      have R0 : Hid (RdrS S w3.drew b r2) := hidE (HRR.out.keep rfl (fun _ _ => rfl))
      have hW2 : w.heap.size ≤ w3.drew.heap.size := by rw [heap_drew]; exact HCW.out.size
      clear hq6
      go_region_held3 (fun V => V.cell? ⟨w2.heap.size, 0, none⟩ = some (.int .i64 ck) ∧ V.cell? ⟨w2.heap.size, 1, none⟩ = some (.string cx) ∧ V.cell? ⟨w2.heap.size, 2, none⟩ = some (.bool ct) ∧ V.cell? ⟨w2.heap.size, 3, none⟩ = some (.int .i64 cK) ∧ V.cell? ⟨w2.heap.size, 4, none⟩ = some (.string cX) ∧ V.cell? ⟨w2.heap.size, 5, none⟩ = some (.int .i64 cZ) ∧ V.cell? ⟨w2.heap.size, 6, none⟩ = some (.slice cB cm cq) ∧ V.cell? ⟨w2.heap.size, 7, none⟩ = some (.slice cKA ckn ckc) ∧ V.cell? ⟨w2.heap.size, 8, none⟩ = some (.slice cLA cln clc)) (first | (with_reducible exact SOF.out _ B0.out) | (with_reducible exact SOF.out _ B5.out) | (with_reducible exact SOF.out _ (SET.out _ _ _ _ _ _ _ _ _ _ B5.out))) (((with_reducible refine (HSG.out _ R0.out hW2).mono ?_); rintro e w5 ⟨rfl, r5, c5⟩; have B5 : Hid (w5.heap[w2.heap.size]? = w3.heap[w2.heap.size]?) := hidE (c5.block _ HB4.out.lt (by unfold only; omega)); have HB5 := hidE (HB2.out.drew.chgR c5 (by unfold only; omega)); have R5 := hidE r5; have C5 := hidE ((HCW.out.drew).trans c5); obtain ⟨⟨g0, g1, g2, g3, g4, g5, g6, g7, g8⟩, ⟨z0, z1, z2, z3, z4, z5, z6, z7, z8⟩, hl2⟩ := blk_facts9 HB5.out; have K5 : Hid (∀ k, k < w3.heap.size → k ≠ b → w5.heap[k]? = w3.heap[k]?) := hidE (fun k hk hne => c5.block k hk hne); have L5 : Hid (w3.heap.size ≤ w5.heap.size) := hidE c5.size; clear r5 c5))
      all_goals
        go_wp2_with fail
        try simp only [Exit.inBlock, Exit.then]
        refine bodyPost_ret (results_ct rfl _ _ w.heap.size 39 _ (0, 0) _ rfl (blk_set9 _ _ _ _ _ _ _ _ _ HB5.out) Tryz.underlying39 rfl (by kernel_rfl)) rfl ?_
        refine ⟨C5.out.set9 _ _ _ _ _ _ _ _ _ (Nat.le_refl _), [.int .i64 ck, .string cx, .bool ct, .int .i64 cK, .string cX, .int .i64 cZ, .slice cB cm cq, .slice cKA ckn ckc, .slice cLA cln clc], ⟨_, _, _, _, _, _, _, _, _, _, _, _, _, _, _, rfl⟩, ?_⟩
        have hL5 := L5.out
        cases q6 with
        | false => exact .inl ⟨by rw [HM.out, HQ6.out, if_neg (by decide)], rfl⟩
        | true =>
          have hR := R5.out
          rw [if_pos rfl] at hR
          refine .inr ⟨y, r2.tail, by rw [HM.out, HQ6.out, if_pos rfl], rfl, ?_, hR.keep (set9_far _ _ _ _ _ _ _ _ _ _ _ _ (by omega)) (fun k hk => set9_far _ _ _ _ _ _ _ _ _ _ _ _ (by have := (HS.out k hk).2; omega))⟩
          exact pcE.keep (fun g hg => ⟨hg.1, by rw [size_set9]; omega⟩) (fun g hg => (set9_far _ _ _ _ _ _ _ _ _ _ _ _ hg.2.2).trans (K5.out g (by omega) (by omega))) HXW.out
    | true =>
      rw [if_pos rfl] at hr3
      obtain ⟨t0, r0, e0, -, -⟩ := isHd_ne r2 6 [58] (by decide) HQ2.out
      have HT := hidE (sx_whole S b r2.tail (w3.alloc (.cells tyZ 35)) (hr3.alloc _ (fun g hg => by have := (HS.out g hg).2; omega)) (fun g hg => ⟨(HS.out g hg).1, by have := (HS.out g hg).2; simp; omega⟩) (AllG.tail' HG2.out) (by have := HLR.out; rw [e0] at this ⊢; simp at this ⊢; omega))
      unfold tyZ at HT
      obtain ⟨O2, hO2⟩ : ∃ O2, typ r2.tail = O2 := ⟨_, rfl⟩
      have HM2 : Hid (M = parH y O2) := hidE (by rw [HM1.out, parG, HQ2.out, if_pos rfl, ← hO2])
      have HLR2 : Hid (∀ z, O2 = some z → z.2.length ≤ 100000) := hidE fun z hz => by
        obtain ⟨-, -, h3⟩ := typ_facts (AllG.tail' HG2.out) (show typ r2.tail = some (z.1, z.2) by rw [hO2, hz])
        have := HLR.out
        rw [e0] at this h3
        simp at this h3
        omega
      rw [hO2] at HT
      clear hr3 e0 hO2 HLR
      go_wp2_with fail
      refine HT.out.mono ?_
      rintro e w4 ⟨c4, tK, tX, tZ, tA, tm, tc, hcs⟩
      have hs4 := c4.size
      simp at hs4
      have hb6 : Blk w4 w3.heap.size 35 #[.int .i64 0, .string ⟨#[]⟩, .int .i64 0, .slice none 0 0] := Blk.chgR (heap_alloc_new _ _) c4 (by unfold only; omega)
      have hb4 := (HB4.out.alloc (.cells #[.int .i64 0, .string ⟨#[]⟩, .int .i64 0, .slice none 0 0] 35)).chgR c4 (by unfold only; omega)
      have hb2 := (HB2.out.alloc (.cells #[.int .i64 0, .string ⟨#[]⟩, .int .i64 0, .slice none 0 0] 35)).chgR c4 (by unfold only; omega)
      have HC4 := hidE ((HCW.out.alloc (.cells #[.int .i64 0, .string ⟨#[]⟩, .int .i64 0, .slice none 0 0] 35)).trans c4)
      have HXW := hidE (pcE.keep (S' := fun g => w.heap.size ≤ g ∧ g < w2.heap.size ∧ g ≠ w.heap.size) (fun g hg => hg) (fun g hg => (c4.block g (by simp; omega) (by unfold only; omega)).trans (Below.heap_alloc _ _ _ (by omega))) HXW.out)
      obtain ⟨VV, hV⟩ : ∃ V, ((((((((((((((w4.setCell ⟨w3.heap.size, 0, none⟩ (.int .i64 tK)).setCell ⟨w3.heap.size, 1, none⟩ (.string tX)).setCell ⟨w3.heap.size, 2, none⟩ (.int .i64 tZ)).setCell ⟨w3.heap.size, 3, none⟩ (.slice tA tm tc)).setCell ⟨w2.heap.size, 0, none⟩ (.int .i64 7)).setCell ⟨w2.heap.size, 1, none⟩ (.string ⟨#[]⟩)).setCell ⟨w2.heap.size, 2, none⟩ (.bool false)).setCell ⟨w2.heap.size, 3, none⟩ (.int .i64 tK)).setCell ⟨w2.heap.size, 4, none⟩ (.string tX)).setCell ⟨w2.heap.size, 5, none⟩ (.int .i64 tZ)).setCell ⟨w2.heap.size, 6, none⟩ (.slice tA tm tc)).setCell ⟨w2.heap.size, 7, none⟩ (.slice (some ⟨w4.heap.size, 0, none⟩) 1 1)).setCell ⟨w2.heap.size, 8, none⟩ (.slice none 0 0)).alloc (.cells #[.int .i64 ck, .string cx, .bool ct, .int .i64 cK, .string cX, .int .i64 cZ, .slice cB cm cq, .slice cKA ckn ckc, .slice cLA cln clc] 39)) = V := ⟨_, rfl⟩
      have h6 := blk_set4 (.int .i64 tK) (.string tX) (.int .i64 tZ) (.slice tA tm tc) hb6
      have hfar : ∀ k, k < w4.heap.size → k ≠ w3.heap.size → k ≠ w2.heap.size → VV.heap[k]? = w4.heap[k]? := fun k h1 h2 h3 => by
        rw [← hV, Below.heap_alloc _ _ _ (by rw [size_set9, size_set4]; exact h1), set9_far _ _ _ _ _ _ _ _ _ _ _ _ h3, heap_set4 _ _ _ _ _ _ _ h2]
      have hsV : VV.heap.size = w4.heap.size + 1 := by rw [← hV]; simp
      have HB4 : Hid (Blk VV w2.heap.size 39 #[.int .i64 7, .string ⟨#[]⟩, .bool false, .int .i64 tK, .string tX, .int .i64 tZ, .slice tA tm tc, .slice (some ⟨w4.heap.size, 0, none⟩) 1 1, .slice none 0 0]) := hidE (by
        rw [← hV]
        exact (blk_set9 _ _ _ _ _ _ _ _ _ ((heap_set4 _ _ _ _ _ _ _ (by omega)).trans hb4)).alloc _)
      have HB2 : Hid (Blk VV w.heap.size 39 exZ) := hidE ((hfar _ hb2.lt (by omega) (by omega)).trans hb2)
      have HNW : Hid (Blk VV w4.heap.size 39 #[.int .i64 ck, .string cx, .bool ct, .int .i64 cK, .string cX, .int .i64 cZ, .slice cB cm cq, .slice cKA ckn ckc, .slice cLA cln clc]) := hidE (by
        rw [← hV]
        have := heap_alloc_new (((((((((((((w4.setCell ⟨w3.heap.size, 0, none⟩ (.int .i64 tK)).setCell ⟨w3.heap.size, 1, none⟩ (.string tX)).setCell ⟨w3.heap.size, 2, none⟩ (.int .i64 tZ)).setCell ⟨w3.heap.size, 3, none⟩ (.slice tA tm tc)).setCell ⟨w2.heap.size, 0, none⟩ (.int .i64 7)).setCell ⟨w2.heap.size, 1, none⟩ (.string ⟨#[]⟩)).setCell ⟨w2.heap.size, 2, none⟩ (.bool false)).setCell ⟨w2.heap.size, 3, none⟩ (.int .i64 tK)).setCell ⟨w2.heap.size, 4, none⟩ (.string tX)).setCell ⟨w2.heap.size, 5, none⟩ (.int .i64 tZ)).setCell ⟨w2.heap.size, 6, none⟩ (.slice tA tm tc)).setCell ⟨w2.heap.size, 7, none⟩ (.slice (some ⟨w4.heap.size, 0, none⟩) 1 1)).setCell ⟨w2.heap.size, 8, none⟩ (.slice none 0 0)) (.cells #[.int .i64 ck, .string cx, .bool ct, .int .i64 cK, .string cX, .int .i64 cZ, .slice cB cm cq, .slice cKA ckn ckc, .slice cLA cln clc] 39)
        rwa [size_set9, size_set4] at this)
      have HCW : Hid (ChR b w VV) := hidE (by
        rw [← hV]
        exact (((HC4.out.set4 _ _ _ _ (by omega)).set9 _ _ _ _ _ _ _ _ _ (by omega)).alloc _))
      have HFAR := hidE hfar
      obtain ⟨⟨f0, f1, f2, f3, f4, f5, f6, f7, f8⟩, ⟨y0, y1, y2, y3, y4, y5, y6, y7, y8⟩, hl4⟩ := blk_facts9 hb4
      obtain ⟨a0, a1, a2, a3, s0, s1, s2, s3, hl6⟩ := blk_facts4 hb6
      have HXV := hidE (pcE.keep (S' := fun g => w.heap.size ≤ g ∧ g < w2.heap.size ∧ g ≠ w.heap.size) (fun g hg => hg) (fun g hg => hfar g (by omega) (by omega) (by omega)) HXW.out)
      clear c4 hb6 hb4 hb2 h6 hfar HT
      rcases hcs with ⟨ho, rfl⟩ | ⟨t, r4, ho, rfl, hrd, hrr⟩
      · subst ho
        go_upto_region 6 with fail
        try rw [hV]
        clear hV f0 f1 f2 f3 f4 f5 f6 f7 f8 y0 y1 y2 y3 y4 y5 y6 y7 y8 a0 a1 a2 a3 s0 s1 s2 s3
        obtain ⟨⟨f0, f1, f2, f3, f4, f5, f6, f7, f8⟩, -, hl4⟩ := blk_facts9 HB4.out
        obtain ⟨⟨g0, g1, g2, g3, g4, g5, g6, g7, g8⟩, ⟨z0, z1, z2, z3, z4, z5, z6, z7, z8⟩, hl2⟩ := blk_facts9 HB2.out
        go_region
        all_goals
          go_wp2_with fail
          try simp only [Exit.inBlock, Exit.then]
          refine bodyPost_ret (results_ct rfl _ _ w.heap.size 39 _ (0, 0) _ rfl ((blk_set9 _ _ _ _ _ _ _ _ _ HB2.out).drew) Tryz.underlying39 rfl (by kernel_rfl)) rfl ?_
          exact ⟨(HCW.out.set9 _ _ _ _ _ _ _ _ _ (Nat.le_refl _)).drew, _, ⟨_, _, _, _, _, _, _, _, _, _, _, _, _, _, _, rfl⟩, .inl ⟨HM2.out, rfl⟩⟩
      · subst ho
        have HM : Hid (M = if isHd r4 6 [41] = true then some (.ann y t, r4.tail) else none) := hidE HM2.out
        have HLR := hidE (HLR2.out _ rfl)
        have HRR := hidE (hrr.keep (HFAR.out b (by omega) (by omega) (by omega)) (fun g hg => HFAR.out g (by have := (HS.out g hg).2; omega) (by have := (HS.out g hg).2; omega) (by have := (HS.out g hg).2; omega)))
        have HTY : Hid (RdV (fun g => w3.heap.size < g ∧ g < w4.heap.size) VV t (.agg #[.int .i64 tK, .string tX, .int .i64 tZ, .slice tA tm tc])) := hidE (hrd.keep (fun g hg => ⟨by have := hg.1; simp at this; omega, hg.2⟩) (fun g hg => HFAR.out g hg.2 (by have := hg.1; simp at this; omega) (by have := hg.1; simp at this; omega)))
        clear hrd hrr
        go_upto_region 6 with fail
        try rw [hV]
        clear hV f0 f1 f2 f3 f4 f5 f6 f7 f8 y0 y1 y2 y3 y4 y5 y6 y7 y8 a0 a1 a2 a3 s0 s1 s2 s3
        obtain ⟨q6, hq6⟩ : ∃ q, isHd r4 6 [41] = q := ⟨_, rfl⟩
        have HSG : Hid (∀ V : World, RdrS S V b r4 → w.heap.size ≤ V.heap.size → Calls Tryz.prog 106 #[.pointer (some ⟨b, 0, none⟩), .string ⟨#[41]⟩] V fun e w' => e = .returned (.bool q6) ∧ RdrS S w' b (if q6 = true then r4.tail else r4) ∧ ChR b V w') := hidE fun V hr hv => by
          have := sx_signR S b r4 ⟨#[41]⟩ V hr (fun g hg => ⟨(HS.out g hg).1, by have := (HS.out g hg).2; omega⟩) (by have := HLR.out; omega)
          rw [show (⟨#[41]⟩ : ByteArray).data.toList = [41] from rfl, took, hq6] at this
          exact this
        have HQ6 := hidE hq6
        have SOF : Hid (∀ V : World, V.heap[w2.heap.size]? = VV.heap[w2.heap.size]? → V.cell? ⟨w2.heap.size, 0, none⟩ = some (.int .i64 7) ∧ V.cell? ⟨w2.heap.size, 1, none⟩ = some (.string ⟨#[]⟩) ∧ V.cell? ⟨w2.heap.size, 2, none⟩ = some (.bool false) ∧ V.cell? ⟨w2.heap.size, 3, none⟩ = some (.int .i64 tK) ∧ V.cell? ⟨w2.heap.size, 4, none⟩ = some (.string tX) ∧ V.cell? ⟨w2.heap.size, 5, none⟩ = some (.int .i64 tZ) ∧ V.cell? ⟨w2.heap.size, 6, none⟩ = some (.slice tA tm tc) ∧ V.cell? ⟨w2.heap.size, 7, none⟩ = some (.slice (some ⟨w4.heap.size, 0, none⟩) 1 1) ∧ V.cell? ⟨w2.heap.size, 8, none⟩ = some (.slice none 0 0)) := hidE fun V hV => (blk_facts9 (hV.trans HB4.out)).1
        have SET : Hid (∀ (V : World) (u0 u1 u2 u3 u4 u5 u6 u7 u8 : Value), V.heap[w2.heap.size]? = VV.heap[w2.heap.size]? → (((((((((V.setCell ⟨w.heap.size, 0, none⟩ u0).setCell ⟨w.heap.size, 1, none⟩ u1).setCell ⟨w.heap.size, 2, none⟩ u2).setCell ⟨w.heap.size, 3, none⟩ u3).setCell ⟨w.heap.size, 4, none⟩ u4).setCell ⟨w.heap.size, 5, none⟩ u5).setCell ⟨w.heap.size, 6, none⟩ u6).setCell ⟨w.heap.size, 7, none⟩ u7).setCell ⟨w.heap.size, 8, none⟩ u8).heap[w2.heap.size]? = VV.heap[w2.heap.size]?) := hidE fun V u0 u1 u2 u3 u4 u5 u6 u7 u8 hV => (set9_far V w.heap.size w2.heap.size u0 u1 u2 u3 u4 u5 u6 u7 u8 (by omega)).trans hV
        obtain ⟨f0, f1, f2, f3, f4, f5, f6, f7, f8⟩ := SOF.out VV rfl
        have B0 : Hid (VV.drew.heap[w2.heap.size]? = VV.heap[w2.heap.size]?) := hidE rfl
        have R0 : Hid (RdrS S VV.drew b r4) := hidE (HRR.out.keep rfl (fun _ _ => rfl))
        have hW2 : w.heap.size ≤ VV.drew.heap.size := by rw [heap_drew]; exact HCW.out.size
        clear hq6
        go_region_held3 (fun V => V.cell? ⟨w2.heap.size, 0, none⟩ = some (.int .i64 7) ∧ V.cell? ⟨w2.heap.size, 1, none⟩ = some (.string ⟨#[]⟩) ∧ V.cell? ⟨w2.heap.size, 2, none⟩ = some (.bool false) ∧ V.cell? ⟨w2.heap.size, 3, none⟩ = some (.int .i64 tK) ∧ V.cell? ⟨w2.heap.size, 4, none⟩ = some (.string tX) ∧ V.cell? ⟨w2.heap.size, 5, none⟩ = some (.int .i64 tZ) ∧ V.cell? ⟨w2.heap.size, 6, none⟩ = some (.slice tA tm tc) ∧ V.cell? ⟨w2.heap.size, 7, none⟩ = some (.slice (some ⟨w4.heap.size, 0, none⟩) 1 1) ∧ V.cell? ⟨w2.heap.size, 8, none⟩ = some (.slice none 0 0)) (first | (with_reducible exact SOF.out _ B0.out) | (with_reducible exact SOF.out _ B5.out) | (with_reducible exact SOF.out _ (SET.out _ _ _ _ _ _ _ _ _ _ B5.out))) (((with_reducible refine (HSG.out _ R0.out hW2).mono ?_); rintro e w5 ⟨rfl, r5, c5⟩; have B5 : Hid (w5.heap[w2.heap.size]? = VV.heap[w2.heap.size]?) := hidE (c5.block _ HB4.out.lt (by unfold only; omega)); have HB5 := hidE (HB2.out.drew.chgR c5 (by unfold only; omega)); have R5 := hidE r5; have C5 := hidE ((HCW.out.drew).trans c5); obtain ⟨⟨g0, g1, g2, g3, g4, g5, g6, g7, g8⟩, ⟨z0, z1, z2, z3, z4, z5, z6, z7, z8⟩, hl2⟩ := blk_facts9 HB5.out; have K5 : Hid (∀ k, k < VV.heap.size → k ≠ b → w5.heap[k]? = VV.heap[k]?) := hidE (fun k hk hne => c5.block k hk hne); have L5 : Hid (VV.heap.size ≤ w5.heap.size) := hidE c5.size; clear r5 c5))
        all_goals
          go_wp2_with fail
          try simp only [Exit.inBlock, Exit.then]
          refine bodyPost_ret (results_ct rfl _ _ w.heap.size 39 _ (0, 0) _ rfl (blk_set9 _ _ _ _ _ _ _ _ _ HB5.out) Tryz.underlying39 rfl (by kernel_rfl)) rfl ?_
          refine ⟨C5.out.set9 _ _ _ _ _ _ _ _ _ (Nat.le_refl _), [.int .i64 7, .string ⟨#[]⟩, .bool false, .int .i64 tK, .string tX, .int .i64 tZ, .slice tA tm tc, .slice (some ⟨w4.heap.size, 0, none⟩) 1 1, .slice none 0 0], ⟨_, _, _, _, _, _, _, _, _, _, _, _, _, _, _, rfl⟩, ?_⟩
          have hL5 := L5.out
          cases q6 with
          | false => exact .inl ⟨by rw [HM.out, HQ6.out, if_neg (by decide)], rfl⟩
          | true =>
            have hR := R5.out
            rw [if_pos rfl] at hR
            refine .inr ⟨(.ann y t), r4.tail, by rw [HM.out, HQ6.out, if_pos rfl], rfl, ?_, hR.keep (set9_far _ _ _ _ _ _ _ _ _ _ _ _ (by omega)) (fun k hk => set9_far _ _ _ _ _ _ _ _ _ _ _ _ (by have := (HS.out k hk).2; omega))⟩
            obtain ⟨A', a', hv', hA'⟩ := HTY.out
            injection hv' with hv'
            have hv' := congrArg Array.toList hv'
            simp only [List.cons.injEq, Value.int.injEq, Value.string.injEq, Value.slice.injEq, and_true, true_and] at hv'
            obtain ⟨rfl, rfl, rfl, rfl, rfl, rfl⟩ := hv'
            refine ⟨⟨tA, tc, some ⟨w4.heap.size, 0, none⟩, 0, none, 0⟩, by simp [exC, kdE, nmE, toE, tyE, tyC, tyV, kidsE, altsE, Sx.strV], ?_, ?_⟩
            · exact Args.keep (fun g hg => ⟨by omega, by rw [size_set9]; omega⟩) (fun g hg => (set9_far _ _ _ _ _ _ _ _ _ _ _ _ (by omega)).trans (K5.out g (by omega) (by omega))) _ _ hA'
            · rw [ExIn]
              exact ⟨_, rfl, ⟨by omega, by rw [size_set9]; omega⟩, kid_new HXV.out (fun k hk => ⟨hk.1, by rw [size_set9]; omega⟩) (fun k hk => (set9_far _ _ _ _ _ _ _ _ _ _ _ _ hk.2.2).trans (K5.out k (by omega) (by omega))) ((set9_far _ _ _ _ _ _ _ _ _ _ _ _ (by omega)).trans ((K5.out _ (by omega) (by omega)).trans HNW.out))⟩
end Go.Proofs.YtefldbbiajkbnaaGreatDoor
