/-
  Contracts of the code's functions, part 7.
-/
import Derived.Test.YtefldbbiajkbnaaGreatDoorDaF
import Derived.Test.YtefldbbiajkbnaaGreatDoorDaE
/-
  The plain mathematics of layer 8 (syntax): what is read has names that are words, and weighs no more than its tokens.
-/
namespace Go.Proofs.YtefldbbiajkbnaaGreatDoor
namespace Sx
open Lx Tx

mutual
/-- names are words, of their kinds -/
def Ex.Ok : Ex → Prop
  | .var x => Gd 1 x
  | .con c => Gd 2 c
  | .lam x e => Gd 1 x ∧ e.Ok
  | .app a b => a.Ok ∧ b.Ok
  | .lt x t a b => Gd 1 x ∧ (∀ u, t = some u → Tx.Nm u) ∧ a.Ok ∧ b.Ok
  | .cs e l => e.Ok ∧ okA l
  | .ann e t => e.Ok ∧ Tx.Nm t
def Al.Ok : Al → Prop
  | .mk c vs b => Gd 2 c ∧ (∀ x ∈ vs, Gd 1 x) ∧ b.Ok
def okA : List Al → Prop
  | [] => True
  | a :: r => a.Ok ∧ okA r
end
def toldW : Option Ty → Nat
  | none => 0
  | some t => t.size
mutual
/-- how many tokens it is at least -/
def Ex.wt : Ex → Nat
  | .var _ => 1
  | .con _ => 1
  | .lam _ e => e.wt + 1
  | .app a b => a.wt + b.wt
  | .lt _ t a b => toldW t + a.wt + b.wt + 1
  | .cs e l => e.wt + wtA l + 1
  | .ann e t => e.wt + t.size + 1
def Al.wt : Al → Nat
  | .mk _ vs b => vs.length + b.wt + 1
def wtA : List Al → Nat
  | [] => 0
  | a :: r => a.wt + wtA r
end
theorem eat_facts {p : Tok → Bool} {l r : List Tok} (hg : AllG l) (h : eat p l = some r) : AllG r ∧ r.length + 1 = l.length := by
  obtain ⟨t, rfl, _⟩ := eat_some _ _ _ h
  exact ⟨hg.tail, rfl⟩
theorem tok1_facts {k : Nat} {l r : List Tok} {x : Nm} (hk : k ≠ 0) (hg : AllG l) (h : tok1 k l = some (x, r)) : Gd k x ∧ AllG r ∧ r.length + 1 = l.length := by
  cases l with
  | nil => cases h
  | cons t r' =>
    rw [tok1] at h
    split at h
    · rename_i ht
      injection h with h
      injection h with h1 h2
      subst h1 h2
      have := hg.head
      rw [Lx.Good, ht] at this
      exact ⟨⟨this.1, this.2.1, hk⟩, hg.tail, rfl⟩
    · cases h
theorem typ_facts {l r : List Tok} {t : Ty} (hg : AllG l) (h : typ l = some (t, r)) : Tx.Nm t ∧ AllG r ∧ t.size + r.length ≤ l.length := (read_nm _).1 l t r hg h
theorem told_facts {l r : List Tok} {t : Option Ty} (hg : AllG l) (h : told l = some (t, r)) : (∀ u, t = some u → Tx.Nm u) ∧ AllG r ∧ toldW t + r.length ≤ l.length := by
  unfold told at h
  cases he : eat pCol l with
  | none =>
    rw [he] at h
    simp only [Option.some.injEq, Prod.mk.injEq] at h
    obtain ⟨rfl, rfl⟩ := h
    exact ⟨(fun u h => by cases h), hg, by simp [toldW]⟩
  | some r1 =>
    rw [he] at h
    obtain ⟨g1, l1⟩ := eat_facts hg he
    simp only at h
    cases hr : typ r1 with
    | none => rw [hr] at h; cases h
    | some y =>
      obtain ⟨u, r2⟩ := y
      rw [hr] at h
      simp only [Option.map_some, Option.some.injEq, Prod.mk.injEq] at h
      obtain ⟨rfl, rfl⟩ := h
      obtain ⟨a, b, c⟩ := typ_facts g1 hr
      exact ⟨(fun v hv => by injection hv with hv; subst hv; exact a), b, by simp only [toldW]; omega⟩

theorem rd_facts (f : Nat) :
    (∀ l e r, AllG l → rdE f l = some (e, r) → e.Ok ∧ AllG r ∧ e.wt + r.length ≤ l.length) ∧
    (∀ l e r, AllG l → rdLet f l = some (e, r) → e.Ok ∧ AllG r ∧ e.wt + r.length ≤ l.length + 1) ∧
    (∀ l e r, AllG l → rdCase f l = some (e, r) → e.Ok ∧ AllG r ∧ e.wt + r.length ≤ l.length + 1) ∧
    (∀ l als r, AllG l → rdAlts f l = some (als, r) → okA als ∧ AllG r ∧ wtA als + r.length ≤ l.length) ∧
    (∀ l e r, AllG l → rdApp f l = some (e, r) → e.Ok ∧ AllG r ∧ e.wt + r.length ≤ l.length) ∧
    (∀ a l e r, a.Ok → AllG l → rdArgs f a l = some (e, r) → e.Ok ∧ AllG r ∧ e.wt + r.length ≤ a.wt + l.length) ∧
    (∀ l e r, AllG l → rdAtom f l = some (e, r) → e.Ok ∧ AllG r ∧ e.wt + r.length ≤ l.length) := by
  induction f with
  | zero => exact ⟨(fun _ _ _ _ h => by simp [rdE] at h), (fun _ _ _ _ h => by simp [rdLet] at h), (fun _ _ _ _ h => by simp [rdCase] at h), (fun _ _ _ _ h => by simp [rdAlts] at h), (fun _ _ _ _ h => by simp [rdApp] at h), (fun _ _ _ _ _ _ h => by simp [rdArgs] at h), (fun _ _ _ _ h => by simp [rdAtom] at h)⟩
  | succ f ih =>
    obtain ⟨iE, iL, iC, iA, iP, iG, iT⟩ := ih
    refine ⟨fun l e r hg h => ?_, fun l e r hg h => ?_, fun l e r hg h => ?_, fun l als r hg h => ?_, fun l e r hg h => ?_, fun a l e r ha hg h => ?_, fun l e r hg h => ?_⟩
    · rw [rdE] at h
      cases he : eat pLam l with
      | some r1 =>
        rw [he] at h
        obtain ⟨g1, l1⟩ := eat_facts hg he
        simp only at h
        cases h1 : tok1 1 r1 with
        | none => rw [h1] at h; cases h
        | some y =>
          obtain ⟨x, r2⟩ := y
          rw [h1] at h
          obtain ⟨x1, g2, l2⟩ := tok1_facts (by omega) g1 h1
          simp only at h
          cases h2 : eat pArr r2 with
          | none => rw [h2] at h; cases h
          | some r3 =>
            rw [h2] at h
            obtain ⟨g3, l3⟩ := eat_facts g2 h2
            simp only at h
            cases h3 : rdE f r3 with
            | none => rw [h3] at h; cases h
            | some y =>
              obtain ⟨b, r4⟩ := y
              rw [h3] at h
              simp only [Option.map_some, Option.some.injEq, Prod.mk.injEq] at h
              obtain ⟨rfl, rfl⟩ := h
              obtain ⟨o, g4, l4⟩ := iE _ _ _ g3 h3
              exact ⟨⟨x1, o⟩, g4, by simp only [Ex.wt]; omega⟩
      | none =>
        rw [he] at h
        simp only at h
        cases h1 : eat (isKey · wLet) l with
        | some r1 =>
          rw [h1] at h
          obtain ⟨g1, l1⟩ := eat_facts hg h1
          obtain ⟨o, g2, l2⟩ := iL _ _ _ g1 h
          exact ⟨o, g2, by omega⟩
        | none =>
          rw [h1] at h
          simp only at h
          cases h2 : eat (isKey · wCase) l with
          | some r1 =>
            rw [h2] at h
            obtain ⟨g1, l1⟩ := eat_facts hg h2
            obtain ⟨o, g2, l2⟩ := iC _ _ _ g1 h
            exact ⟨o, g2, by omega⟩
          | none =>
            rw [h2] at h
            exact iP _ _ _ hg h
    · rw [rdLet] at h
      cases h1 : tok1 1 l with
      | none => rw [h1] at h; cases h
      | some y =>
        obtain ⟨x, r1⟩ := y
        rw [h1] at h
        obtain ⟨x1, g1, l1⟩ := tok1_facts (by omega) hg h1
        simp only at h
        cases h2 : told r1 with
        | none => rw [h2] at h; cases h
        | some y =>
          obtain ⟨t, r2⟩ := y
          rw [h2] at h
          obtain ⟨t1, g2, l2⟩ := told_facts g1 h2
          simp only at h
          cases h3 : eat pEq r2 with
          | none => rw [h3] at h; cases h
          | some r3 =>
            rw [h3] at h
            obtain ⟨g3, l3⟩ := eat_facts g2 h3
            simp only at h
            cases h4 : rdE f r3 with
            | none => rw [h4] at h; cases h
            | some y =>
              obtain ⟨a, r4⟩ := y
              rw [h4] at h
              obtain ⟨o4, g4, l4⟩ := iE _ _ _ g3 h4
              simp only at h
              cases h5 : eat (isKey · wIn) r4 with
              | none => rw [h5] at h; cases h
              | some r5 =>
                rw [h5] at h
                obtain ⟨g5, l5⟩ := eat_facts g4 h5
                simp only at h
                cases h6 : rdE f r5 with
                | none => rw [h6] at h; cases h
                | some y =>
                  obtain ⟨b, r6⟩ := y
                  rw [h6] at h
                  simp only [Option.map_some, Option.some.injEq, Prod.mk.injEq] at h
                  obtain ⟨rfl, rfl⟩ := h
                  obtain ⟨o6, g6, l6⟩ := iE _ _ _ g5 h6
                  exact ⟨⟨x1, t1, o4, o6⟩, g6, by simp only [Ex.wt]; omega⟩
    · rw [rdCase] at h
      cases h1 : rdE f l with
      | none => rw [h1] at h; cases h
      | some y =>
        obtain ⟨a, r1⟩ := y
        rw [h1] at h
        obtain ⟨o1, g1, l1⟩ := iE _ _ _ hg h1
        simp only at h
        cases h2 : eat (isKey · wOf) r1 with
        | none => rw [h2] at h; cases h
        | some r2 =>
          rw [h2] at h
          obtain ⟨g2, l2⟩ := eat_facts g1 h2
          simp only at h
          cases h3 : eat pOpn r2 with
          | none => rw [h3] at h; cases h
          | some r3 =>
            rw [h3] at h
            obtain ⟨g3, l3⟩ := eat_facts g2 h3
            simp only at h
            cases h4 : eat pCls r3 with
            | some r4 =>
              rw [h4] at h
              obtain ⟨g4, l4⟩ := eat_facts g3 h4
              simp only [Option.some.injEq, Prod.mk.injEq] at h
              obtain ⟨rfl, rfl⟩ := h
              exact ⟨⟨o1, trivial⟩, g4, by simp only [Ex.wt, wtA]; omega⟩
            | none =>
              rw [h4] at h
              simp only at h
              cases h5 : rdAlts f r3 with
              | none => rw [h5] at h; cases h
              | some y =>
                obtain ⟨als, r5⟩ := y
                rw [h5] at h
                obtain ⟨o5, g5, l5⟩ := iA _ _ _ g3 h5
                simp only at h
                cases h6 : eat pCls r5 with
                | none => rw [h6] at h; cases h
                | some r6 =>
                  rw [h6] at h
                  obtain ⟨g6, l6⟩ := eat_facts g5 h6
                  simp only [Option.map_some, Option.some.injEq, Prod.mk.injEq] at h
                  obtain ⟨rfl, rfl⟩ := h
                  exact ⟨⟨o1, o5⟩, g6, by simp only [Ex.wt]; omega⟩
    · rw [rdAlts] at h
      cases h1 : tok1 2 l with
      | none => rw [h1] at h; cases h
      | some y =>
        obtain ⟨c, r1⟩ := y
        rw [h1] at h
        obtain ⟨c1, g1, l1⟩ := tok1_facts (by omega) hg h1
        obtain ⟨v1, v2, v3⟩ := vars_spec r1 g1
        simp only at h
        cases h2 : eat pArr (vars r1).2 with
        | none => rw [h2] at h; cases h
        | some r2 =>
          rw [h2] at h
          obtain ⟨g2, l2⟩ := eat_facts v2 h2
          simp only at h
          cases h3 : rdE f r2 with
          | none => rw [h3] at h; cases h
          | some y =>
            obtain ⟨b, r3⟩ := y
            rw [h3] at h
            obtain ⟨o3, g3, l3⟩ := iE _ _ _ g2 h3
            simp only at h
            cases h4 : eat pSem r3 with
            | none =>
              rw [h4] at h
              simp only [Option.some.injEq, Prod.mk.injEq] at h
              obtain ⟨rfl, rfl⟩ := h
              exact ⟨⟨⟨c1, v1, o3⟩, trivial⟩, g3, by simp only [wtA, Al.wt]; omega⟩
            | some r4 =>
              rw [h4] at h
              obtain ⟨g4, l4⟩ := eat_facts g3 h4
              simp only at h
              cases h5 : rdAlts f r4 with
              | none => rw [h5] at h; cases h
              | some y =>
                obtain ⟨als', r5⟩ := y
                rw [h5] at h
                simp only [Option.map_some, Option.some.injEq, Prod.mk.injEq] at h
                obtain ⟨rfl, rfl⟩ := h
                obtain ⟨o5, g5, l5⟩ := iA _ _ _ g4 h5
                exact ⟨⟨⟨c1, v1, o3⟩, o5⟩, g5, by simp only [wtA, Al.wt]; omega⟩
    · rw [rdApp] at h
      cases h1 : rdAtom f l with
      | none => rw [h1] at h; cases h
      | some y =>
        obtain ⟨a, r1⟩ := y
        rw [h1] at h
        obtain ⟨o1, g1, l1⟩ := iT _ _ _ hg h1
        obtain ⟨o2, g2, l2⟩ := iG _ _ _ _ o1 g1 h
        exact ⟨o2, g2, by omega⟩
    · cases l with
      | nil =>
        rw [rdArgs] at h
        simp only [Option.some.injEq, Prod.mk.injEq] at h
        obtain ⟨rfl, rfl⟩ := h
        exact ⟨ha, hg, by simp⟩
      | cons t r1 =>
        rw [rdArgs] at h
        split at h
        · cases h1 : rdAtom f (t :: r1) with
          | none => rw [h1] at h; cases h
          | some y =>
            obtain ⟨b, r2⟩ := y
            rw [h1] at h
            obtain ⟨o1, g1, l1⟩ := iT _ _ _ hg h1
            obtain ⟨o2, g2, l2⟩ := iG _ _ _ _ (show (Ex.app a b).Ok from ⟨ha, o1⟩) g1 h
            exact ⟨o2, g2, by simp only [Ex.wt] at l2; omega⟩
        · simp only [Option.some.injEq, Prod.mk.injEq] at h
          obtain ⟨rfl, rfl⟩ := h
          exact ⟨ha, hg, by simp⟩
    · rw [rdAtom] at h
      cases h1 : tok1 1 l with
      | some y =>
        obtain ⟨x, r1⟩ := y
        rw [h1] at h
        obtain ⟨x1, g1, l1⟩ := tok1_facts (by omega) hg h1
        simp only [Option.some.injEq, Prod.mk.injEq] at h
        obtain ⟨rfl, rfl⟩ := h
        exact ⟨x1, g1, by simp only [Ex.wt]; omega⟩
      | none =>
        rw [h1] at h
        simp only at h
        cases h2 : eat pLp l with
        | some r1 =>
          rw [h2] at h
          obtain ⟨g1, l1⟩ := eat_facts hg h2
          simp only at h
          cases h3 : rdE f r1 with
          | none => rw [h3] at h; cases h
          | some y =>
            obtain ⟨a, r2⟩ := y
            rw [h3] at h
            obtain ⟨o3, g3, l3⟩ := iE _ _ _ g1 h3
            simp only at h
            cases h4 : told r2 with
            | none => rw [h4] at h; cases h
            | some y =>
              obtain ⟨t, r3⟩ := y
              rw [h4] at h
              obtain ⟨t4, g4, l4⟩ := told_facts g3 h4
              cases t with
              | none =>
                simp only at h
                cases h5 : eat pRp r3 with
                | none => rw [h5] at h; cases h
                | some r4 =>
                  rw [h5] at h
                  obtain ⟨g5, l5⟩ := eat_facts g4 h5
                  simp only [Option.map_some, Option.some.injEq, Prod.mk.injEq] at h
                  obtain ⟨rfl, rfl⟩ := h
                  exact ⟨o3, g5, by omega⟩
              | some t =>
                simp only at h
                cases h5 : eat pRp r3 with
                | none => rw [h5] at h; cases h
                | some r4 =>
                  rw [h5] at h
                  obtain ⟨g5, l5⟩ := eat_facts g4 h5
                  simp only [Option.map_some, Option.some.injEq, Prod.mk.injEq] at h
                  obtain ⟨rfl, rfl⟩ := h
                  exact ⟨⟨o3, t4 t rfl⟩, g5, by simp only [Ex.wt]; simp only [toldW] at l4; omega⟩
        | none =>
          rw [h2] at h
          simp only at h
          cases h3 : tok1 2 l with
          | none => rw [h3] at h; cases h
          | some y =>
            obtain ⟨x, r1⟩ := y
            rw [h3] at h
            obtain ⟨x1, g1, l1⟩ := tok1_facts (by omega) hg h3
            simp only [Option.map_some, Option.some.injEq, Prod.mk.injEq] at h
            obtain ⟨rfl, rfl⟩ := h
            exact ⟨x1, g1, by simp only [Ex.wt]; omega⟩
end Sx
end Go.Proofs.YtefldbbiajkbnaaGreatDoor

/-
  How an expression lies in memory: its nine cells (four of them its type's), and behind its slices the cells of its kids and of its alternatives, all of them in blocks of a set S. The document's expressions lie alike.
-/
namespace Go.Proofs.YtefldbbiajkbnaaGreatDoor
open Go.RowKit Lx Tx
namespace Sx

def kdE : Ex → Nat
  | .var _ => 1
  | .con _ => 2
  | .lam _ _ => 3
  | .app _ _ => 4
  | .lt _ _ _ _ => 5
  | .cs _ _ => 6
  | .ann _ _ => 7
def nmE : Ex → Nm
  | .var x => x
  | .con c => c
  | .lam x _ => x
  | .app _ _ => []
  | .lt x _ _ _ => x
  | .cs _ _ => []
  | .ann _ _ => []
def toE : Ex → Bool
  | .lt _ (some _) _ _ => true
  | _ => false
def tyE : Ex → Option Ty
  | .lt _ t _ _ => t
  | .ann _ t => some t
  | _ => none
def kidsE : Ex → List Ex
  | .var _ => []
  | .con _ => []
  | .lam _ e => [e]
  | .app a b => [a, b]
  | .lt _ _ a b => [a, b]
  | .cs e _ => [e]
  | .ann e _ => [e]
def altsE : Ex → List Al
  | .cs _ l => l
  | _ => []
def strV (x : Nm) : Value := .string ⟨x.toArray⟩

/-- where slices lie: an address and a capacity each: of the type's arguments, of the kids, of the alternatives -/
structure Pls where
  A : Option Addr
  a : Nat
  K : Option Addr
  k : Nat
  L : Option Addr
  l : Nat
/-- the four cells of a type, or of none -/
def tyC : Option Ty → Option Addr → Nat → List Value
  | none, _, _ => [.int .i64 0, .string ⟨#[]⟩, .int .i64 0, .slice none 0 0]
  | some t, A, c => tyV t A c
/-- the nine cells of an expression -/
def exC (e : Ex) (P : Pls) : List Value :=
  [.int .i64 (kdE e : Nat), strV (nmE e), .bool (toE e)] ++ tyC (tyE e) P.A P.a ++ [.slice P.K (kidsE e).length ((kidsE e).length + P.k), .slice P.L (altsE e).length P.l]
theorem tyC_length (t : Option Ty) (A : Option Addr) (c : Nat) : (tyC t A c).length = 4 := by cases t <;> rfl
theorem exC_length (e : Ex) (P : Pls) : (exC e P).length = 9 := by simp [exC, tyC_length]
/-- these cells lie from a place on -/
def Lie (w : World) (g o : Nat) (vs : List Value) : Prop := ∀ (j : Nat) (v : Value), vs[j]? = some v → w.cell? ⟨g, o + j, none⟩ = some v
def TyA (S : Nat → Prop) (w : World) : Option Ty → Option Addr → Prop
  | none, _ => True
  | some t, A => Args S w t A
/-- behind a slice lie these names -/
def NmsIn (S : Nat → Prop) (w : World) (vs : List Nm) (V : Option Addr) : Prop := vs ≠ [] → ∃ g, V = some ⟨g, 0, none⟩ ∧ S g ∧ Lie w g 0 (vs.map strV)

mutual
/-- behind K lie the kids of e, behind L its alternatives -/
def ExIn (S : Nat → Prop) (w : World) : Ex → Option Addr → Option Addr → Prop
  | .var _, _, _ => True
  | .con _, _, _ => True
  | .lam _ e, K, _ => ∃ g, K = some ⟨g, 0, none⟩ ∧ S g ∧ ∃ P : Pls, Lie w g 0 (exC e P) ∧ TyA S w (tyE e) P.A ∧ ExIn S w e P.K P.L
  | .app a b, K, _ => ∃ g, K = some ⟨g, 0, none⟩ ∧ S g ∧ (∃ P : Pls, Lie w g 0 (exC a P) ∧ TyA S w (tyE a) P.A ∧ ExIn S w a P.K P.L) ∧ ∃ P : Pls, Lie w g 9 (exC b P) ∧ TyA S w (tyE b) P.A ∧ ExIn S w b P.K P.L
  | .lt _ _ a b, K, _ => ∃ g, K = some ⟨g, 0, none⟩ ∧ S g ∧ (∃ P : Pls, Lie w g 0 (exC a P) ∧ TyA S w (tyE a) P.A ∧ ExIn S w a P.K P.L) ∧ ∃ P : Pls, Lie w g 9 (exC b P) ∧ TyA S w (tyE b) P.A ∧ ExIn S w b P.K P.L
  | .cs e l, K, L => (∃ g, K = some ⟨g, 0, none⟩ ∧ S g ∧ ∃ P : Pls, Lie w g 0 (exC e P) ∧ TyA S w (tyE e) P.A ∧ ExIn S w e P.K P.L) ∧ (l ≠ [] → ∃ g, L = some ⟨g, 0, none⟩ ∧ S g ∧ AlsIn S w l g 0)
  | .ann e _, K, _ => ∃ g, K = some ⟨g, 0, none⟩ ∧ S g ∧ ∃ P : Pls, Lie w g 0 (exC e P) ∧ TyA S w (tyE e) P.A ∧ ExIn S w e P.K P.L
/-- an alternative's eleven cells lie from a place on -/
def AlIn (S : Nat → Prop) (w : World) : Al → Nat → Nat → Prop
  | .mk c vs b, g, o => w.cell? ⟨g, o, none⟩ = some (strV c) ∧ (∃ V v, w.cell? ⟨g, o + 1, none⟩ = some (.slice V vs.length v) ∧ NmsIn S w vs V) ∧
      ∃ P : Pls, Lie w g (o + 2) (exC b P) ∧ TyA S w (tyE b) P.A ∧ ExIn S w b P.K P.L
def AlsIn (S : Nat → Prop) (w : World) : List Al → Nat → Nat → Prop
  | [], _, _ => True
  | a :: r, g, o => AlIn S w a g o ∧ AlsIn S w r g (o + 11)
end
/-- e lies from a place on -/
def ExAt (S : Nat → Prop) (w : World) (e : Ex) (g o : Nat) : Prop := ∃ P : Pls, Lie w g o (exC e P) ∧ TyA S w (tyE e) P.A ∧ ExIn S w e P.K P.L
/-- v is this expression's value -/
def RdX (S : Nat → Prop) (w : World) (e : Ex) (v : Value) : Prop := ∃ P : Pls, v = .agg (exC e P).toArray ∧ TyA S w (tyE e) P.A ∧ ExIn S w e P.K P.L
/-- expressions lie one behind the other -/
def ExsAt (S : Nat → Prop) (w : World) : List Ex → Nat → Nat → Prop
  | [], _, _ => True
  | e :: r, g, o => ExAt S w e g o ∧ ExsAt S w r g (o + 9)

theorem Lie.keep {w w' : World} {g o : Nat} {vs : List Value} (h : Lie w g o vs) (hk : w'.heap[g]? = w.heap[g]?) : Lie w' g o vs := fun j v hj =>
  (World.cell?_of_block (w := w) (a := ⟨g, o + j, none⟩) hk).trans (h j v hj)
theorem cell_keep {w w' : World} {g o : Nat} {v : Value} (h : w.cell? ⟨g, o, none⟩ = some v) (hk : w'.heap[g]? = w.heap[g]?) : w'.cell? ⟨g, o, none⟩ = some v :=
  (World.cell?_of_block (w := w) (a := ⟨g, o, none⟩) hk).trans h
theorem TyA.keep {S S' : Nat → Prop} {w w' : World} (hS : ∀ g, S g → S' g) (hk : ∀ g, S g → w'.heap[g]? = w.heap[g]?) {t : Option Ty} {A : Option Addr} (h : TyA S w t A) : TyA S' w' t A := by
  cases t with
  | none => trivial
  | some t => exact Args.keep hS hk t A h
theorem NmsIn.keep {S S' : Nat → Prop} {w w' : World} (hS : ∀ g, S g → S' g) (hk : ∀ g, S g → w'.heap[g]? = w.heap[g]?) {vs : List Nm} {V : Option Addr} (h : NmsIn S w vs V) : NmsIn S' w' vs V := fun hv => by
  obtain ⟨g, h1, h2, h3⟩ := h hv
  exact ⟨g, h1, hS g h2, h3.keep (hk g h2)⟩
mutual
theorem ExIn.keep {S S' : Nat → Prop} {w w' : World} (hS : ∀ g, S g → S' g) (hk : ∀ g, S g → w'.heap[g]? = w.heap[g]?) : (e : Ex) → ∀ K L, ExIn S w e K L → ExIn S' w' e K L
  | .var _, _, _, _ => by rw [ExIn]; trivial
  | .con _, _, _, _ => by rw [ExIn]; trivial
  | .lam _ e, K, L, h => by
    rw [ExIn] at h ⊢
    obtain ⟨g, h1, h2, P, h3, h4, h5⟩ := h
    exact ⟨g, h1, hS g h2, P, h3.keep (hk g h2), h4.keep hS hk, ExIn.keep hS hk e _ _ h5⟩
  | .app a b, K, L, h => by
    rw [ExIn] at h ⊢
    obtain ⟨g, h1, h2, ⟨P, h3, h4, h5⟩, Q, h6, h7, h8⟩ := h
    exact ⟨g, h1, hS g h2, ⟨P, h3.keep (hk g h2), h4.keep hS hk, ExIn.keep hS hk a _ _ h5⟩, Q, h6.keep (hk g h2), h7.keep hS hk, ExIn.keep hS hk b _ _ h8⟩
  | .lt _ _ a b, K, L, h => by
    rw [ExIn] at h ⊢
    obtain ⟨g, h1, h2, ⟨P, h3, h4, h5⟩, Q, h6, h7, h8⟩ := h
    exact ⟨g, h1, hS g h2, ⟨P, h3.keep (hk g h2), h4.keep hS hk, ExIn.keep hS hk a _ _ h5⟩, Q, h6.keep (hk g h2), h7.keep hS hk, ExIn.keep hS hk b _ _ h8⟩
  | .cs e l, K, L, h => by
    rw [ExIn] at h ⊢
    obtain ⟨⟨g, h1, h2, P, h3, h4, h5⟩, h6⟩ := h
    refine ⟨⟨g, h1, hS g h2, P, h3.keep (hk g h2), h4.keep hS hk, ExIn.keep hS hk e _ _ h5⟩, fun hl => ?_⟩
    obtain ⟨g2, a1, a2, a3⟩ := h6 hl
    exact ⟨g2, a1, hS g2 a2, AlsIn.keep hS hk l g2 0 (hk g2 a2) a3⟩
  | .ann e _, K, L, h => by
    rw [ExIn] at h ⊢
    obtain ⟨g, h1, h2, P, h3, h4, h5⟩ := h
    exact ⟨g, h1, hS g h2, P, h3.keep (hk g h2), h4.keep hS hk, ExIn.keep hS hk e _ _ h5⟩
theorem AlIn.keep {S S' : Nat → Prop} {w w' : World} (hS : ∀ g, S g → S' g) (hk : ∀ g, S g → w'.heap[g]? = w.heap[g]?) : (a : Al) → ∀ g o, w'.heap[g]? = w.heap[g]? → AlIn S w a g o → AlIn S' w' a g o
  | .mk c vs b, g, o, hg, h => by
    rw [AlIn] at h ⊢
    obtain ⟨h1, ⟨V, v, h2, h3⟩, P, h4, h5, h6⟩ := h
    exact ⟨cell_keep h1 hg, ⟨V, v, cell_keep h2 hg, h3.keep hS hk⟩, P, h4.keep hg, h5.keep hS hk, ExIn.keep hS hk b _ _ h6⟩
theorem AlsIn.keep {S S' : Nat → Prop} {w w' : World} (hS : ∀ g, S g → S' g) (hk : ∀ g, S g → w'.heap[g]? = w.heap[g]?) : (l : List Al) → ∀ g o, w'.heap[g]? = w.heap[g]? → AlsIn S w l g o → AlsIn S' w' l g o
  | [], _, _, _, _ => by rw [AlsIn]; trivial
  | a :: r, g, o, hg, h => by
    rw [AlsIn] at h ⊢
    exact ⟨AlIn.keep hS hk a g o hg h.1, AlsIn.keep hS hk r g (o + 11) hg h.2⟩
end
theorem ExAt.keep {S S' : Nat → Prop} {w w' : World} {e : Ex} {g o : Nat} (h : ExAt S w e g o) (hS : ∀ g, S g → S' g) (hk : ∀ g, S g → w'.heap[g]? = w.heap[g]?) (hg : w'.heap[g]? = w.heap[g]?) : ExAt S' w' e g o := by
  obtain ⟨P, h1, h2, h3⟩ := h
  exact ⟨P, h1.keep hg, h2.keep hS hk, ExIn.keep hS hk e _ _ h3⟩
theorem RdX.keep {S S' : Nat → Prop} {w w' : World} {e : Ex} {v : Value} (h : RdX S w e v) (hS : ∀ g, S g → S' g) (hk : ∀ g, S g → w'.heap[g]? = w.heap[g]?) : RdX S' w' e v := by
  obtain ⟨P, rfl, h2, h3⟩ := h
  exact ⟨P, rfl, h2.keep hS hk, ExIn.keep hS hk e _ _ h3⟩
/-- the kids, as a row -/
theorem kids_at {S : Nat → Prop} {w : World} (e : Ex) (K L : Option Addr) : ExIn S w e K L ↔ ((kidsE e ≠ [] → ∃ g, K = some ⟨g, 0, none⟩ ∧ S g ∧ ExsAt S w (kidsE e) g 0) ∧ (altsE e ≠ [] → ∃ g, L = some ⟨g, 0, none⟩ ∧ S g ∧ AlsIn S w (altsE e) g 0)) := by
  cases e with
  | var x => rw [ExIn]; simp [kidsE, altsE]
  | con c => rw [ExIn]; simp [kidsE, altsE]
  | lam x e =>
    rw [ExIn]
    refine ⟨fun ⟨g, h1, h2, h3⟩ => ⟨fun _ => ⟨g, h1, h2, h3, trivial⟩, fun h => absurd rfl h⟩, fun ⟨h, _⟩ => ?_⟩
    obtain ⟨g, h1, h2, h3, _⟩ := h (by simp [kidsE])
    exact ⟨g, h1, h2, h3⟩
  | app a b =>
    rw [ExIn]
    refine ⟨fun ⟨g, h1, h2, h3, h4⟩ => ⟨fun _ => ⟨g, h1, h2, h3, h4, trivial⟩, fun h => absurd rfl h⟩, fun ⟨h, _⟩ => ?_⟩
    obtain ⟨g, h1, h2, h3, h4, _⟩ := h (by simp [kidsE])
    exact ⟨g, h1, h2, h3, h4⟩
  | lt x t a b =>
    rw [ExIn]
    refine ⟨fun ⟨g, h1, h2, h3, h4⟩ => ⟨fun _ => ⟨g, h1, h2, h3, h4, trivial⟩, fun h => absurd rfl h⟩, fun ⟨h, _⟩ => ?_⟩
    obtain ⟨g, h1, h2, h3, h4, _⟩ := h (by simp [kidsE])
    exact ⟨g, h1, h2, h3, h4⟩
  | cs e l =>
    rw [ExIn]
    refine ⟨fun ⟨⟨g, h1, h2, h3⟩, h4⟩ => ⟨fun _ => ⟨g, h1, h2, h3, trivial⟩, h4⟩, fun ⟨h, h4⟩ => ⟨?_, h4⟩⟩
    obtain ⟨g, h1, h2, h3, _⟩ := h (by simp [kidsE])
    exact ⟨g, h1, h2, h3⟩
  | ann e t =>
    rw [ExIn]
    refine ⟨fun ⟨g, h1, h2, h3⟩ => ⟨fun _ => ⟨g, h1, h2, h3, trivial⟩, fun h => absurd rfl h⟩, fun ⟨h, _⟩ => ?_⟩
    obtain ⟨g, h1, h2, h3, _⟩ := h (by simp [kidsE])
    exact ⟨g, h1, h2, h3⟩
theorem ExsAt.at_ {S : Nat → Prop} {w : World} : (l : List Ex) → ∀ g o i (hi : i < l.length), ExsAt S w l g o → ExAt S w l[i] g (o + i * 9)
  | [], _, _, i, hi, _ => absurd hi (by simp)
  | e :: r, g, o, 0, _, h => by rw [ExsAt] at h; simpa using h.1
  | e :: r, g, o, i + 1, hi, h => by
    rw [ExsAt] at h
    have := ExsAt.at_ r g (o + 9) i (by simpa using hi) h.2
    rw [show o + 9 + i * 9 = o + (i + 1) * 9 by omega] at this
    simpa using this
theorem AlsIn.at_ {S : Nat → Prop} {w : World} : (l : List Al) → ∀ g o i (hi : i < l.length), AlsIn S w l g o → AlIn S w l[i] g (o + i * 11)
  | [], _, _, i, hi, _ => absurd hi (by simp)
  | a :: r, g, o, 0, _, h => by rw [AlsIn] at h; simpa using h.1
  | a :: r, g, o, i + 1, hi, h => by
    rw [AlsIn] at h
    have := AlsIn.at_ r g (o + 11) i (by simpa using hi) h.2
    rw [show o + 11 + i * 11 = o + (i + 1) * 11 by omega] at this
    simpa using this
/-- what goes through all parts: the kids, and then what the alternatives are -/
def alB : Al → Ex
  | .mk _ _ b => b
def parts (e : Ex) : List Ex := kidsE e ++ (altsE e).map alB
theorem size_parts (e : Ex) : e.size = 1 + ((parts e).map Ex.size).sum := by
  have hA : ∀ l : List Al, sizeA l = ((l.map alB).map Ex.size).sum := by
    intro l
    induction l with
    | nil => rfl
    | cons a r ih => cases a; simp [sizeA, Al.size, alB, ih]
  cases e <;> simp [Ex.size, parts, kidsE, altsE, hA] <;> omega
theorem depth_parts (e : Ex) : e.depth = 1 + ((parts e).map Ex.depth).foldl max 0 := by
  have hm : ∀ (l : List Nat) (a : Nat), l.foldl max a = max a (l.foldl max 0) := by
    intro l
    induction l with
    | nil => intro a; simp
    | cons x r ih => intro a; rw [List.foldl_cons, List.foldl_cons, ih (max a x), ih (max 0 x)]; omega
  have hA : ∀ l : List Al, depthA l = ((l.map alB).map Ex.depth).foldl max 0 := by
    intro l
    induction l with
    | nil => rfl
    | cons a r ih => cases a; rw [depthA, ih]; simp only [Al.depth, alB, List.map_cons, List.foldl_cons]; rw [hm _ (max 0 _)]; omega
  cases e with
  | var x => rfl
  | con x => rfl
  | lam x e => simp [Ex.depth, parts, kidsE, altsE]; omega
  | app a b => simp [Ex.depth, parts, kidsE, altsE]; omega
  | lt x t a b => simp [Ex.depth, parts, kidsE, altsE]; omega
  | cs e l =>
    simp only [Ex.depth, parts, kidsE, altsE, hA, List.map_append, List.foldl_append, List.map_cons, List.map_nil, List.foldl_cons, List.foldl_nil]
    rw [hm _ (max 0 e.depth)]; omega
  | ann e t => simp [Ex.depth, parts, kidsE, altsE]; omega
theorem deep_parts (e : Ex) : e.deepT = (deepO (tyE e) || (parts e).any Ex.deepT) := by
  have hA : ∀ l : List Al, deepA l = (l.map alB).any Ex.deepT := by
    intro l
    induction l with
    | nil => rfl
    | cons a r ih => cases a; simp [deepA, Al.deepT, alB, ih]
  cases e <;> simp [Ex.deepT, parts, kidsE, altsE, tyE, deepO, hA]
end Sx
end Go.Proofs.YtefldbbiajkbnaaGreatDoor
