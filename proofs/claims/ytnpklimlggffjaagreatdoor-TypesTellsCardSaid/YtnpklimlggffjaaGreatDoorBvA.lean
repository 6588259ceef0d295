/-
  Package types and what it stands on: contracts of the code's functions, part 1.
-/
import Derived.Test.YtnpklimlggffjaaGreatDoorBuX
import Derived.Maps.AppendAt
import Derived.Laws.OwnMore
import Derived.Deep.AppendLies
/-
  The laws of types: numbers one behind the other; filling with whatever number.
-/
namespace Go.Proofs.YtnpklimlggffjaaGreatDoor
open Go.RowKit Lx Tx Go.Maps Go.WideMaps Go.Shelf
set_option maxRecDepth 100000

theorem step_append_two {P : Program} {ops : Array Oper} {o : Oper} {a : Act} {K : Act → World → Prop} {Q : Exit → Act → World → Prop} {E : Prop} {w : World} (hgd : o.guard = none) (s x : Operand) (t : TypeId)
    (ho : o.op = .call { callee := .builtin .append, args := #[s, x], argTypes := #[t, t] })
    (N : Nat) (e : TypeId) (i : TypeInfo) (z : Value) (bytes : Nat) (ht : P.underlying t = some (.slice e)) (hi : P.info? e = some i) (hz : i.zero = some z)
    (hsize : i.size = 1) (hby : i.bytes = bytes) (hzs : z.cells.size = 1)
    (v u : Value) (n m : Nat) (xs ys : List Value) (hs : a.eval s = v) (hx : a.eval x = u) (hv : w.ownsRow N e 1 v n xs) (hu : w.ownsRow N e 1 u m ys) (h1 : ∀ y ∈ ys, y.oneCell' = true)
    (h63 : n + m ≤ maxLen) (hbytes : (n + m) * bytes ≤ 140737488355328) (hN : N ≤ w.heap.size)
    (h : ∀ A c w', w'.ownsRow N e 1 (.slice A (n + m) c) (n + m) (xs ++ ys) → Below N w w' → K (a.put o.dst (.slice A (n + m) c)) w') :
    if Region.wanted o (yielded ops a.tmps) = true then Oper.wp P o a w K Q else E := by
  have hw : Region.wanted o (yielded ops a.tmps) = true := by simp [Region.wanted, hgd]
  rw [if_pos hw]
  rcases hu.2 with ⟨rfl, rfl⟩ | ⟨g, cap, cur, rfl, _⟩
  · have hrun := run_append_owned_none (P := P) (w := w) N t o.type e i 1 ht hi v n xs hv
    have hys : ys = [] := List.length_eq_zero_iff.1 (by have := hu.1; omega)
    subst hys
    obtain ⟨A, c, rfl⟩ := own_shape hv
    have hk := h A c w (by rw [List.append_nil]; exact hv) (Below.refl _ w)
    unfold Oper.wp execOp
    simp only [ho, resolve, invoke, builtin, Sem.run_bind, Sem.run_pure, Result.andThen_ok, List.map_toArray, List.map_cons, List.map_nil, hs, hx, hrun]
    exact hk
  · obtain ⟨v', w', hr, h2, h3, -, -⟩ := run_append_own_at (P := P) (w := w) N t o.type e i z 1 bytes ht hi hz hsize hby hzs (by omega) v n xs hv ⟨g, 0, none⟩ m cap ys hu.1
      (fun j y hy => hu.cells (g := g) rfl j y hy) h1 h63 hbytes hN
    obtain ⟨A, c, rfl⟩ := own_shape h2
    have hk := h A c w' h2 (Below.grown (Below.refl _ w) h3 hN (fun k hk => (hv.lt k hk).1))
    unfold Oper.wp execOp
    simp only [ho, resolve, invoke, builtin, Sem.run_bind, Sem.run_pure, Result.andThen_ok, List.map_toArray, List.map_cons, List.map_nil, hs, hx, hr]
    exact hk

/-- numbers that the call itself has laid -/
def MetO (N : Nat) (l : List Nat) (n : Nat) (w : World) (v : Value) : Prop := w.ownsRow N 3 1 v n (intV l) ∧ n ≤ 2000000
theorem MetO.below {N : Nat} {l : List Nat} {n : Nat} {w w' : World} {v : Value} (h : MetO N l n w v) (hb : Below w.heap.size w w') : MetO N l n w' v := ⟨own_below h.1 hb, h.2⟩
def MetsPst (N : Nat) (l : List Nat) (n : Nat) (w : World) (e : Ending) (w' : World) : Prop :=
  ∃ A c, e = .returned (.slice A n c) ∧ MetO N l n w' (.slice A n c) ∧ Below w.heap.size w w'
theorem rn_mets {w : World} {t : Ty} {v : Value} (hv : RdN w t v) (hn : Nm t) (hs : t.size ≤ 1000000) (N n : Nat) (hN : N ≤ w.heap.size) (hl : t.metas.length = n) :
    Calls Tryz.prog 23 #[v] w (MetsPst N t.metas n w) := by
  have := tc_metas t _ _ w hv (fun _ h => h) hn hs
  rw [metasL_eq, hl] at this
  refine this.mono ?_
  rintro e w' ⟨A, cp, rfl, ho, h2, hb⟩
  exact ⟨A, cp, rfl, ⟨own_base ho hN, h2⟩, hb⟩

/-- the cells of a list of numbers -/
def MetR (w : World) (L : List Nat) (n : Nat) (A : Option Addr) : Prop := L.length = n ∧ (0 < n → ∃ g, A = some ⟨g, 0, none⟩ ∧ ∀ (k : Nat) (x : Nat), L[k]? = some x → w.cell? ⟨g, k, none⟩ = some (.int .i64 x))
theorem MetR.of_own {w : World} {N : Nat} {L : List Nat} {n : Nat} {A : Option Addr} {c : Nat} {e : TypeId} (h : w.ownsRow N e 1 (.slice A n c) n (intV L)) : MetR w L n A := by
  refine ⟨by have := h.1; rw [intV_len] at this; omega, fun h0 => ?_⟩
  rcases h.2 with ⟨q, h1⟩ | ⟨g, cap, cur, q, _⟩
  · omega
  · injection q with q1 q2 q3
    subst q1
    refine ⟨g, rfl, fun k x hx => ?_⟩
    have := h.cells (g := g) rfl k (.int .i64 x) (by unfold intV; rw [List.getElem?_map, hx]; rfl)
    rwa [add_zero_addr] at this

/-! ### filling with whatever number -/
def filI (m : Int) (U d : Dt) : Dt := if m < 0 then d else filD m.toNat U d
def MtI (m : Int) (d : Dt) : Prop := ∃ k : Nat, (k : Int) = m ∧ MtOcc k d
theorem db_putI (m : Int) (t u : Ty) (ht : t.size ≤ 1000000) (hu : u.size ≤ 1000000) : db [] (putT (isPM m) t u) = filI m (db [] u) (db [] t) := by
  unfold filI
  by_cases h : m < 0
  · rw [if_pos h]; exact db_putM_neg m h t u ht hu
  · rw [if_neg h]
    have e : ((m.toNat : Nat) : Int) = m := Int.toNat_of_nonneg (by omega)
    have := db_putM m.toNat t u ht hu
    rw [e] at this
    exact this
theorem filI_comm (m n : Int) (U V d : Dt) (hmn : m ≠ n) (hU : ¬ MtI n U) (hV : ¬ MtI m V) : filI n V (filI m U d) = filI m U (filI n V d) := by
  unfold filI
  by_cases h : m < 0
  · rw [if_pos h, if_pos h]
  · rw [if_neg h, if_neg h]
    by_cases h' : n < 0
    · rw [if_pos h', if_pos h']
    · rw [if_neg h', if_neg h']
      exact filD_comm _ _ _ _ _ (by omega) (fun q => hU ⟨n.toNat, by omega, q⟩) (fun q => hV ⟨m.toNat, by omega, q⟩)
theorem metas_mem (t : Ty) (k : Nat) : k ∈ t.metas ↔ MtOcc k (db [] t) := by
  unfold Ty.metas
  rw [metas_db [] t, mem_metasD]
  simp
theorem metas_mtI (t : Ty) (m : Int) : MtI m (db [] t) ↔ ∃ k ∈ t.metas, (k : Int) = m := by
  unfold MtI
  constructor
  · rintro ⟨k, e, h⟩; exact ⟨k, (metas_mem t k).2 h, e⟩
  · rintro ⟨k, h, e⟩; exact ⟨k, e, (metas_mem t k).1 h⟩
theorem metas_filI (m : Int) (t u : Ty) (ht : t.size ≤ 1000000) (hu : u.size ≤ 1000000) (h : ¬ MtI m (db [] u)) : ¬ MtI m (db [] (putT (isPM m) t u)) := by
  rintro ⟨k, e, hk⟩
  rw [db_putI m t u ht hu] at hk
  unfold filI at hk
  rw [if_neg (by omega)] at hk
  have e2 : m.toNat = k := by omega
  rw [e2] at hk
  exact metas_fil k _ (fun q => h ⟨k, e, q⟩) _ hk

/-- no number of the list is m -/
def Nob (m : Int) (l : List Nat) : Prop := ∀ x ∈ l, (x : Int) ≠ m
theorem Nob.snoc {m : Int} {l : List Nat} {k x : Nat} (h : Nob m (l.take k)) (hx : l[k]? = some x) (hne : (x : Int) ≠ m) : Nob m (l.take (k + 1)) := by
  obtain ⟨hk, e⟩ := List.getElem?_eq_some_iff.1 hx
  intro y hy
  rw [List.take_succ_eq_append_getElem hk] at hy
  rcases List.mem_append.1 hy with hy | hy
  · exact h y hy
  · rw [List.mem_singleton.1 hy, e]; exact hne
theorem iF (x : Nat) (m : Int) (h : (x : Int) ≠ m) : ((x : Int) == m) = false := by rw [Bool.eq_false_iff]; intro e; exact h (by simpa using e)
theorem iT (x : Nat) (m : Int) (h : (x : Int) = m) : ((x : Int) == m) = true := by rw [h]; simp

end Go.Proofs.YtnpklimlggffjaaGreatDoor
