/-
  A range over a function whose iterator and whose rounds change one state: what holds when a round is asked for, what it leaves, how the statement is left. Without conditions on how the state lies in memory.
-/
import Derived.RangeFuncNested
import Derived.RangeFuncBound
import Derived.RangeFuncCalls
import Derived.RangeFuncLeaves
namespace Go.Proofs.Ytfmpmblhndnbeaa
open Go.RowKit

/-- the loop's record, and the block for its deferred calls -/
def LoopAt (r : Loop) (l D : Nat) (W : World) : Prop := W.heap[l]? = some (.loop r) ∧ W.heap[D]? = some (.deferred (some []))
theorem LoopAt.keep {r : Loop} {l D : Nat} {W W' : World} (h : LoopAt r l D W) (h1 : W'.heap[l]? = W.heap[l]?) (h2 : W'.heap[D]? = W.heap[D]?) : LoopAt r l D W' := ⟨h1.trans h.1, h2.trans h.2⟩
theorem LoopAt.lt {r : Loop} {l D : Nat} {W : World} (h : LoopAt r l D W) : l < W.heap.size ∧ D < W.heap.size := ⟨(Array.getElem?_eq_some_iff.1 h.1).1, (Array.getElem?_eq_some_iff.1 h.2).1⟩
theorem LoopAt.below {r : Loop} {l D : Nat} {W W' : World} (h : LoopAt r l D W) (hb : Below W.heap.size W W') : LoopAt r l D W' := h.keep (hb.block _ h.lt.1) (hb.block _ h.lt.2)
theorem LoopAt.setCell {r : Loop} {l D : Nat} {W : World} (h : LoopAt r l D W) (p : Addr) (v : Value) (h1 : p.block ≠ l) (h2 : p.block ≠ D) : LoopAt r l D (W.setCell p v) :=
  h.keep (Below.heap_setCell _ _ _ _ (Ne.symm h1)) (Below.heap_setCell _ _ _ _ (Ne.symm h2))

/-- how a round may be left -/
def rndPost {σ : Type} (r : Loop) (l D : Nat) (Jn : σ → World → Prop) (Js : Code → World → Prop) (s : σ) : Exit → Act → World → Prop
  | .normal, _, W' => Jn s W' ∧ LoopAt r l D W'
  | .ret, _, W' => Js .ret W' ∧ LoopAt r l D W'
  | .exit id, _, W' => Js (.exit id) W' ∧ LoopAt r l D W'
  | .goto t, _, W' => Js (.goto t) W' ∧ LoopAt r l D W'
  | .panic _, _, _ => False
  | .outgrown, _, _ => False

/-- what a round tells the iterator -/
def rndSaid {σ : Type} (rec : LoopState → Option Code → Loop) (l D : Nat) (Jn : σ → World → Prop) (Js : Code → World → Prop) (s : σ) (e : Ending) (W' : World) : Prop :=
  (e = .returned (.bool true) ∧ Jn s W' ∧ LoopAt (rec .ready none) l D W') ∨ (e = .returned (.bool false) ∧ ∃ c, Js c W' ∧ LoopAt (rec .done (some c)) l D W')
/-- how the iterator ends -/
def itEnd (rec : LoopState → Option Code → Loop) (l D : Nat) (Jd : World → Prop) (Js : Code → World → Prop) (e : Ending) (W' : World) : Prop :=
  (∃ v, e = .returned v) ∧ ((Jd W' ∧ LoopAt (rec .ready none) l D W') ∨ ∃ c, Js c W' ∧ LoopAt (rec .done (some c)) l D W')

/-- what does not mind the record -/
def NoRec (l : Nat) (I : World → Prop) : Prop := ∀ (W : World) (r r' : Loop), I W → W.heap[l]? = some (.loop r) → I (W.putObj l (.loop r'))

variable {F : Fence} {n : Nat} {P : Program}

theorem wpIn_range {σ : Type} {g : Operand} {ps : Array Tmp} {assign body : Code} {Q : Exit → Act → World → Prop} {a : Act} {w : World}
    (hro : F.round = none) (h1 : 1 ≤ n) {gf : Nat} {fb lb : Array Value} (hg : a.eval g = .func (.func gf) fb lb) (hFg : F.fn gf) (eg : ∀ args w, (callFunc gf args).run P w = .ok (.enter gf args) w)
    (enc : σ → Array Value) (hps : ∀ s, (enc s).size = ps.size)
    (J Jn : σ → World → Prop) (Ax : σ → Act → World → Prop) (Jd : World → Prop) (Js : Code → World → Prop)
    (hAx : ∀ s a₁, NoRec (w.heap.size + 1) (Ax s a₁)) (hJn : ∀ s, NoRec (w.heap.size + 1) (Jn s)) (hJd : NoRec (w.heap.size + 1) Jd) (hJs : ∀ c, NoRec (w.heap.size + 1) (Js c))
    (hassign : ∀ (r : Loop) (s : σ) (W : World), J s W → LoopAt r (w.heap.size + 1) w.heap.size W →
      assign.wpIn (F.inRound (w.heap.size + 1)) (n - 1 - 1) P (Exit.then (fun a₁ W₁ => LoopAt r (w.heap.size + 1) w.heap.size W₁ ∧ Ax s a₁ W₁) (fun _ _ _ => False)) { tmps := (ps.zip (enc s)).foldl (fun t (p, v) => t.setIfInBounds p v) a.tmps, defers := [] } W)
    (hbody : ∀ (r : Loop) (s : σ) (a₁ : Act) (W : World), Ax s a₁ W → LoopAt r (w.heap.size + 1) w.heap.size W → body.wpIn (F.inRound (w.heap.size + 1)) (n - 1 - 1) P (rndPost r (w.heap.size + 1) w.heap.size Jn Js s) a₁ W)
    (hiter : ∀ (rec : LoopState → Option Code → Loop) (W1 : World), Below w.heap.size w W1 → W1.heap.size = w.heap.size + 2 → LoopAt (rec .ready none) (w.heap.size + 1) w.heap.size W1 →
      (∀ s W, J s W → LoopAt (rec .ready none) (w.heap.size + 1) w.heap.size W → YieldAt F (n - 1 - 1) P (w.heap.size + 1) (enc s) W (rndSaid rec (w.heap.size + 1) w.heap.size Jn Js s)) →
      CallsIn F (n - 1) P gf (fb ++ #[.func (.yield (w.heap.size + 1)) #[] #[]] ++ lb) W1 (itEnd rec (w.heap.size + 1) w.heap.size Jd Js))
    (hdone : ∀ (W : World), Jd W → W.heap[w.heap.size]? = some (.deferred (some [])) → Q .normal { a with defers := { target := .collected w.heap.size, args := #[] } :: a.defers } W)
    (hstop : ∀ (c : Code) (W : World), Js c W → W.heap[w.heap.size]? = some (.deferred (some [])) → c.wpIn F n P Q { a with defers := { target := .collected w.heap.size, args := #[] } :: a.defers } W) :
    (Code.rangeFunc g ps assign body).wpIn F n P Q a w := by
  refine wpIn_rangeFunc ?_
  intro fn hfn
  rw [hro]
  obtain ⟨rec, hrec⟩ : ∃ rec : LoopState → Option Code → Loop, rec = fun st pe => { state := st, pending := pe, fn, tmps := a.tmps, params := ps, assign, body, defers := w.heap.size } := ⟨_, rfl⟩
  obtain ⟨W1, hW1⟩ : ∃ W1, (w.alloc (.deferred (some []))).alloc (.loop (rec .ready none)) = W1 := ⟨_, rfl⟩
  have hL1 : W1.heap[w.heap.size + 1]? = some (.loop (rec .ready none)) := by
    rw [← hW1]; have := World.alloc_heap_new (w.alloc (.deferred (some []))) (.loop (rec .ready none)); rwa [World.size_alloc] at this
  have hK1 : W1.heap[w.heap.size]? = some (.deferred (some [])) := by
    rw [← hW1]; exact (Below.heap_alloc _ _ _ (by simp)).trans (World.alloc_heap_new w _)
  have hb1 : Below w.heap.size w W1 := by
    rw [← hW1]; exact ((Below.refl _ w).alloc (Nat.le_refl _) _).alloc (by simp) _
  have hs1 : W1.heap.size = w.heap.size + 2 := by rw [← hW1]; simp
  refine ⟨w.heap.size + 1, [{ target := .collected w.heap.size, args := #[] }], W1, { target := .fn (.func gf) lb, args := fb ++ #[.func (.yield (w.heap.size + 1)) #[] #[]] }, W1, gf,
    fb ++ #[.func (.yield (w.heap.size + 1)) #[] #[]] ++ lb, W1, ?_, ?_, ?_, ?_, fun _ => h1, ?_⟩
  · rw [← hW1, hrec]; exact run_enterLoop_outer _ _ _ _ _
  · simp only [resolve, hg]
    simp [go_sem]
  · intro f' hf'; simp [Target.leads] at hf'; subst hf'; exact hFg
  · simp [invoke, go_sem, eg]
  · refine (hiter rec W1 hb1 hs1 ⟨hL1, hK1⟩ ?_).mono ?_
    · rintro s W hj ⟨hl, hk⟩
      have hlt : w.heap.size + 1 < W.heap.size := (Array.getElem?_eq_some_iff.1 hl).1
      have hy := run_yield (P := P) (args := enc s) hl (by rw [hrec]; exact hps s)
      rw [hrec] at hy
      refine ⟨fn, _, assign, body, hy, roundIn_of_wpIn hfn (wpIn_mono (hassign _ s W hj ⟨hl, hk⟩) ?_)⟩
      intro e a₁ W₁ hp
      cases e with
      | normal =>
        obtain ⟨⟨hl1, hk1⟩, hax⟩ := hp
        have hlt1 : w.heap.size + 1 < W₁.heap.size := (Array.getElem?_eq_some_iff.1 hl1).1
        refine ⟨_, run_beginRound hl1 (by rw [hrec]), ?_⟩
        have hl2 : (W₁.putObj (w.heap.size + 1) (.loop { rec .ready none with state := .busy })).heap[w.heap.size + 1]? = some (.loop { rec .ready none with state := .busy }) := World.putObj_heap_same hlt1
        have hk2 : (W₁.putObj (w.heap.size + 1) (.loop { rec .ready none with state := .busy })).heap[w.heap.size]? = some (.deferred (some [])) := (World.putObj_heap_other (by omega)).trans hk1
        refine wpIn_mono (hbody _ s a₁ _ (hAx s a₁ _ _ _ hax hl1) ⟨hl2, hk2⟩) ?_
        have fin : ∀ (jump : Option Code) (W3 : World), LoopAt { rec .ready none with state := .busy } (w.heap.size + 1) w.heap.size W3 →
            (Instr.endRound (w.heap.size + 1) jump).run P W3 = .ok (.bool jump.isNone) (W3.putObj (w.heap.size + 1) (.loop (rec (if jump.isNone then .ready else .done) jump))) ∧
            LoopAt (rec (if jump.isNone then .ready else .done) jump) (w.heap.size + 1) w.heap.size (W3.putObj (w.heap.size + 1) (.loop (rec (if jump.isNone then .ready else .done) jump))) := fun jump W3 hk3 => by
          obtain ⟨hl3, hd3⟩ := hk3
          have := run_endRound (P := P) jump hl3
          rw [hrec] at this ⊢
          exact ⟨this, World.putObj_heap_same (Array.getElem?_eq_some_iff.1 hl3).1, (World.putObj_heap_other (by omega)).trans hd3⟩
        rintro e a3 W3 hp
        cases e with
        | normal =>
          obtain ⟨hi3, hk3⟩ := hp
          obtain ⟨hr, hl3⟩ := fin none W3 hk3
          exact ⟨_, _, hr, .inl ⟨rfl, hJn s _ _ _ hi3 hk3.1, hl3⟩⟩
        | ret =>
          obtain ⟨hi3, hk3⟩ := hp
          obtain ⟨hr, hl3⟩ := fin (some .ret) W3 hk3
          exact ⟨_, _, hr, .inr ⟨rfl, .ret, hJs _ _ _ _ hi3 hk3.1, hl3⟩⟩
        | exit id =>
          obtain ⟨hi3, hk3⟩ := hp
          obtain ⟨hr, hl3⟩ := fin (some (.exit id)) W3 hk3
          exact ⟨_, _, hr, .inr ⟨rfl, .exit id, hJs _ _ _ _ hi3 hk3.1, hl3⟩⟩
        | goto t =>
          obtain ⟨hi3, hk3⟩ := hp
          obtain ⟨hr, hl3⟩ := fin (some (.goto t)) W3 hk3
          exact ⟨_, _, hr, .inr ⟨rfl, .goto t, hJs _ _ _ _ hi3 hk3.1, hl3⟩⟩
        | panic ch => exact hp.elim
        | outgrown => exact hp.elim
      | exit id => exact hp.elim
      | goto t => exact hp.elim
      | ret => exact hp.elim
      | panic ch => exact hp.elim
      | outgrown => exact hp.elim
    · rintro e W2 ⟨⟨v, rfl⟩, (⟨hi, hl, hk⟩ | ⟨c, hi, hl, hk⟩)⟩
      · exact ⟨none, _, by have := run_endLoop (P := P) hl (by rw [hrec]; simp); rw [hrec] at this; exact this, hdone _ (hJd _ _ _ hi hl) ((World.putObj_heap_other (by omega)).trans hk)⟩
      · exact ⟨some c, _, by have := run_endLoop (P := P) hl (by rw [hrec]; simp); rw [hrec] at this; exact this, hstop c _ (hJs c _ _ _ hi hl) ((World.putObj_heap_other (by omega)).trans hk)⟩

end Go.Proofs.Ytfmpmblhndnbeaa
