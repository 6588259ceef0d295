/-
  savantlaw01.LexPlays, whatever the text: it answers true, and the text is as it was.
-/
import Derived.Test.YtphffibigmpnkaaRefScan
import Derived.Test.YtphffibigmpnkaaLexLaw
import Derived.Test.YtphffibigmpnkaaRows
import Derived.ProofKit
import Derived.OpenShut
import Derived.ShutString
import Derived.Carry
namespace Go.Proofs.Ytphffibigmpnkaa.lexPlays
open Go.ChangeShapes Go.WideShapes Go.ChangeAt Go.RowKit Lx
open Go.ChangeMaps (open_string shut_string)

theorem own : ownKnob Try.prog.godebug = none := by kernel_rfl

theorem scanS_len (l : List UInt8) (ts : List Tok) (a b : Nat) (h : scanS l = (ts, a, b)) : ts.length ≤ 4000 := by
  have key : ∀ (f i : Nat) (l : List UInt8) (us : List Tok), scan f i l = .ok us → us.length ≤ l.length := by
    intro f
    induction f with
    | zero => intro i l us h; simp [scan] at h; subst h; simp
    | succ f ih =>
      intro i l us h
      rw [scan_succ] at h
      split at h
      · injection h with h; subst h; simp
      · split at h
        · cases h
        · rename_i h0 h1
          have hp := first_pos _ h1
          cases hx : scan f (i + btw false l + (first (l.drop (btw false l))).2) ((l.drop (btw false l)).drop (first (l.drop (btw false l))).2) with
          | error e => rw [hx] at h; cases h
          | ok vs =>
            rw [hx] at h
            have h : Except.ok (_ :: vs) = Except.ok us := h
            injection h with h
            subst h
            have := ih _ _ _ hx
            simp only [List.length_drop] at this hp
            simp only [List.length_cons]
            omega
  unfold scanS at h
  split at h
  · injection h with h _; subst h; simp
  · rename_i hl
    have hk := key (l.length + 1) 0 l
    cases hx : lex l with
    | error e => rw [hx] at h; injection h with h _; subst h; simp
    | ok us =>
      rw [hx] at h
      injection h with h _
      subst h
      have := hk us hx
      omega

set_option maxHeartbeats 400000 in
theorem walk (s : ByteArray) (hs : s.size ≤ maxLen) (w : World) : Calls Try.prog 3 #[.string s] w fun e w' => e = .returned (.bool true) ∧ Below w.heap.size w w' := by
  obtain ⟨⟨ts, a, b⟩, hsc⟩ : ∃ x, scanS s.data.toList = x := ⟨_, rfl⟩
  have hlen := scanS_len _ _ _ _ hsc
  have S1 : ∀ w : World, Calls Try.prog 10 #[.string s] w fun e w' => ∃ v, e = .returned (.tuple #[v, .int .i64 (a : Nat), .int .i64 (b : Nat)]) ∧ RdT w' v ts ∧ Below w.heap.size w w' := fun w =>
    (scan_any s w hs).mono fun e w' ⟨hb, v, us, i, j, h1, h2, h3⟩ => by
      rw [hsc] at h1
      injection h1 with h1 h4
      injection h4 with h4 h5
      subst h1 h4 h5
      exact ⟨v, h2, RdT.of_own h3, hb⟩
  have S2 : ∀ w : World, Calls Try.prog 11 #[.string s] w fun e w' => ∃ v, e = .returned (.tuple #[v, .int .i64 (a : Nat), .int .i64 (b : Nat)]) ∧ RdT w' v ts ∧ Below w.heap.size w w' := fun w =>
    (ref_any s w hs).mono fun e w' ⟨hb, v, us, i, j, h1, h2, h3⟩ => by
      rw [hsc] at h1
      injection h1 with h1 h4
      injection h4 with h4 h5
      subst h1 h4 h5
      exact ⟨v, h2, RdT.of_own h3, hb⟩
  clear hsc hs
  go_enter Try.func3, Try.ntmps3
  go_wp2_with (first
    | (go_at_call 9; refine (awake_any _).mono ?_; rintro e w1 ⟨rfl, b1⟩; have B1 := hidE b1; clear b1)
    | (go_at_call 10; refine (S1 _).mono ?_; rintro e w2 ⟨v2, rfl, r2, b2⟩; have R2 := hidE r2; have B2 := hidE b2; clear r2 b2)
    | (go_at_call 11; refine (S2 _).mono ?_; rintro e w3 ⟨v3, rfl, r3, b3⟩; have R3 := hidE r3; have B3 := hidE b3; clear r3 b3)
    | (go_at_call 12; refine (same_true _ _ ts _ (R2.out.below B3.out) R3.out hlen).mono ?_; rintro e w4 ⟨rfl, m4, rfl⟩))
  go_ret
  exact ⟨rfl, below_drewN' (bnext (bnext B1.out B2.out (Nat.le_refl _)) B3.out (Nat.le_refl _)) _⟩

/-! ### the row's step -/
set_option maxRecDepth 100000 in
theorem lifted (os : Os) (started : os.Started) (H : Type) (enc : TypeId × Value → H) :
    ReturnsInHanded {} Try.checked os 3 .any (Rows.lexPlaysSpec.pre6 enc Try.prog Try.f3 Rows.lexPlaysRow.domain false) (Rows.lexPlaysSpec.post enc Try.prog Try.f3 false true false false) := by
  refine returnsInHanded_of_change (C := Try.checked) own started (by kernel_rfl) Try.func3
    (ChangeSpec.witness6 (enc := enc) (C := Try.checked) false ⟨#[], #[.string ByteArray.empty], []⟩ 8 (by kernel_rfl) (by kernel_rfl) (by kernel_rfl) (by kernel_rfl)) ?_
  intro W base args ds gs before hval0 hW hcnd _
  have hval : ∀ (j : Nat) t v, Try.f3.params[j]? = some t → args[j]? = some v → Value.okWide Try.prog W .any base t v := hval0
  have hW' := hW
  obtain ⟨p, q, hA0, hV, rfl, hfz, hnd⟩ := hW
  have hA : DataW.TrodAll enc Try.prog W 0 (fun _ => true) true Try.f3.params.toList args.toList ds p := hA0
  rw [Try.params3] at hA hval
  obtain ⟨v0, vs0, d0, ds0, p0, q0, hargs, rfl, rfl, h0, r0⟩ := trodAll_cons hA
  obtain ⟨rfl, rfl, rfl⟩ := trodAll_nil r0
  obtain rfl : args = #[v0] := by cases args; simp_all
  obtain ⟨rfl, rfl⟩ := trodVars_none hV
  obtain ⟨a0, rfl, rfl, rfl, w0⟩ := open_string Try.underlying9 (hval 0 9 v0 rfl rfl) h0
  clear hA0 hval0
  simp only [List.append_nil] at hW'
  refine (walk a0 w0 W).mono fun e W' ⟨he, hg⟩ => ?_
  subst he
  exact ⟨_, rfl, _, _, _, [], [], [], hW', trodAll_cons_mk (shut_bool Try.underlying4 _) trodAll_mk0, (trodAll_cons_mk (shut_string Try.underlying9 w0) trodAll_mk0), rfl, hg.frame _, fun h => by cases h⟩

theorem over : Rows.lexPlaysRow.holds Try.pinned (OpenSpec.ofChange Rows.lexPlaysSpec) :=
  OpenClaim.holds_of_wide 3 Try.f3 rfl rfl rfl rfl rfl rfl rfl ⟨rfl, rfl, rfl, rfl, rfl⟩ rfl rfl rfl rfl rfl (by kernel_rfl) Try.func3 (by kernel_rfl)
    (of_decide_eq_true (by kernel_rfl)) (by unfold Func.isWrapper; first | (rw [if_pos (by decide +kernel)]; kernel_rfl) | (rw [if_neg (by decide +kernel)]; exact ⟨rfl, rfl⟩))
    (fun os started H enc _ => lifted os started H enc)

/-- the statement -/
theorem proved : Rows.LexPlaysSaid :=
  over
#print axioms proved
end Go.Proofs.Ytphffibigmpnkaa.lexPlays
