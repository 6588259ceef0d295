/-
  savantlaw01.LexBehind, whatever the two texts: it answers true, and the texts are as they were.
-/
import Derived.Test.YtphffibigmpnkaaLexApp
import Derived.Test.YtphffibigmpnkaaLexLaw
import Derived.Test.YtphffibigmpnkaaRows
import Derived.ProofKit
import Derived.OpenShut
import Derived.ShutString
import Derived.Carry
namespace Go.Proofs.Ytphffibigmpnkaa.lexBehind
open Go.ChangeShapes Go.WideShapes Go.ChangeAt Go.RowKit Lx
open Go.ChangeMaps (open_string shut_string)

theorem own : ownKnob Try.prog.godebug = none := by kernel_rfl

theorem run_neq_same (w : World) (k a : Int) (s : ByteArray) :
    (binOp .neq 30 (.agg #[.int .i64 k, .string s, .int .i64 a]) (.agg #[.int .i64 k, .string s, .int .i64 a])).run Try.prog w = .ok (.bool false) w := by
  rw [run_neq_tok]; simp

theorem app_data (s t : ByteArray) : ((s ++ (⟨#[10]⟩ : ByteArray)) ++ t).data.toList = s.data.toList ++ 10 :: t.data.toList := by
  rw [append_data, append_data]; simp
theorem app_size (s t : ByteArray) : ((s ++ (⟨#[10]⟩ : ByteArray)) ++ t).size = s.size + 1 + t.size := by
  rw [Lib.size_eq, app_data, List.length_append, List.length_cons, ← Lib.size_eq, ← Lib.size_eq]; omega

theorem lex_app_err (s t : ByteArray) (a : Nat) (h : lex s.data.toList = .error a) : lex ((s ++ (⟨#[10]⟩ : ByteArray)) ++ t).data.toList = .error a := by
  rw [app_data, lex_app, h]
theorem lex_app_bad (s t : ByteArray) (ts : List Tok) (a : Nat) (h : lex s.data.toList = .ok ts) (h2 : lex t.data.toList = .error a) : lex ((s ++ (⟨#[10]⟩ : ByteArray)) ++ t).data.toList = .error (a + (s.size + 1)) := by
  rw [app_data, lex_app, h, h2, ← Lib.size_eq]; rfl
theorem lex_app_ok (s t : ByteArray) (ts us : List Tok) (h : lex s.data.toList = .ok ts) (h2 : lex t.data.toList = .ok us) : lex ((s ++ (⟨#[10]⟩ : ByteArray)) ++ t).data.toList = .ok (ts ++ us.map (shift (s.size + 1))) := by
  rw [app_data, lex_app, h, h2, ← Lib.size_eq]; rfl

theorem lex_at (t : ByteArray) (us : List Tok) (h : lex t.data.toList = .ok us) : ∀ u ∈ us, u.at_ ≤ t.size := by
  have key : ∀ (ts : List Tok) (f : Nat), Cov t.data.toList f ts → ∀ u ∈ ts, u.at_ ≤ t.data.toList.length := by
    intro ts
    induction ts with
    | nil => intro f _ u hu; cases hu
    | cons x r ih =>
      intro f hc u hu
      obtain ⟨_, _, h3, _, _, _, h7⟩ := hc
      rcases List.mem_cons.1 hu with rfl | hu
      · omega
      · exact ih _ h7 u hu
  rw [Lib.size_eq]
  exact key us 0 (lex_cov _ _ h)

/-- what Scan leaves, where only its errors matter -/
theorem scan_some (s : ByteArray) (w : World) (hs : s.size ≤ maxLen) : Calls Try.prog 10 #[.string s] w fun e w' => ∃ v a b, e = .returned (.tuple #[v, .int .i64 a, .int .i64 b]) ∧ Below w.heap.size w w' :=
  (scan_any s w hs).mono fun _ _ ⟨hb, v, _, _, _, _, h2, _⟩ => ⟨v, _, _, h2, hb⟩

theorem walk_long (s t : ByteArray) (w : World) (hl : 1900 < s.size ∨ 1900 < t.size) : Calls Try.prog 6 #[.string s, .string t] w fun e w' => e = .returned (.bool true) ∧ Below w.heap.size w w' := by
  by_cases h1 : 1900 < s.size
  · have d1 : decide ((1900 : Int) < s.size) = true := decide_eq_true (by omega)
    go_enter Try.func6, Try.ntmps6
    go_wp2_with (go_at_call 9; refine (awake_any _).mono ?_; rintro e w1 ⟨rfl, b1⟩; have B1 := hidE b1; clear b1)
    go_ret
    exact ⟨rfl, B1.out⟩
  · have d1 : decide ((1900 : Int) < s.size) = false := decide_eq_false (by omega)
    have d2 : decide ((1900 : Int) < t.size) = true := decide_eq_true (by omega)
    go_enter Try.func6, Try.ntmps6
    go_wp2_with (go_at_call 9; refine (awake_any _).mono ?_; rintro e w1 ⟨rfl, b1⟩; have B1 := hidE b1; clear b1)
    go_ret
    exact ⟨rfl, B1.out⟩

set_option maxRecDepth 100000 in
theorem walk_err (s t : ByteArray) (w : World) (hs : s.size ≤ 1900) (ht : t.size ≤ 1900) (a : Nat) (h : lex s.data.toList = .error a) : Calls Try.prog 6 #[.string s, .string t] w fun e w' => e = .returned (.bool true) ∧ Below w.heap.size w w' := by
  have d1 : decide ((1900 : Int) < s.size) = false := decide_eq_false (by omega)
  have d2 : decide ((1900 : Int) < t.size) = false := decide_eq_false (by omega)
  obtain ⟨C, hC⟩ : ∃ C, (s ++ (⟨#[10]⟩ : ByteArray)) ++ t = C := ⟨_, rfl⟩
  have hCz : C.size ≤ 4000 := by rw [← hC, app_size]; omega
  have SS := fun w => scan_known s w [] a 10 0 a 10 rfl (scan_bad s a (by omega) h) rfl rfl (by unfold maxLen; omega)
  have ST := fun w => scan_some t w (by unfold maxLen; omega)
  have SC := fun w => scan_known C w [] a 10 0 a 10 rfl (scan_bad C a hCz (by rw [← hC]; exact lex_app_err s t a h)) rfl rfl (by unfold maxLen; omega)
  clear h
  go_enter Try.func6, Try.ntmps6
  go_wp2_with (first
    | (go_at_call 9; refine (awake_any _).mono ?_; rintro e w1 ⟨rfl, b1⟩; have B1 := hidE b1; clear b1)
    | (go_at_call 10; (with_reducible refine (SS _).mono ?_); rintro e w2 ⟨p2, c2, rfl, r2, b2⟩; have B2 := hidE b2; clear r2 b2 SS)
    | (go_at_call 10; (with_reducible refine (ST _).mono ?_); rintro e w3 ⟨v3, a3, e3, rfl, b3⟩; have B3 := hidE b3; clear b3 ST)
    | (go_at_call 10; (with_reducible refine (SC _).mono ?_); rintro e w4 ⟨p4, c4, rfl, r4, b4⟩; have B4 := hidE b4; clear r4 b4 SC))
  go_ret
  exact ⟨rfl, bnext (bnext (bnext B1.out B2.out (Nat.le_refl _)) B3.out (Nat.le_refl _)) B4.out (Nat.le_refl _)⟩

set_option maxRecDepth 100000 in
theorem walk_bad (s t : ByteArray) (w : World) (hs : s.size ≤ 1900) (ht : t.size ≤ 1900) (ts : List Tok) (a : Nat) (h : lex s.data.toList = .ok ts) (h2 : lex t.data.toList = .error a) : Calls Try.prog 6 #[.string s, .string t] w fun e w' => e = .returned (.bool true) ∧ Below w.heap.size w w' := by
  have d1 : decide ((1900 : Int) < s.size) = false := decide_eq_false (by omega)
  have d2 : decide ((1900 : Int) < t.size) = false := decide_eq_false (by omega)
  obtain ⟨C, hC⟩ : ∃ C, (s ++ (⟨#[10]⟩ : ByteArray)) ++ t = C := ⟨_, rfl⟩
  obtain ⟨A, hA⟩ : ∃ A, a + (s.size + 1) = A := ⟨_, rfl⟩
  have hCz : C.size ≤ 4000 := by rw [← hC, app_size]; omega
  have SS := fun w => scan_known s w ts 0 0 ts.length 0 0 rfl (scan_ok s ts (by omega) h) rfl rfl (by unfold maxLen; omega)
  have ST := fun w => scan_known t w [] a 10 0 a 10 rfl (scan_bad t a (by omega) h2) rfl rfl (by unfold maxLen; omega)
  have SC := fun w => scan_known C w [] A 10 0 A 10 rfl (scan_bad C A hCz (by rw [← hC, ← hA]; exact lex_app_bad s t ts a h h2)) rfl rfl (by unfold maxLen; omega)
  have d3 : decide ((s.size : Int) < A) = true := decide_eq_true (by omega)
  have d4 : decide (s.size < A) = true := decide_eq_true (by omega)
  clear h h2 hA
  go_enter Try.func6, Try.ntmps6
  go_wp2_with (first
    | (go_at_call 9; refine (awake_any _).mono ?_; rintro e w1 ⟨rfl, b1⟩; have B1 := hidE b1; clear b1)
    | (go_at_call 10; (with_reducible refine (SS _).mono ?_); rintro e w2 ⟨p2, c2, rfl, r2, b2⟩; have B2 := hidE b2; clear r2 b2 SS)
    | (go_at_call 10; (with_reducible refine (ST _).mono ?_); rintro e w3 ⟨p3, c3, rfl, r3, b3⟩; have B3 := hidE b3; clear r3 b3 ST)
    | (go_at_call 10; (with_reducible refine (SC _).mono ?_); rintro e w4 ⟨p4, c4, rfl, r4, b4⟩; have B4 := hidE b4; clear r4 b4 SC))
  go_ret
  exact ⟨rfl, bnext (bnext (bnext B1.out B2.out (Nat.le_refl _)) B3.out (Nat.le_refl _)) B4.out (Nat.le_refl _)⟩

set_option maxHeartbeats 3000000 in
set_option maxRecDepth 100000 in
theorem walk_ok (s t : ByteArray) (w : World) (hs : s.size ≤ 1900) (ht : t.size ≤ 1900) (ts us vs : List Tok) (h : lex s.data.toList = .ok ts) (h2 : lex t.data.toList = .ok us)
    (hn : ts.length ≤ 4000) (hm : us.length ≤ 4000) (hvs : vs = ts ++ us.map (shift (s.size + 1))) : Calls Try.prog 6 #[.string s, .string t] w fun e w' => e = .returned (.bool true) ∧ Below w.heap.size w w' := by
  have d1 : decide ((1900 : Int) < s.size) = false := decide_eq_false (by omega)
  have d2 : decide ((1900 : Int) < t.size) = false := decide_eq_false (by omega)
  obtain ⟨C, hC⟩ : ∃ C, (s ++ (⟨#[10]⟩ : ByteArray)) ++ t = C := ⟨_, rfl⟩
  have hCz : C.size ≤ 4000 := by rw [← hC, app_size]; omega
  have hlen : vs.length = ts.length + us.length := by rw [hvs]; simp
  have SS := fun w => scan_known s w ts 0 0 ts.length 0 0 rfl (scan_ok s ts (by omega) h) rfl rfl (by unfold maxLen; omega)
  have ST := fun w => scan_known t w us 0 0 us.length 0 0 rfl (scan_ok t us (by omega) h2) rfl rfl (by unfold maxLen; omega)
  have SC := fun w => scan_known C w vs 0 0 vs.length 0 0 rfl (scan_ok C vs hCz (by rw [← hC, hvs]; exact lex_app_ok s t ts us h h2)) rfl rfl (by unfold maxLen; omega)
  have d3 : ((vs.length : Int) != (ts.length : Int) + (us.length : Int)) = false := by simp; omega
  have HV := hidE hvs
  have hl1 : vs.length ≤ ts.length + us.length := by omega
  have hl2 : ts.length + us.length ≤ vs.length := by omega
  have hneq := run_neq_same
  have HU := hidE (lex_at t us h2)
  clear h h2 hvs hlen
  go_enter Try.func6, Try.ntmps6
  go_wp2_with (first
    | (go_at_call 9; refine (awake_any _).mono ?_; rintro e w1 ⟨rfl, b1⟩; have B1 := hidE b1; clear b1)
    | (go_at_call 10; (with_reducible refine (SS _).mono ?_); rintro e w2 ⟨p2, c2, rfl, r2, b2⟩; have R2 := hidE r2; have B2 := hidE b2; clear r2 b2 SS)
    | (go_at_call 10; (with_reducible refine (ST _).mono ?_); rintro e w3 ⟨p3, c3, rfl, r3, b3⟩; have R3 := hidE r3; have B3 := hidE b3; clear r3 b3 ST)
    | (go_at_call 10; (with_reducible refine (SC _).mono ?_); rintro e w4 ⟨p4, c4, rfl, r4, b4⟩; have R4 := hidE r4; have B4 := hidE b4; clear r4 b4 SC))
  go_loopg [15] vs.length (fun g iv wr => ∃ i : Nat, g = vs.length - i ∧ i ≤ vs.length ∧ iv = .int .i64 i ∧ Below w4.heap.size w4 wr)
  case atStart => exact ⟨0, rfl, Nat.zero_le _, rfl, Below.refl _ _⟩
  case round =>
    obtain ⟨i, rfl, hi, rfl, bl⟩ := hrel
    have BL := hidE bl
    clear bl
    by_cases hlt : i < vs.length
    · obtain ⟨g4, c4', hgv, y0, y1, y2⟩ := (R4.out.below BL.out).at_ i hlt
      injection hgv with hA _ hB
      subst hA hB
      by_cases hin : i < ts.length
      · obtain ⟨g2, c2', hgv, x0, x1, x2⟩ := (((R2.out.below B3.out).below B4.out).below (BL.out.mono (Nat.le_refl _))).at_ i hin
        injection hgv with hA _ hB
        subst hA hB
        have hv : vs[i] = ts[i] := by simp only [HV.out]; rw [List.getElem_append_left hin]
        rw [hv] at y0 y1 y2
        clear hv
        go_wp2_with fail
        go_quiet (fail)
        go_wp2_with fail
        go_roundg (vs.length - (i + 1))
        case measure => omega
        case rel => exact ⟨i + 1, rfl, by omega, by go_num, below_drewN' BL.out _⟩
      · obtain ⟨j, rfl⟩ : ∃ j, i = ts.length + j := ⟨i - ts.length, by omega⟩
        have hj : j < us.length := by omega
        obtain ⟨g3, c3', hgv, x0, x1, x2⟩ := ((R3.out.below B4.out).below BL.out).at_ j hj
        injection hgv with hA _ hB
        subst hA hB
        have hv : vs[ts.length + j] = shift (s.size + 1) us[j] := by
          simp only [HV.out]
          rw [List.getElem_append_right (by omega)]
          simp
        rw [hv] at y0 y1 y2
        obtain ⟨κ, hκ⟩ : ∃ κ, us[j].kind = κ := ⟨_, rfl⟩
        obtain ⟨X, hX⟩ : ∃ X : ByteArray, ⟨us[j].text.toArray⟩ = X := ⟨_, rfl⟩
        obtain ⟨a0, ha0⟩ : ∃ a0, us[j].at_ = a0 := ⟨_, rfl⟩
        have y0 : wr.cell? ⟨g4, (ts.length + j) * 3, none⟩ = some (.int .i64 (κ : Nat)) := by rw [← hκ]; exact y0
        have y1 : wr.cell? ⟨g4, (ts.length + j) * 3 + 1, none⟩ = some (.string X) := by rw [← hX]; exact y1
        have y2 : wr.cell? ⟨g4, (ts.length + j) * 3 + 2, none⟩ = some (.int .i64 ((a0 : Int) + s.size + 1)) := by
          rw [y2]
          congr 2
          simp only [shift, ha0]
          omega
        rw [hκ] at x0
        rw [hX] at x1
        rw [ha0] at x2
        have ha4 : a0 ≤ t.size := by rw [← ha0]; exact HU.out _ (List.getElem_mem hj)
        clear hv hκ hX ha0
        have d5 : decide (ts.length + j < ts.length) = false := decide_eq_false (by omega)
        have d4 : decide ((ts.length : Int) + (j : Int) < (ts.length : Int)) = false := decide_eq_false (by omega)
        go_wp2_with fail
        go_quiet (fail)
        have y0' : (wr.drewN nq).cell? ⟨g4, (ts.length + j) * 3, none⟩ = some (.int .i64 (κ : Nat)) := y0
        have y1' : (wr.drewN nq).cell? ⟨g4, (ts.length + j) * 3 + 1, none⟩ = some (.string X) := y1
        have y2' : (wr.drewN nq).cell? ⟨g4, (ts.length + j) * 3 + 2, none⟩ = some (.int .i64 ((a0 : Int) + s.size + 1)) := y2
        have x0' : (wr.drewN nq).cell? ⟨g3, j * 3, none⟩ = some (.int .i64 (κ : Nat)) := x0
        have x1' : (wr.drewN nq).cell? ⟨g3, j * 3 + 1, none⟩ = some (.string X) := x1
        have x2' : (wr.drewN nq).cell? ⟨g3, j * 3 + 2, none⟩ = some (.int .i64 (a0 : Nat)) := x2
        have BW : Hid (Below w4.heap.size w4 (wr.drewN nq)) := below_drewN' BL.out nq
        clear y0 y1 y2 x0 x1 x2
        generalize wr.drewN nq = W at *
        have l4 := block_lt_of_cell y0'
        simp only at l4
        go_wp2_with fail
        go_quiet (fail)
        go_wp2_with fail
        go_roundg (vs.length - (ts.length + j + 1))
        case measure => omega
        case rel => exact ⟨ts.length + j + 1, rfl, by omega, by go_num, below_drewN' (BW.out.alloc BW.out.size _) _⟩
    · go_wp2_with fail
      go_ret
      exact ⟨rfl, (bnext (bnext (bnext B1.out B2.out (Nat.le_refl _)) B3.out (Nat.le_refl _)) B4.out (Nat.le_refl _)).trans (BL.out.mono (by have := B1.out.size; have := B2.out.size; have := B3.out.size; have := B4.out.size; omega))⟩

theorem walk (s t : ByteArray) (hs : s.size ≤ maxLen) (ht : t.size ≤ maxLen) (w : World) : Calls Try.prog 6 #[.string s, .string t] w fun e w' => e = .returned (.bool true) ∧ Below w.heap.size w w' := by
  have _ := hs
  have _ := ht
  by_cases hl : 1900 < s.size ∨ 1900 < t.size
  · exact walk_long s t w hl
  · cases h : lex s.data.toList with
    | error a => exact walk_err s t w (by omega) (by omega) a h
    | ok ts =>
      cases h2 : lex t.data.toList with
      | error a => exact walk_bad s t w (by omega) (by omega) ts a h h2
      | ok us => exact walk_ok s t w (by omega) (by omega) ts us _ h h2 (scanS_len _ _ _ _ (scan_ok s ts (by omega) h)) (scanS_len _ _ _ _ (scan_ok t us (by omega) h2)) rfl

/-! ### the row's step -/
set_option maxRecDepth 100000 in
theorem lifted (os : Os) (started : os.Started) (H : Type) (enc : TypeId × Value → H) :
    ReturnsInHanded {} Try.checked os 6 .any (Rows.lexBehindSpec.pre6 enc Try.prog Try.f6 Rows.lexBehindRow.domain false) (Rows.lexBehindSpec.post enc Try.prog Try.f6 false true false false) := by
  refine returnsInHanded_of_change (C := Try.checked) own started (by kernel_rfl) Try.func6
    (ChangeSpec.witness6 (enc := enc) (C := Try.checked) false ⟨#[], #[.string ByteArray.empty, .string ByteArray.empty], []⟩ 8 (by kernel_rfl) (by kernel_rfl) (by kernel_rfl) (by kernel_rfl)) ?_
  intro W base args ds gs before hval0 hW hcnd _
  have hval : ∀ (j : Nat) t v, Try.f6.params[j]? = some t → args[j]? = some v → Value.okWide Try.prog W .any base t v := hval0
  have hW' := hW
  obtain ⟨p, q, hA0, hV, rfl, hfz, hnd⟩ := hW
  have hA : DataW.TrodAll enc Try.prog W 0 (fun _ => true) true Try.f6.params.toList args.toList ds p := hA0
  rw [Try.params6] at hA hval
  obtain ⟨v0, vs0, d0, ds0, p0, q0, hargs, rfl, rfl, h0, r0⟩ := trodAll_cons hA
  obtain ⟨v1, vs1, d1, ds1, p1, q1, rfl, rfl, rfl, h1, r1⟩ := trodAll_cons r0
  obtain ⟨rfl, rfl, rfl⟩ := trodAll_nil r1
  obtain rfl : args = #[v0, v1] := by cases args; simp_all
  obtain ⟨rfl, rfl⟩ := trodVars_none hV
  obtain ⟨a0, rfl, rfl, rfl, w0⟩ := open_string Try.underlying9 (hval 0 9 v0 rfl rfl) h0
  obtain ⟨a1, rfl, rfl, rfl, w1⟩ := open_string Try.underlying9 (hval 1 9 v1 rfl rfl) h1
  clear hA0 hval0
  simp only [List.append_nil] at hW'
  refine (walk a0 a1 w0 w1 W).mono fun e W' ⟨he, hg⟩ => ?_
  subst he
  exact ⟨_, rfl, _, _, _, [], [], [], hW', trodAll_cons_mk (shut_bool Try.underlying4 _) trodAll_mk0, (trodAll_cons_mk (shut_string Try.underlying9 w0) (trodAll_cons_mk (shut_string Try.underlying9 w1) trodAll_mk0)), rfl, hg.frame _, fun h => by cases h⟩

theorem over : Rows.lexBehindRow.holds Try.pinned (OpenSpec.ofChange Rows.lexBehindSpec) :=
  OpenClaim.holds_of_wide 6 Try.f6 rfl rfl rfl rfl rfl rfl rfl ⟨rfl, rfl, rfl, rfl, rfl⟩ rfl rfl rfl rfl rfl (by kernel_rfl) Try.func6 (by kernel_rfl)
    (of_decide_eq_true (by kernel_rfl)) (by unfold Func.isWrapper; first | (rw [if_pos (by decide +kernel)]; kernel_rfl) | (rw [if_neg (by decide +kernel)]; exact ⟨rfl, rfl⟩))
    (fun os started H enc _ => lifted os started H enc)

/-- the statement -/
theorem proved : Rows.LexBehindSaid :=
  over
#print axioms proved
end Go.Proofs.Ytphffibigmpnkaa.lexBehind
