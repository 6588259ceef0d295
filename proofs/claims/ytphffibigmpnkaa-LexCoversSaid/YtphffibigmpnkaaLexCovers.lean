/-
  savantlaw01.LexCovers, whatever the text: it answers true, and the text is as it was.
-/
import Derived.Test.YtphffibigmpnkaaLexCov
import Derived.Test.YtphffibigmpnkaaLexLaw
import Derived.Test.YtphffibigmpnkaaRows
import Derived.ProofKit
import Derived.OpenShut
import Derived.ShutString
import Derived.Carry
namespace Go.Proofs.Ytphffibigmpnkaa.lexCovers
open Go.ChangeShapes Go.WideShapes Go.ChangeAt Go.RowKit Lx
open Go.ChangeMaps (open_string shut_string)

theorem own : ownKnob Try.prog.godebug = none := by kernel_rfl

/-- is place k within a remark, from place f on? -/
def rmAt (s : ByteArray) (f k : Nat) : Bool := rm false ((s.data.toList.drop f).take (k - f))
theorem rmAt_start (s : ByteArray) (f : Nat) : rmAt s f f = false := by unfold rmAt; rw [Nat.sub_self, List.take_zero]; rfl
theorem rmAt_next (s : ByteArray) (f k : Nat) (hf : f ≤ k) (hk : k < s.size) : rmAt s f (k + 1) = stp (rmAt s f k) s[k] := by
  have hz := Lib.size_eq s
  unfold rmAt
  rw [show k + 1 - f = (k - f) + 1 by omega, List.take_succ_eq_append_getElem (by rw [List.length_drop]; omega), rm_snoc]
  congr 1
  rw [List.getElem_drop]
  simp only [show f + (k - f) = k by omega]
  rfl
theorem gap_at (s : ByteArray) (f to k : Nat) (hg : okg false ((s.data.toList.drop f).take (to - f))) (hf : f ≤ k) (hk : k < to) (hks : k < s.size) : stp (rmAt s f k) s[k] = true ∨ s[k] = 32 ∨ s[k] = 9 ∨ s[k] = 10 := by
  have hz := Lib.size_eq s
  have h := okg_at false _ hg (k - f) (by rw [List.length_take, List.length_drop]; omega)
  rw [List.take_take, Nat.min_eq_left (by omega)] at h
  rw [List.getElem_take, List.getElem_drop] at h
  simp only [show f + (k - f) = k by omega] at h
  exact h

theorem cov_end (s : ByteArray) (f : Nat) (h : Cov s.data.toList f []) : f ≤ s.size ∧ okg false ((s.data.toList.drop f).take (s.size - f)) := by
  obtain ⟨h1, h2⟩ := h
  rw [← Lib.size_eq] at h1
  refine ⟨h1, ?_⟩
  rw [List.take_of_length_le (by rw [List.length_drop, ← Lib.size_eq]; omega)]
  exact h2
theorem cov_tok (s : ByteArray) (f : Nat) (t : Tok) (r : List Tok) (X : ByteArray) (hX : ⟨t.text.toArray⟩ = X) (h : Cov s.data.toList f (t :: r)) :
    f ≤ t.at_ ∧ 0 < X.size ∧ t.at_ + X.size ≤ s.size ∧ s.extract t.at_ (t.at_ + X.size) = X ∧ okg false ((s.data.toList.drop f).take (t.at_ - f)) ∧ rmAt s f t.at_ = false ∧ Cov s.data.toList (t.at_ + X.size) r := by
  obtain ⟨h1, h2, h3, h4, h5, h6, h7⟩ := h
  have hx : X.size = t.text.length := by rw [← hX]; rfl
  rw [← hx] at h3 h4 h7
  rw [← Lib.size_eq] at h3
  have h0 : 0 < X.size := by rw [hx]; exact List.length_pos_iff.2 h2
  refine ⟨h1, h0, h3, ?_, h5, h6, h7⟩
  rw [Lib.extract_eq, Nat.add_sub_cancel_left, h4, hX]

set_option maxRecDepth 100000 in
theorem walk_long (s : ByteArray) (hs : s.size ≤ maxLen) (w : World) (hl : 4000 < s.size) : Calls Try.prog 4 #[.string s] w fun e w' => e = .returned (.bool true) ∧ Below w.heap.size w w' := by
  have SC := fun w => scan_known s w [] 0 2 0 0 2 rfl (by unfold scanS; rw [if_pos (by rw [← Lib.size_eq]; exact hl)]) rfl rfl hs
  have d : decide ((4000 : Int) < s.size) = true := decide_eq_true (by omega)
  unfold maxLen at hs
  go_enter Try.func4, Try.ntmps4
  go_wp2_with (first
    | (go_at_call 9; refine (awake_any _).mono ?_; rintro e w1 ⟨rfl, b1⟩; have B1 := hidE b1; clear b1)
    | (go_at_call 10; refine (SC _).mono ?_; rintro e w2 ⟨p, c, rfl, r2, b2⟩; have B2 := hidE b2; clear r2 b2))
  go_ret
  exact ⟨rfl, bnext B1.out B2.out (Nat.le_refl _)⟩

set_option maxRecDepth 100000 in
theorem walk_bad (s : ByteArray) (w : World) (hl : s.size ≤ 4000) (a : Nat) (h : lex s.data.toList = .error a) : Calls Try.prog 4 #[.string s] w fun e w' => e = .returned (.bool true) ∧ Below w.heap.size w w' := by
  have ha : a < s.size := by have := lex_err _ _ h; rw [← Lib.size_eq] at this; exact this
  have SC := fun w => scan_known s w [] a 10 0 a 10 rfl (scan_bad s a hl h) rfl rfl (by unfold maxLen; omega)
  clear h
  have d1 : decide ((0 : Int) ≤ a) = true := decide_eq_true (by omega)
  have d2 : decide ((a : Int) < s.size) = true := decide_eq_true (by omega)
  go_enter Try.func4, Try.ntmps4
  go_wp2_with (first
    | (go_at_call 9; refine (awake_any _).mono ?_; rintro e w1 ⟨rfl, b1⟩; have B1 := hidE b1; clear b1)
    | (go_at_call 10; refine (SC _).mono ?_; rintro e w2 ⟨p, c, rfl, r2, b2⟩; have B2 := hidE b2; clear r2 b2))
  go_ret
  exact ⟨rfl, bnext B1.out B2.out (Nat.le_refl _)⟩

set_option maxHeartbeats 3000000 in
set_option maxRecDepth 100000 in
theorem walk_ok (s : ByteArray) (w : World) (hl : s.size ≤ 4000) (ts : List Tok) (h : lex s.data.toList = .ok ts) (hn : ts.length ≤ 4000) : Calls Try.prog 4 #[.string s] w fun e w' => e = .returned (.bool true) ∧ Below w.heap.size w w' := by
  have SC := fun w => scan_known s w ts 0 0 ts.length 0 0 rfl (scan_ok s ts hl h) rfl rfl (by unfold maxLen; omega)
  have HC := hidE (lex_cov _ _ h)
  clear h
  go_enter Try.func4, Try.ntmps4
  go_wp2_with (first
    | (go_at_call 9; refine (awake_any _).mono ?_; rintro e w1 ⟨rfl, b1⟩; have B1 := hidE b1; clear b1)
    | (go_at_call 10; refine (SC _).mono ?_; rintro e w2 ⟨p, c, rfl, r2, b2⟩; have R2 := hidE r2; have B2 := hidE b2; clear r2 b2))
  go_loopg [7, 8] (ts.length + 1) (fun g fv iv wr => ∃ i f m : Nat, g = ts.length + 1 - i ∧ i ≤ ts.length + 1 ∧ iv = .int .i64 i ∧ fv = .int .i64 f ∧ wr = w2.drewN m ∧ f ≤ s.size ∧ (i ≤ ts.length → Cov s.data.toList f (ts.drop i)))
  case atStart => exact ⟨0, 0, 0, rfl, by omega, rfl, rfl, rfl, by omega, fun _ => HC.out⟩
  case round =>
    obtain ⟨i, f, m, rfl, hi, rfl, rfl, rfl, hf, hcov⟩ := hrel
    have HCV := hidE hcov
    clear hcov SC HC
    by_cases hlt : i < ts.length
    · have hdr : ts.drop i = ts[i] :: ts.drop (i + 1) := List.drop_eq_getElem_cons hlt
      obtain ⟨X, hX⟩ : ∃ X : ByteArray, ⟨ts[i].text.toArray⟩ = X := ⟨_, rfl⟩
      obtain ⟨g, c', hgv, x0, x1, x2⟩ := R2.out.at_ i hlt
      injection hgv with hA _ hC
      subst hA hC
      rw [hX] at x1
      obtain ⟨to, hto⟩ : ∃ to, ts[i].at_ = to := ⟨_, rfl⟩
      obtain ⟨h1, h2, h3, h4, h5, h6, h7⟩ := cov_tok s f ts[i] (ts.drop (i + 1)) X hX (by rw [← hdr]; exact HCV.out (by omega))
      rw [hto] at h1 h3 h4 h5 h6 h7 x2
      have G5 := hidE h5
      have G6 := hidE h6
      have G7 := hidE h7
      clear hX hdr hto h5 h6 h7 x0
      have q1 : decide ((to : Int) < (f : Int)) = false := decide_eq_false (by omega)
      have q2 := empty_no X h2
      have q3 : decide ((s.size : Int) < (to : Int) + (X.size : Int)) = false := decide_eq_false (by omega)
      have sl1 : (to : Int) ≤ (to : Int) + X.size := by omega
      have sl2 : (to : Int) + X.size ≤ s.size := by omega
      have sl3 : (0 : Int) ≤ (to : Int) + X.size := by omega
      have tn : ((to : Int) + (X.size : Int)).toNat = to + X.size := by omega
      have sum1 : IntKind.i64.wrap ((to : Int) + (X.size : Int)) = (to : Int) + X.size := IntWalk.i64_in _ (by omega)
      go_wp2_with fail
      go_quiet (fail)
      clear sum1 q1 q2 q3 h4 sl1 sl2 sl3 tn
      go_wp2_with fail
      go_loopg [10, 11] (to - f) (fun g rv kv wi => ∃ (k : Nat) (b : Bool) (m2 : Nat), g = to - k ∧ kv = .int .i64 k ∧ rv = .bool b ∧ rmAt s f k = b ∧ wi = w2.drewN m2 ∧ f ≤ k ∧ k ≤ to)
      case atStart => exact ⟨f, false, _, rfl, rfl, rfl, rmAt_start s f, World.drewN_drewN _ _ _, Nat.le_refl _, h1⟩
      case round =>
        obtain ⟨k, b, m2, rfl, rfl, rfl, hrm, rfl, hfk, hkt⟩ := hrel
        have RM := hidE hrm
        clear hrm
        by_cases hkl : k < to
        · have hks : k < s.size := by omega
          have hgp := gap_at s f to k G5.out hfk hkl hks
          have hnx := rmAt_next s f k hfk hks
          rw [RM.out] at hgp hnx
          by_cases c35 : s[k] = 35
          · have e1 : ((s[k].toNat : Int) == 35) = true := u8t _ 35 c35
            have e2 : ((s[k].toNat : Int) == 10) = false := u8f _ 10 (by rw [c35]; decide)
            have HX := hidE (show rmAt s f (k + 1) = true by rw [hnx, c35, stp, if_neg (by decide), if_pos rfl])
            clear hgp hnx c35
            go_wp2_with fail
            go_roundg (to - (k + 1))
            case measure => omega
            case rel => exact ⟨k + 1, true, _, rfl, by go_num, rfl, HX.out, rfl, by omega, by omega⟩
          · have e1 : ((s[k].toNat : Int) == 35) = false := u8f _ 35 c35
            by_cases c10 : s[k] = 10
            · have e2 : ((s[k].toNat : Int) == 10) = true := u8t _ 10 c10
              have e3 : ((s[k].toNat : Int) != 32) = true := by rw [c10]; rfl
              have e4 : ((s[k].toNat : Int) != 9) = true := by rw [c10]; rfl
              have e5 : ((s[k].toNat : Int) != 10) = false := by rw [c10]; rfl
              have HX := hidE (show rmAt s f (k + 1) = false by rw [hnx, c10, stp, if_pos rfl])
              clear hgp hnx c10 c35
              go_wp2_with fail
              go_roundg (to - (k + 1))
              case measure => omega
              case rel => exact ⟨k + 1, false, _, rfl, by go_num, rfl, HX.out, rfl, by omega, by omega⟩
            · have e2 : ((s[k].toNat : Int) == 10) = false := u8f _ 10 c10
              have hst : stp b s[k] = b := by rw [stp, if_neg c10, if_neg c35]
              rw [hst] at hgp hnx
              have HX := hidE hnx
              clear hnx hst
              cases b with
              | true =>
                clear hgp c10 c35
                go_wp2_with fail
                go_roundg (to - (k + 1))
                case measure => omega
                case rel => exact ⟨k + 1, true, _, rfl, by go_num, rfl, HX.out, rfl, by omega, by omega⟩
              | false =>
                by_cases c32 : s[k] = 32
                · have e3 : ((s[k].toNat : Int) != 32) = false := by rw [c32]; rfl
                  clear hgp c10 c35 c32
                  go_wp2_with fail
                  go_roundg (to - (k + 1))
                  case measure => omega
                  case rel => exact ⟨k + 1, false, _, rfl, by go_num, rfl, HX.out, rfl, by omega, by omega⟩
                · have c9 : s[k] = 9 := by
                    rcases hgp with h | h | h | h
                    · cases h
                    · exact absurd h c32
                    · exact h
                    · exact absurd h c10
                  have e3 : ((s[k].toNat : Int) != 32) = true := by rw [c9]; rfl
                  have e4 : ((s[k].toNat : Int) != 9) = false := by rw [c9]; rfl
                  clear hgp c10 c35 c32 c9
                  go_wp2_with fail
                  go_roundg (to - (k + 1))
                  case measure => omega
                  case rel => exact ⟨k + 1, false, _, rfl, by go_num, rfl, HX.out, rfl, by omega, by omega⟩
        · have hke : k = to := by omega
          have hb : b = false := by rw [← RM.out, hke]; exact G6.out
          subst hb
          subst hke
          go_wp2_with fail
          go_roundg (ts.length + 1 - (i + 1))
          case measure => omega
          case rel => exact ⟨i + 1, k + X.size, _, rfl, by omega, by go_num, by go_num, rfl, h3, fun _ => G7.out⟩
    · by_cases hie : i = ts.length
      · obtain ⟨hfe, h5⟩ := cov_end s f (by have h := HCV.out (by omega); rw [List.drop_eq_nil_of_le (by omega)] at h; exact h)
        have G5 := hidE h5
        have li : decide ((i : Int) < (ts.length : Int)) = false := decide_eq_false (by omega)
        have hi1 : i ≤ ts.length := by omega
        have hi2 : ts.length ≤ i := by omega
        clear h5 hie
        go_wp2_with fail
        go_loopg [10, 11] (s.size - f) (fun g rv kv wi => ∃ (k : Nat) (b : Bool) (m2 : Nat), g = s.size - k ∧ kv = .int .i64 k ∧ rv = .bool b ∧ rmAt s f k = b ∧ wi = w2.drewN m2 ∧ f ≤ k ∧ k ≤ s.size)
        case atStart => exact ⟨f, false, _, rfl, rfl, rfl, rmAt_start s f, rfl, Nat.le_refl _, hf⟩
        case round =>
          obtain ⟨k, b, m2, rfl, rfl, rfl, hrm, rfl, hfk, hkt⟩ := hrel
          have RM := hidE hrm
          clear hrm
          by_cases hkl : k < s.size
          · have hks : k < s.size := by omega
            have hgp := gap_at s f s.size k G5.out hfk hkl hks
            have hnx := rmAt_next s f k hfk hks
            rw [RM.out] at hgp hnx
            by_cases c35 : s[k] = 35
            · have e1 : ((s[k].toNat : Int) == 35) = true := u8t _ 35 c35
              have e2 : ((s[k].toNat : Int) == 10) = false := u8f _ 10 (by rw [c35]; decide)
              have HX := hidE (show rmAt s f (k + 1) = true by rw [hnx, c35, stp, if_neg (by decide), if_pos rfl])
              clear hgp hnx c35
              go_wp2_with fail
              go_roundg (s.size - (k + 1))
              case measure => omega
              case rel => exact ⟨k + 1, true, _, rfl, by go_num, rfl, HX.out, rfl, by omega, by omega⟩
            · have e1 : ((s[k].toNat : Int) == 35) = false := u8f _ 35 c35
              by_cases c10 : s[k] = 10
              · have e2 : ((s[k].toNat : Int) == 10) = true := u8t _ 10 c10
                have e3 : ((s[k].toNat : Int) != 32) = true := by rw [c10]; rfl
                have e4 : ((s[k].toNat : Int) != 9) = true := by rw [c10]; rfl
                have e5 : ((s[k].toNat : Int) != 10) = false := by rw [c10]; rfl
                have HX := hidE (show rmAt s f (k + 1) = false by rw [hnx, c10, stp, if_pos rfl])
                clear hgp hnx c10 c35
                go_wp2_with fail
                go_roundg (s.size - (k + 1))
                case measure => omega
                case rel => exact ⟨k + 1, false, _, rfl, by go_num, rfl, HX.out, rfl, by omega, by omega⟩
              · have e2 : ((s[k].toNat : Int) == 10) = false := u8f _ 10 c10
                have hst : stp b s[k] = b := by rw [stp, if_neg c10, if_neg c35]
                rw [hst] at hgp hnx
                have HX := hidE hnx
                clear hnx hst
                cases b with
                | true =>
                  clear hgp c10 c35
                  go_wp2_with fail
                  go_roundg (s.size - (k + 1))
                  case measure => omega
                  case rel => exact ⟨k + 1, true, _, rfl, by go_num, rfl, HX.out, rfl, by omega, by omega⟩
                | false =>
                  by_cases c32 : s[k] = 32
                  · have e3 : ((s[k].toNat : Int) != 32) = false := by rw [c32]; rfl
                    clear hgp c10 c35 c32
                    go_wp2_with fail
                    go_roundg (s.size - (k + 1))
                    case measure => omega
                    case rel => exact ⟨k + 1, false, _, rfl, by go_num, rfl, HX.out, rfl, by omega, by omega⟩
                  · have c9 : s[k] = 9 := by
                      rcases hgp with h | h | h | h
                      · cases h
                      · exact absurd h c32
                      · exact h
                      · exact absurd h c10
                    have e3 : ((s[k].toNat : Int) != 32) = true := by rw [c9]; rfl
                    have e4 : ((s[k].toNat : Int) != 9) = false := by rw [c9]; rfl
                    clear hgp c10 c35 c32 c9
                    go_wp2_with fail
                    go_roundg (s.size - (k + 1))
                    case measure => omega
                    case rel => exact ⟨k + 1, false, _, rfl, by go_num, rfl, HX.out, rfl, by omega, by omega⟩
          · have hke : k = s.size := by omega
            have HK := hidE hke
            clear hke
            cases b with
            | true =>
              go_wp2_with fail
              go_roundg (ts.length + 1 - (i + 1))
              case measure => omega
              case rel => exact ⟨i + 1, f, _, rfl, by omega, by go_num, rfl, rfl, hf, fun h => absurd h (by omega)⟩
            | false =>
              go_wp2_with fail
              go_roundg (ts.length + 1 - (i + 1))
              case measure => omega
              case rel => exact ⟨i + 1, f, _, rfl, by omega, by go_num, rfl, rfl, hf, fun h => absurd h (by omega)⟩
      · go_wp2_with fail
        go_ret
        exact ⟨rfl, below_drewN' (bnext B1.out B2.out (Nat.le_refl _)) _⟩

theorem walk (s : ByteArray) (hs : s.size ≤ maxLen) (w : World) : Calls Try.prog 4 #[.string s] w fun e w' => e = .returned (.bool true) ∧ Below w.heap.size w w' := by
  by_cases hl : 4000 < s.size
  · exact walk_long s hs w hl
  · cases h : lex s.data.toList with
    | error a => exact walk_bad s w (by omega) a h
    | ok ts => exact walk_ok s w (by omega) ts h (scanS_len _ _ _ _ (scan_ok s ts (by omega) h))

/-! ### the row's step -/
set_option maxRecDepth 100000 in
theorem lifted (os : Os) (started : os.Started) (H : Type) (enc : TypeId × Value → H) :
    ReturnsInHanded {} Try.checked os 4 .any (Rows.lexCoversSpec.pre6 enc Try.prog Try.f4 Rows.lexCoversRow.domain false) (Rows.lexCoversSpec.post enc Try.prog Try.f4 false true false false) := by
  refine returnsInHanded_of_change (C := Try.checked) own started (by kernel_rfl) Try.func4
    (ChangeSpec.witness6 (enc := enc) (C := Try.checked) false ⟨#[], #[.string ByteArray.empty], []⟩ 8 (by kernel_rfl) (by kernel_rfl) (by kernel_rfl) (by kernel_rfl)) ?_
  intro W base args ds gs before hval0 hW hcnd _
  have hval : ∀ (j : Nat) t v, Try.f4.params[j]? = some t → args[j]? = some v → Value.okWide Try.prog W .any base t v := hval0
  have hW' := hW
  obtain ⟨p, q, hA0, hV, rfl, hfz, hnd⟩ := hW
  have hA : DataW.TrodAll enc Try.prog W 0 (fun _ => true) true Try.f4.params.toList args.toList ds p := hA0
  rw [Try.params4] at hA hval
  obtain ⟨v0, vs0, d0, ds0, p0, q0, hargs, rfl, rfl, h0, r0⟩ := trodAll_cons hA
  obtain ⟨rfl, rfl, rfl⟩ := trodAll_nil r0
  obtain rfl : args = #[v0] := by cases args; simp_all
  obtain ⟨rfl, rfl⟩ := trodVars_none hV
  obtain ⟨a0, rfl, rfl, rfl, w0⟩ := open_string Try.underlying9 (hval 0 9 v0 rfl rfl) h0
  clear hA0 hval0
  simp only [List.append_nil] at hW'
  refine (walk a0 w0 W).mono fun e W' ⟨he, hg⟩ => ?_
  subst he
  exact ⟨_, rfl, _, _, _, [], [], [], hW', trodAll_cons_mk (shut_bool Try.underlying4 _) trodAll_mk0, (trodAll_cons_mk (shut_string Try.underlying9 w0) trodAll_mk0), rfl, hg.frame _, fun h => by cases h⟩

theorem over : Rows.lexCoversRow.holds Try.pinned (OpenSpec.ofChange Rows.lexCoversSpec) :=
  OpenClaim.holds_of_wide 4 Try.f4 rfl rfl rfl rfl rfl rfl rfl ⟨rfl, rfl, rfl, rfl, rfl⟩ rfl rfl rfl rfl rfl (by kernel_rfl) Try.func4 (by kernel_rfl)
    (of_decide_eq_true (by kernel_rfl)) (by unfold Func.isWrapper; first | (rw [if_pos (by decide +kernel)]; kernel_rfl) | (rw [if_neg (by decide +kernel)]; exact ⟨rfl, rfl⟩))
    (fun os started H enc _ => lifted os started H enc)

/-- the statement -/
theorem proved : Rows.LexCoversSaid :=
  over
#print axioms proved
end Go.Proofs.Ytphffibigmpnkaa.lexCovers
