/-
  savantlaw01.LexNumbers, whatever the number: it answers true, and the number is as it was.
-/
import Derived.Test.YtphffibigmpnkaaLexLaw
import Derived.Test.YtphffibigmpnkaaRows
import Derived.ProofKit
import Derived.OpenShut
import Derived.ShutString
import Derived.Carry
import Derived.Laws.IdiomStrings
namespace Go.Proofs.Ytphffibigmpnkaa.lexNumbers
open Go.ChangeShapes Go.WideShapes Go.ChangeAt Go.RowKit Lx

theorem own : ownKnob Try.prog.godebug = none := by kernel_rfl

/-- the digit of a number below ten -/
def dig (n : Nat) : UInt8 := (48 + n % 10).toUInt8
theorem dig_nat (n : Nat) : (dig n).toNat = 48 + n % 10 := by
  unfold dig
  rw [Nat.toUInt8_eq, UInt8.toNat_ofNat']
  omega
theorem dig_dig (n : Nat) : isDig (dig n) = true := by
  have := dig_nat n
  simp [isDig]
  omega

/-- decimal digits of n, f of them at most -/
def dg : Nat → Nat → List UInt8
  | 0, _ => []
  | f + 1, n => if n < 10 then [dig n] else dg f (n / 10) ++ [dig n]

theorem dg_dig (f n : Nat) : ∀ d ∈ dg f n, isDig d = true := by
  induction f generalizing n with
  | zero => intro d h; simp [dg] at h
  | succ f ih =>
    intro d h
    rw [dg] at h
    split at h
    · simp at h; subst h; exact dig_dig n
    · rw [List.mem_append] at h
      rcases h with h | h
      · exact ih _ d h
      · simp at h; subst h; exact dig_dig n

theorem dg_head (f n : Nat) (hf : 1 ≤ f) (h : n < 10 ^ f) : ∃ c r, dg f n = c :: r ∧ (c = 48 → n = 0) := by
  induction f generalizing n with
  | zero => omega
  | succ f ih =>
    rw [dg]
    split
    · rename_i hn
      refine ⟨dig n, [], rfl, fun e => ?_⟩
      have := dig_nat n
      rw [e] at this
      simp at this
      omega
    · rename_i hn
      have h1 : 1 ≤ f := by
        rcases Nat.eq_zero_or_pos f with e | e
        · subst e; simp at h; omega
        · exact e
      obtain ⟨c, r, e, hc⟩ := ih (n / 10) h1 (by rw [Nat.pow_succ] at h; omega)
      refine ⟨c, r ++ [dig n], by rw [e]; rfl, fun e0 => ?_⟩
      have := hc e0
      omega

theorem dg_zero (f : Nat) : dg (f + 1) 0 = [48] := by
  rw [dg, if_pos (by omega)]; rfl

/-- the digits of a number: what the laws on numbers ask -/
theorem dg_good (m : Nat) (h : m < 10 ^ 20) : ∃ c r, dg 20 m = c :: r ∧ (∀ d ∈ c :: r, isDig d = true) ∧ (c = 48 → r = []) := by
  obtain ⟨c, r, e, hc⟩ := dg_head 20 m (by omega) h
  refine ⟨c, r, e, fun d hd => dg_dig 20 m d (by rw [e]; exact hd), fun e0 => ?_⟩
  rw [hc e0, dg_zero] at e
  simp at e
  exact e.2

theorem step_f (f k : Nat) (h : k < 10 ^ f) (h9 : 9 < k) : ∃ f', f = f' + 1 ∧ 1 ≤ f' ∧ k / 10 < 10 ^ f' ∧ dg f k = dg f' (k / 10) ++ [dig k] := by
  cases f with
  | zero => simp at h; omega
  | succ f =>
    refine ⟨f, rfl, ?_, by rw [Nat.pow_succ] at h; omega, by rw [dg, if_neg (by omega)]⟩
    rcases Nat.eq_zero_or_pos f with e | e
    · subst e; simp at h; omega
    · exact e
theorem last_f (f k : Nat) (h1 : 1 ≤ f) (h9 : ¬ 9 < k) : dg f k = [dig k] := by
  cases f with
  | zero => omega
  | succ f => rw [dg, if_pos (by omega)]

/-- a slice of one byte, as a string -/
theorem conv_one (W : World) (x : Int) (b : UInt8) (hx : x = b.toNat) :
    (convert 34 9 (.slice (some ⟨W.heap.size, 0, none⟩) 1 1)).run Try.prog (W.alloc (.cells #[.int .u8 x] 5)) = .ok (.string ⟨#[b]⟩) (W.alloc (.cells #[.int .u8 x] 5)) := by
  subst hx
  refine run_convert_bytes_back (W.alloc (.cells #[.int .u8 (b.toNat : Int)] 5)) 34 9 5 ⟨W.heap.size, 0, none⟩ 1 [b] Try.underlying34 Try.underlying5 Try.underlying9 ?_
  intro j hj
  simp at hj
  subst hj
  rw [show (⟨W.heap.size, 0, none⟩ : Addr).add 0 = ⟨W.heap.size, 0, none⟩ from rfl, cell_of_row _ _ _ _ 5 (0, 0) (heap_alloc_new _ _)]
  rfl

theorem one_append (b : UInt8) (s : ByteArray) : ((⟨#[b]⟩ : ByteArray) ++ s).data.toList = b :: s.data.toList := by rw [append_data]; rfl
theorem one_size (b : UInt8) (s : ByteArray) : ((⟨#[b]⟩ : ByteArray) ++ s).size = s.size + 1 := by
  rw [Lib.size_eq, one_append, List.length_cons, ← Lib.size_eq]

set_option maxHeartbeats 1000000 in
set_option maxRecDepth 100000 in
theorem walk (n : Int) (w0 : (Lit.int .i64 n).wf = true) (w : World) : Calls Try.prog 7 #[.int .i64 n] w fun e w' => e = .returned (.bool true) ∧ Below w.heap.size w w' := by
  by_cases hn : n < 0
  · go_enter Try.func7, Try.ntmps7
    go_wp2_with (go_at_call 9; refine (awake_any _).mono ?_; rintro e w1 ⟨rfl, b1⟩)
    go_ret
    exact ⟨rfl, b1⟩
  · obtain ⟨m, rfl⟩ : ∃ m : Nat, n = m := ⟨n.toNat, by omega⟩
    have hm : m < 9223372036854775808 := by
      have := bounds_i64 w0
      omega
    have HM := hidE hm
    clear w0 hm
    go_enter Try.func7, Try.ntmps7
    go_wp2_with (go_at_call 9; refine (awake_any _).mono ?_; rintro e w1 ⟨rfl, b1⟩; have B1 := hidE b1; clear b1)
    go_loopg [4, 5] 20 (fun f sv kv wr => ∃ (s : ByteArray) (k : Nat), sv = .string s ∧ kv = .int .i64 k ∧ Below w1.heap.size w1 wr ∧ 1 ≤ f ∧ k < 10 ^ f ∧ k ≤ m ∧ dg 20 m = dg f k ++ s.data.toList ∧ s.size + f = 20)
    case atStart => exact ⟨⟨#[]⟩, m, rfl, rfl, Below.refl _ _, by omega, by have := HM.out; omega, Nat.le_refl _, by simp, rfl⟩
    case round =>
      obtain ⟨s, k, rfl, rfl, bl, hf1, h10, hkm, hd, hz⟩ := hrel
      have BL := hidE bl
      have HD := hidE hd
      have H10 := hidE h10
      have hk63 : k < 9223372036854775808 := by have := HM.out; omega
      have HK63 := hidE hk63
      clear bl hd h10 hk63
      by_cases h9 : 9 < k
      · obtain ⟨f', hff, hf', hk10, hdg⟩ := step_f gk k H10.out h9
        have HDG := hidE hdg
        have HK10 := hidE hk10
        obtain ⟨s', hs'⟩ : ∃ s', (⟨#[dig k]⟩ : ByteArray) ++ s = s' := ⟨_, rfl⟩
        have hconv := fun W => conv_one W (48 + (k : Int) % 10) (dig k) (by rw [dig_nat]; omega)
        have HS := hidE (show s'.data.toList = dig k :: s.data.toList ∧ s'.size = s.size + 1 by rw [← hs']; exact ⟨one_append _ _, one_size _ _⟩)
        have hkb : k ≤ 9223372036854775807 := by have := HK63.out; omega
        clear hdg hk10
        go_wp2_with fail
        go_roundg f'
        case measure => omega
        case rel => exact ⟨s', k / 10, rfl, by go_num, BL.out.alloc BL.out.size _, hf', HK10.out, by omega, by rw [HS.out.1, HD.out, HDG.out]; simp, by rw [HS.out.2]; omega⟩
      · obtain ⟨S, hS⟩ : ∃ S, (⟨#[dig k]⟩ : ByteArray) ++ s = S := ⟨_, rfl⟩
        obtain ⟨Q, hQ⟩ : ∃ Q, (⟨#[63]⟩ : ByteArray) ++ S = Q := ⟨_, rfl⟩
        have hconv := fun W => conv_one W (48 + (k : Int)) (dig k) (by rw [dig_nat]; omega)
        obtain ⟨c, r, hL, hall, hc48⟩ := dg_good m (by have := HM.out; omega)
        have hSl : S.data.toList = c :: r := by
          rw [← hS, one_append, ← hL, HD.out, last_f gk k hf1 h9]; rfl
        have hSz : S.size ≤ 20 := by rw [← hS, one_size]; omega
        have hQl : Q.data.toList = 63 :: c :: r := by rw [← hQ, one_append, hSl]
        have hQz : Q.size ≤ 21 := by rw [← hQ, one_size]; omega
        have hlen : (c :: r).length = S.size := by rw [← hSl, ← Lib.size_eq]
        have heq := run_eql_tok
        by_cases h6 : 6 < S.size
        · have SS := fun w => scan_known S w [] 0 10 0 0 10 rfl (by rw [hSl]; exact num_scan_long c r hall (by omega) (by omega)) rfl rfl (by unfold maxLen; omega)
          have SQ := fun w => scan_known Q w [] 0 10 0 0 10 rfl (by rw [hQl]; exact meta_scan_long c r hall (by omega) (by omega)) rfl rfl (by unfold maxLen; omega)
          clear hall hc48 hL hSl hQl hlen
          go_wp2_with (first
            | (go_at_call 10; (with_reducible refine (SS _).mono ?_); rintro e w2 ⟨p2, c2, rfl, r2, b2⟩; have B2 := hidE b2; clear r2 b2)
            | (go_at_call 10; (with_reducible refine (SQ _).mono ?_); rintro e w3 ⟨p3, c3, rfl, r3, b3⟩; have B3 := hidE b3; clear r3 b3))
          go_ret
          exact ⟨rfl, bnext (bnext (bnext B1.out (BL.out.alloc BL.out.size _) (Nat.le_refl _)) B2.out (Nat.le_refl _)) B3.out (Nat.le_refl _)⟩
        · have SS := fun w => scan_known S w [⟨4, S.data.toList, 0⟩] 0 0 1 0 0 rfl (by rw [hSl]; exact num_scan c r hall (by omega) hc48) rfl rfl (by unfold maxLen; omega)
          have SQ := fun w => scan_known Q w [⟨5, Q.data.toList, 0⟩] 0 0 1 0 0 rfl (by rw [hQl]; exact meta_scan c r hall (by omega) hc48) rfl rfl (by unfold maxLen; omega)
          clear hall hc48 hL hSl hQl hlen
          go_wp2_with (first
            | (go_at_call 10; (with_reducible refine (SS _).mono ?_); rintro e w2 ⟨p2, c2, rfl, r2, b2⟩; have B2 := hidE b2; have R2 := hidE r2; clear r2 b2)
            | (go_at_call 10; (with_reducible refine (SQ _).mono ?_); rintro e w3 ⟨p3, c3, rfl, r3, b3⟩; obtain ⟨g2, rfl, x0, x1, x2⟩ := one_tok w3 p2 c2 S 4 4 rfl (R2.out.below b3); obtain ⟨g3, rfl, y0, y1, y2⟩ := one_tok w3 p3 c3 Q 5 5 rfl r3; have B3 := hidE b3; clear r3 b3))
          go_ret
          exact ⟨rfl, bnext (bnext (bnext B1.out (BL.out.alloc BL.out.size _) (Nat.le_refl _)) B2.out (Nat.le_refl _)) B3.out (Nat.le_refl _)⟩

/-! ### the row's step -/
set_option maxRecDepth 100000 in
theorem lifted (os : Os) (started : os.Started) (H : Type) (enc : TypeId × Value → H) :
    ReturnsInHanded {} Try.checked os 7 .any (Rows.lexNumbersSpec.pre6 enc Try.prog Try.f7 Rows.lexNumbersRow.domain false) (Rows.lexNumbersSpec.post enc Try.prog Try.f7 false true false false) := by
  refine returnsInHanded_of_change (C := Try.checked) own started (by kernel_rfl) Try.func7
    (ChangeSpec.witness6 (enc := enc) (C := Try.checked) false ⟨#[], #[.int .i64 0], []⟩ 8 (by kernel_rfl) (by kernel_rfl) (by kernel_rfl) (by kernel_rfl)) ?_
  intro W base args ds gs before hval0 hW hcnd _
  have hval : ∀ (j : Nat) t v, Try.f7.params[j]? = some t → args[j]? = some v → Value.okWide Try.prog W .any base t v := hval0
  have hW' := hW
  obtain ⟨p, q, hA0, hV, rfl, hfz, hnd⟩ := hW
  have hA : DataW.TrodAll enc Try.prog W 0 (fun _ => true) true Try.f7.params.toList args.toList ds p := hA0
  rw [Try.params7] at hA hval
  obtain ⟨v0, vs0, d0, ds0, p0, q0, hargs, rfl, rfl, h0, r0⟩ := trodAll_cons hA
  obtain ⟨rfl, rfl, rfl⟩ := trodAll_nil r0
  obtain rfl : args = #[v0] := by cases args; simp_all
  obtain ⟨rfl, rfl⟩ := trodVars_none hV
  obtain ⟨a0, rfl, rfl, rfl, w0⟩ := open_int Try.underlying3 (hval 0 3 v0 rfl rfl) h0
  clear hA0 hval0
  simp only [List.append_nil] at hW'
  refine (walk a0 w0 W).mono fun e W' ⟨he, hg⟩ => ?_
  subst he
  exact ⟨_, rfl, _, _, _, [], [], [], hW', trodAll_cons_mk (shut_bool Try.underlying4 _) trodAll_mk0, trodAll_cons_mk (shut_int Try.underlying3 w0) trodAll_mk0, rfl, hg.frame _, fun h => by cases h⟩

theorem over : Rows.lexNumbersRow.holds Try.pinned (OpenSpec.ofChange Rows.lexNumbersSpec) :=
  OpenClaim.holds_of_wide 7 Try.f7 rfl rfl rfl rfl rfl rfl rfl ⟨rfl, rfl, rfl, rfl, rfl⟩ rfl rfl rfl rfl rfl (by kernel_rfl) Try.func7 (by kernel_rfl)
    (of_decide_eq_true (by kernel_rfl)) (by unfold Func.isWrapper; first | (rw [if_pos (by decide +kernel)]; kernel_rfl) | (rw [if_neg (by decide +kernel)]; exact ⟨rfl, rfl⟩))
    (fun os started H enc _ => lifted os started H enc)

/-- the statement -/
theorem proved : Rows.LexNumbersSaid :=
  over
#print axioms proved
end Go.Proofs.Ytphffibigmpnkaa.lexNumbers
