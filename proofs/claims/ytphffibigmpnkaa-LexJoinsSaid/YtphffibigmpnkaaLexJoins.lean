/-
  savantlaw01.LexJoins, whatever the text and the list of bools: it answers true, and both are as they were.
-/
import Derived.Test.YtphffibigmpnkaaLexJoin
import Derived.Test.YtphffibigmpnkaaLexLaw
import Derived.Test.YtphffibigmpnkaaRows
import Derived.ProofKit
import Derived.OpenShut
import Derived.ShutString
import Derived.Carry
import Derived.Deep.Grids
namespace Go.Proofs.Ytphffibigmpnkaa.lexJoins
open Go.ChangeShapes Go.WideShapes Go.ChangeAt Go.RowKit Lx
open Go.ChangeMaps (open_string shut_string)

theorem own : ownKnob Try.prog.godebug = none := by kernel_rfl


theorem laidOut : laidOutB Try.prog = true := by kernel_rfl

/-- does a remark stand behind token i? -/
def sb (R : Nat → Bool) (n i : Nat) : Bool := decide (i < n) && R i
def prs (ts : List Tok) (R : Nat → Bool) (n : Nat) : List (Tok × Bool) := ts.mapIdx fun i t => (t, sb R n i)
theorem prs_length (ts : List Tok) (R : Nat → Bool) (n : Nat) : (prs ts R n).length = ts.length := by simp [prs]
theorem prs_get (ts : List Tok) (R : Nat → Bool) (n i : Nat) (h : i < (prs ts R n).length) (h2 : i < ts.length) : (prs ts R n)[i] = (ts[i], sb R n i) := by simp [prs]

def Joined (ts : List Tok) (R : Nat → Bool) (n i : Nat) (B : ByteArray) : Prop := B.data.toList = joinL ((prs ts R n).take i)
theorem joined_zero (ts : List Tok) (R : Nat → Bool) (n : Nat) : Joined ts R n 0 ⟨#[]⟩ := rfl
theorem join_step (ts : List Tok) (R : Nat → Bool) (n : Nat) (B B' X : ByteArray) (i : Nat) (b : Bool) (S : ByteArray) (hi : i < ts.length) (hX : ⟨ts[i].text.toArray⟩ = X) (hsb : sb R n i = b) (hS : S.data.toList = sep b)
    (hB : Joined ts R n i B) (hB' : (B ++ X) ++ S = B') : Joined ts R n (i + 1) B' := by
  unfold Joined at *
  have hl : i < (prs ts R n).length := by rw [prs_length]; exact hi
  rw [← hB', append_data, append_data, hB, List.take_succ_eq_append_getElem hl, prs_get ts R n i hl hi, joinL_snoc, hS, hsb, ← hX]

theorem joined_lex (ts : List Tok) (R : Nat → Bool) (n : Nat) (B : ByteArray) (hg : ∀ t ∈ ts, Lx.Good t) (h : Joined ts R n ts.length B) :
    ∃ vs : List Tok, lex B.data.toList = .ok vs ∧ vs.length = ts.length ∧ ∀ (j : Nat) (h1 : j < vs.length) (h2 : j < ts.length), vs[j].kind = ts[j].kind ∧ vs[j].text = ts[j].text := by
  unfold Joined at h
  rw [List.take_of_length_le (by rw [prs_length]; omega)] at h
  obtain ⟨vs, hv, hl, hj⟩ := join_sc (prs ts R n) (fun x hx => by
    obtain ⟨k, hk, rfl⟩ := List.getElem_of_mem hx
    rw [prs_get ts R n k hk (by rw [prs_length] at hk; exact hk)]
    exact hg _ (List.getElem_mem _)) 0
  refine ⟨vs, by rw [h, lex_sc]; exact hv, by rw [hl, prs_length], fun j h1 h2 => ?_⟩
  have hp : j < (prs ts R n).length := by rw [prs_length]; exact h2
  have := hj j h1 hp
  rw [prs_get ts R n j hp h2] at this
  exact this

theorem lex_text (s : ByteArray) (ts : List Tok) (h : lex s.data.toList = .ok ts) : ∀ t ∈ ts, t.text.length ≤ s.size := by
  have key : ∀ (ts : List Tok) (f : Nat), Cov s.data.toList f ts → ∀ u ∈ ts, u.text.length ≤ s.data.toList.length := by
    intro ts
    induction ts with
    | nil => intro f _ u hu; cases hu
    | cons x r ih =>
      intro f hc u hu
      obtain ⟨_, _, h3, _, _, _, h7⟩ := hc
      rcases List.mem_cons.1 hu with rfl | hu
      · omega
      · exact ih _ h7 u hu
  rw [Lib.size_eq]
  exact key ts 0 (lex_cov _ _ h)

theorem walk_err (s : ByteArray) (A : Option Addr) (n c : Nat) (w : World) (hs : s.size ≤ maxLen) (a b : Nat) (hb : b = 2 ∨ b = 10) (h : scanS s.data.toList = ([], a, b)) : Calls Try.prog 5 #[.string s, .slice A n c] w fun e w' => e = .returned (.bool true) ∧ Below w.heap.size w w' := by
  have SS := fun w => scan_known s w [] a b 0 a b rfl h rfl rfl hs
  have d1 : ((b : Int) != 0) = true := by rcases hb with h | h <;> rw [h] <;> rfl
  clear h hb hs
  go_enter Try.func5, Try.ntmps5
  go_wp2_with (first
    | (go_at_call 9; refine (awake_any _).mono ?_; rintro e w1 ⟨rfl, b1⟩; have B1 := hidE b1; clear b1)
    | (go_at_call 10; refine (SS _).mono ?_; rintro e w2 ⟨p2, c2, rfl, r2, b2⟩; have B2 := hidE b2; clear r2 b2))
  go_ret
  exact ⟨rfl, bnext B1.out B2.out (Nat.le_refl _)⟩

set_option maxHeartbeats 3000000 in
set_option maxRecDepth 100000 in
theorem walk_ok (s : ByteArray) (A : Option Addr) (n c : Nat) (R : Nat → Bool) (w : World) (hs : s.size ≤ 4000) (ts : List Tok) (h : lex s.data.toList = .ok ts) (hn : ts.length ≤ 4000)
    (hR : ∀ i, i < n → ∃ b off, A = some ⟨b, off, none⟩ ∧ b < w.heap.size ∧ w.cell? ⟨b, off + i, none⟩ = some (.bool (R i))) : Calls Try.prog 5 #[.string s, .slice A n c] w fun e w' => e = .returned (.bool true) ∧ Below w.heap.size w w' := by
  have SS := fun w => scan_known s w ts 0 0 ts.length 0 0 rfl (scan_ok s ts hs h) rfl rfl (by unfold maxLen; omega)
  have HG := hidE (good_lex _ _ h)
  have HT := hidE (fun t ht => Nat.le_trans (lex_text s ts h t ht) hs)
  have HR := hidE hR
  clear h hR
  go_enter Try.func5, Try.ntmps5
  go_wp2_with (first
    | (go_at_call 9; refine (awake_any _).mono ?_; rintro e w1 ⟨rfl, b1⟩; have B1 := hidE b1; clear b1)
    | (go_at_call 10; refine (SS _).mono ?_; rintro e w2 ⟨p2, c2, rfl, r2, b2⟩; have R2 := hidE r2; have B2 := hidE b2; clear r2 b2))
  have BW : Hid (Below w.heap.size w w2) := bnext B1.out B2.out (Nat.le_refl _)
  clear SS
  go_loopg [9, 10] ts.length (fun g jv iv wr => ∃ (i : Nat) (B : ByteArray), g = ts.length - i ∧ i ≤ ts.length ∧ iv = .int .i64 i ∧ jv = .string B ∧ wr = w2 ∧ Joined ts R n i B ∧ B.size ≤ i * 5000)
  case atStart => exact ⟨0, ⟨#[]⟩, rfl, Nat.zero_le _, rfl, rfl, rfl, joined_zero ts R n, Nat.zero_le _⟩
  case round =>
    obtain ⟨i, B, rfl, hi, rfl, rfl, rfl, hj, hBz⟩ := hrel
    have HB := hidE hj
    clear hj
    by_cases hlt : i < ts.length
    · obtain ⟨g2, c2', hgv, x0, x1, x2⟩ := R2.out.at_ i hlt
      injection hgv with hA _ hC
      subst hA hC
      obtain ⟨X, hX⟩ : ∃ X : ByteArray, ⟨ts[i].text.toArray⟩ = X := ⟨_, rfl⟩
      rw [hX] at x1
      have hXz : X.size ≤ 4000 := by have h1 := HT.out _ (List.getElem_mem hlt); have h2 : X.size = ts[i].text.length := by rw [← hX]; rfl
                                     omega
      clear x0 x2
      by_cases hin : i < n
      · obtain ⟨b, off, rfl, hbW, hcell⟩ := HR.out i hin
        have hcell2 : wr.cell? ⟨b, off + i, none⟩ = some (.bool (R i)) := (BW.out.cell (p := ⟨b, off + i, none⟩) hbW).trans hcell
        have d1 : decide ((i : Int) < (n : Int)) = true := decide_eq_true (by omega)
        clear hcell
        cases hRi : R i with
        | true =>
          rw [hRi] at hcell2
          have hsb : sb R n i = true := by unfold sb; rw [hRi]; simp [hin]
          clear hRi
          obtain ⟨B', hB'⟩ : ∃ B', (B ++ X) ++ (⟨#[35, 32, 120, 32, 41, 32, 63, 10]⟩ : ByteArray) = B' := ⟨_, rfl⟩
          have hBz2 : B'.size ≤ (i + 1) * 5000 := by rw [← hB', ByteArray.size_append, ByteArray.size_append, show (⟨#[35, 32, 120, 32, 41, 32, 63, 10]⟩ : ByteArray).size = 8 from rfl]; omega
          have HX := hidE (join_step ts R n B B' X i true ⟨#[35, 32, 120, 32, 41, 32, 63, 10]⟩ hlt hX hsb rfl HB.out hB')
          clear hX hsb
          go_wp2_with fail
          go_roundg (ts.length - (i + 1))
          case measure => omega
          case rel => exact ⟨i + 1, B', rfl, by omega, by go_num, rfl, rfl, HX.out, hBz2⟩
        | false =>
          rw [hRi] at hcell2
          have hsb : sb R n i = false := by unfold sb; rw [hRi]; simp [hin]
          clear hRi
          obtain ⟨B', hB'⟩ : ∃ B', (B ++ X) ++ (⟨#[32]⟩ : ByteArray) = B' := ⟨_, rfl⟩
          have hBz2 : B'.size ≤ (i + 1) * 5000 := by rw [← hB', ByteArray.size_append, ByteArray.size_append, show (⟨#[32]⟩ : ByteArray).size = 1 from rfl]; omega
          have HX := hidE (join_step ts R n B B' X i false ⟨#[32]⟩ hlt hX hsb rfl HB.out hB')
          clear hX hsb
          go_wp2_with fail
          go_roundg (ts.length - (i + 1))
          case measure => omega
          case rel => exact ⟨i + 1, B', rfl, by omega, by go_num, rfl, rfl, HX.out, hBz2⟩
      · have d1 : decide ((i : Int) < (n : Int)) = false := decide_eq_false (by omega)
        have hsb : sb R n i = false := by unfold sb; simp [hin]
        obtain ⟨B', hB'⟩ : ∃ B', (B ++ X) ++ (⟨#[32]⟩ : ByteArray) = B' := ⟨_, rfl⟩
        have hBz2 : B'.size ≤ (i + 1) * 5000 := by rw [← hB', ByteArray.size_append, ByteArray.size_append, show (⟨#[32]⟩ : ByteArray).size = 1 from rfl]; omega
        have HX := hidE (join_step ts R n B B' X i false ⟨#[32]⟩ hlt hX hsb rfl HB.out hB')
        clear hX hsb
        go_wp2_with fail
        go_roundg (ts.length - (i + 1))
        case measure => omega
        case rel => exact ⟨i + 1, B', rfl, by omega, by go_num, rfl, rfl, HX.out, hBz2⟩
    · have hie : i = ts.length := by omega
      obtain ⟨vs, hv, hvl, hvj⟩ := joined_lex ts R n B HG.out (hie ▸ HB.out)
      have HJ := hidE hvj
      have HIE := hidE hie
      clear hie hvj
      by_cases h4 : 4000 < B.size
      · have d4 : decide ((4000 : Int) < B.size) = true := decide_eq_true (by omega)
        go_wp2_with fail
        go_ret
        exact ⟨rfl, BW.out⟩
      · have d4 : decide ((4000 : Int) < B.size) = false := decide_eq_false (by omega)
        have SB := fun w => scan_known B w vs 0 0 vs.length 0 0 rfl (scan_ok B vs (by omega) hv) rfl rfl (by unfold maxLen; omega)
        have d5 : ((vs.length : Int) != (ts.length : Int)) = false := by simp; omega
        have hl1 : vs.length ≤ ts.length := by omega
        have hl2 : ts.length ≤ vs.length := by omega
        clear hv hvl
        go_wp2_with (go_at_call 10; refine (SB _).mono ?_; rintro e w3 ⟨p3, c3, rfl, r3, b3⟩; have R3 := hidE r3; have B3 := hidE b3; clear r3 b3)
        go_loopg [14] ts.length (fun g iv wr => ∃ k m : Nat, g = ts.length - k ∧ k ≤ ts.length ∧ iv = .int .i64 k ∧ wr = w3.drewN m)
        case atStart => exact ⟨0, 0, rfl, Nat.zero_le _, rfl, rfl⟩
        case round =>
          obtain ⟨k, m, rfl, hk, rfl, rfl⟩ := hrel
          by_cases hkl : k < ts.length
          · obtain ⟨g2, c2', hgv, x0, x1, x2⟩ := (R2.out.below B3.out).at_ k hkl
            injection hgv with hA _ hC
            subst hA hC
            obtain ⟨g3, c3', hgv, y0, y1, y2⟩ := R3.out.at_ k (by omega)
            injection hgv with hA _ hC
            subst hA hC
            obtain ⟨e1, e2⟩ := HJ.out k (by omega) hkl
            rw [e1] at y0
            rw [e2] at y1
            obtain ⟨κ, hκ⟩ : ∃ κ, ts[k].kind = κ := ⟨_, rfl⟩
            obtain ⟨X, hX⟩ : ∃ X : ByteArray, ⟨ts[k].text.toArray⟩ = X := ⟨_, rfl⟩
            rw [hκ] at x0 y0
            rw [hX] at x1 y1
            clear e1 e2 hκ hX x2 y2
            go_wp2_with fail
            go_quiet (fail)
            go_wp2_with fail
            go_roundg (ts.length - (k + 1))
            case measure => omega
            case rel => exact ⟨k + 1, _, rfl, by omega, by go_num, rfl⟩
          · go_wp2_with fail
            go_ret
            exact ⟨rfl, below_drewN' (bnext BW.out B3.out (Nat.le_refl _)) _⟩

theorem walk (s : ByteArray) (hs : s.size ≤ maxLen) (A : Option Addr) (n c : Nat) (R : Nat → Bool) (w : World)
    (hR : ∀ i, i < n → ∃ b off, A = some ⟨b, off, none⟩ ∧ b < w.heap.size ∧ w.cell? ⟨b, off + i, none⟩ = some (.bool (R i))) : Calls Try.prog 5 #[.string s, .slice A n c] w fun e w' => e = .returned (.bool true) ∧ Below w.heap.size w w' := by
  by_cases hl : 4000 < s.size
  · exact walk_err s A n c w hs 0 2 (.inl rfl) (by unfold scanS; rw [if_pos (by rw [← Lib.size_eq]; exact hl)])
  · cases h : lex s.data.toList with
    | error a => exact walk_err s A n c w hs a 10 (.inr rfl) (scan_bad s a (by omega) h)
    | ok ts => exact walk_ok s A n c R w (by omega) ts h (scanS_len _ _ _ _ (scan_ok s ts (by omega) h)) hR

/-! ### the row's step -/
set_option maxRecDepth 100000 in
theorem lifted (os : Os) (started : os.Started) (H : Type) (enc : TypeId × Value → H) :
    ReturnsInHanded {} Try.checked os 5 .any (Rows.lexJoinsSpec.pre6 enc Try.prog Try.f5 Rows.lexJoinsRow.domain false) (Rows.lexJoinsSpec.post enc Try.prog Try.f5 false true false false) := by
  refine returnsInHanded_of_change (C := Try.checked) own started (by kernel_rfl) Try.func5
    (ChangeSpec.witness6 (enc := enc) (C := Try.checked) false ⟨#[], #[.string ByteArray.empty, .slice none 0 0], []⟩ 8 (by kernel_rfl) (by kernel_rfl) (by kernel_rfl) (by kernel_rfl)) ?_
  intro W base args ds gs before hval0 hW hcnd _
  have hval : ∀ (j : Nat) t v, Try.f5.params[j]? = some t → args[j]? = some v → Value.okWide Try.prog W .any base t v := hval0
  have hW' := hW
  obtain ⟨p, q, hA0, hV, rfl, hfz, hnd⟩ := hW
  have hA : DataW.TrodAll enc Try.prog W 0 (fun _ => true) true Try.f5.params.toList args.toList ds p := hA0
  rw [Try.params5] at hA hval
  obtain ⟨v0, vs0, d0, ds0, p0, q0, hargs, rfl, rfl, h0, r0⟩ := trodAll_cons hA
  obtain ⟨v1, vs1, d1, ds1, p1, q1, rfl, rfl, rfl, h1, r1⟩ := trodAll_cons r0
  obtain ⟨rfl, rfl, rfl⟩ := trodAll_nil r1
  obtain rfl : args = #[v0, v1] := by cases args; simp_all
  obtain ⟨rfl, rfl⟩ := trodVars_none hV
  obtain ⟨a0, rfl, rfl, rfl, w0⟩ := open_string Try.underlying9 (hval 0 9 v0 rfl rfl) h0
  obtain ⟨A, n, c, rfl⟩ := okWide_slice Try.underlying31 (hval 1 31 v1 rfl rfl)
  have h1k := h1
  obtain ⟨fuel, hf⟩ := h1
  clear hA0 hval0
  simp only [List.append_nil, List.nil_append] at hW'
  have hlt : ∀ x ∈ p1, x.block < W.heap.size := fun x hx => by simpa using hW'.lt x hx
  have fin : ∀ (R : Nat → Bool), (∀ i, i < n → ∃ b off, A = some ⟨b, off, none⟩ ∧ b < W.heap.size ∧ W.cell? ⟨b, off + i, none⟩ = some (.bool (R i))) →
      Calls Try.checked.prog 5 #[.string a0, .slice A n c] W fun e W' => ∃ v, e = Ending.returned v ∧ Rows.lexJoinsSpec.post enc Try.checked.prog Try.f5 false true false false W #[.string a0, .slice A n c] v W' := by
    intro R hR
    refine (walk a0 w0 A n c R W hR).mono fun e W' ⟨he, hg⟩ => ?_
    subst he
    exact ⟨_, rfl, _, _, _, [], [] ++ p1, [], hW', trodAll_cons_mk (shut_bool Try.underlying4 _) trodAll_mk0, trodAll_mk2 (shut_string Try.underlying9 w0) (Below.trod laidOut (by kernel_rfl) (of_decide_eq_true (by kernel_rfl)) h1k hg hlt), rfl, hg.frame _, fun h => by cases h⟩
  rcases Go.Deep.open_bools Try.underlying31 Try.underlying4 (by kernel_rfl) hf with ⟨hcs, hx⟩ | ⟨a, len', cap', B, hcs, hb, hl, hm, hx, hcell⟩
  · simp [Value.cells] at hcs
    obtain ⟨rfl, rfl, rfl⟩ := hcs
    exact fin (fun _ => false) (fun i hi => absurd hi (by omega))
  · simp [Value.cells] at hcs
    obtain ⟨rfl, rfl, rfl⟩ := hcs
    refine fin B (fun i hi => ?_)
    obtain ⟨b, off, spot⟩ := a
    have hspot : spot = none := by simpa [Addr.add] using World.cell?_spot (hcell 0 (by omega))
    subst hspot
    have hc := hcell i (by omega)
    rw [show (⟨b, off, none⟩ : Addr).add i = ⟨b, off + i, none⟩ by unfold Addr.add; split <;> simp_all] at hc
    exact ⟨b, off, rfl, block_lt_of_cell hc, hc⟩

theorem over : Rows.lexJoinsRow.holds Try.pinned (OpenSpec.ofChange Rows.lexJoinsSpec) :=
  OpenClaim.holds_of_wide 5 Try.f5 rfl rfl rfl rfl rfl rfl rfl ⟨rfl, rfl, rfl, rfl, rfl⟩ rfl rfl rfl rfl rfl (by kernel_rfl) Try.func5 (by kernel_rfl)
    (of_decide_eq_true (by kernel_rfl)) (by unfold Func.isWrapper; first | (rw [if_pos (by decide +kernel)]; kernel_rfl) | (rw [if_neg (by decide +kernel)]; exact ⟨rfl, rfl⟩))
    (fun os started H enc _ => lifted os started H enc)

/-- the statement -/
theorem proved : Rows.LexJoinsSaid :=
  over
#print axioms proved
end Go.Proofs.Ytphffibigmpnkaa.lexJoins
