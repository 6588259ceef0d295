/-
  The walk over Scan of the document's answer for lex: it tells what the plain mathematics tells.
-/
import Derived.Test.YtphffibigmpnkaaRefOneB
namespace Go.Proofs.Ytphffibigmpnkaa
open Go.RowKit Lx

/-! ### the rest, where it may begin within a remark -/
def scM (m : Bool) (i : Nat) (l : List UInt8) : Except Nat (List Tok) :=
  if l.drop (btw m l) = [] then .ok []
  else if (first (l.drop (btw m l))).1 = 0 then .error (i + btw m l)
  else (sc (i + btw m l + (first (l.drop (btw m l))).2) ((l.drop (btw m l)).drop (first (l.drop (btw m l))).2)).map (⟨(first (l.drop (btw m l))).1, (l.drop (btw m l)).take (first (l.drop (btw m l))).2, i + btw m l⟩ :: ·)
theorem sc_scM (i : Nat) (l : List UInt8) : sc i l = scM false i l := sc_unfold i l
theorem scM_shift (m m' : Bool) (i : Nat) (c : UInt8) (r : List UInt8) (h : btw m (c :: r) = btw m' r + 1) : scM m i (c :: r) = scM m' (i + 1) r := by
  unfold scM
  rw [h, List.drop_succ_cons, show i + (btw m' r + 1) = i + 1 + btw m' r by omega]
theorem scM_same (m m' : Bool) (i : Nat) (l : List UInt8) (h : btw m l = btw m' l) : scM m i l = scM m' i l := by
  unfold scM
  rw [h]

def KnownT (s : ByteArray) (k : Nat) (ts : List Tok) : Prop := lex s.data.toList = (scM true k (s.data.toList.drop k)).map (ts ++ ·) ∧ ts.length ≤ k

theorem known_blank (s : ByteArray) (i : Nat) (ts : List Tok) (hk : Known s i ts) (hi : i < s.size) (hb : s[i] = 32 ∨ s[i] = 9 ∨ s[i] = 10) : Known s (i + 1) ts := by
  refine ⟨?_, by have := hk.2; omega⟩
  rw [hk.1, drop_at s i hi, sc_scM, scM_shift false false i _ _ (by rw [btw, if_pos hb]), sc_scM]
theorem known_hash (s : ByteArray) (i : Nat) (ts : List Tok) (hk : Known s i ts) (hi : i < s.size) (h35 : s[i] = 35) : KnownT s i ts := by
  refine ⟨?_, hk.2⟩
  rw [hk.1, sc_scM, scM_same false true i _ (bt_remark s i hi h35)]
theorem knownT_step (s : ByteArray) (k : Nat) (ts : List Tok) (hk : KnownT s k ts) (hi : k < s.size) (h : ¬ s[k] = 10) : KnownT s (k + 1) ts := by
  refine ⟨?_, by have := hk.2; omega⟩
  have hb : (s[k] != 10) = true := by simpa using h
  rw [hk.1, drop_at s k hi, scM_shift true true k _ _ (by rw [btw, hb])]
theorem knownT_nl (s : ByteArray) (k : Nat) (ts : List Tok) (hk : KnownT s k ts) (hi : k < s.size) (h : s[k] = 10) : Known s k ts := by
  refine ⟨?_, hk.2⟩
  rw [hk.1, sc_scM, drop_at s k hi, h, scM_same true false k _ (by simp [btw])]
theorem knownT_end (s : ByteArray) (k : Nat) (ts : List Tok) (hk : KnownT s k ts) (hi : s.size ≤ k) : Known s k ts := by
  refine ⟨?_, hk.2⟩
  rw [hk.1, sc_scM, List.drop_eq_nil_of_le (by rw [← Lib.size_eq]; exact hi)]
  rfl
theorem tok_step (s : ByteArray) (i : Nat) (hi : i < s.size) (hb : ¬ (s[i] = 32 ∨ s[i] = 9 ∨ s[i] = 10)) (h35 : ¬ s[i] = 35) : Step s i i (i + (first (s.data.toList.drop i)).2) (first (s.data.toList.drop i)).1 := by
  have h2 := first_le (s.data.toList.drop i)
  rw [List.length_drop, ← Lib.size_eq] at h2
  refine ⟨Nat.le_refl _, by omega, by omega, ?_, by rw [Nat.add_sub_cancel_left]⟩
  rw [drop_at s i hi, btw, if_neg hb, if_neg h35]
  omega

/-- what holds at the head of each round -/
def RHead (s : ByteArray) (g : Nat) (w : World) (v x : Value) (wr : World) : Prop :=
  ∃ i ts, g = s.size - i ∧ i ≤ s.size ∧ x = .int .i64 (i : Nat) ∧ Known s i ts ∧ wr.ownsRow w.heap.size 30 3 v ts.length (toksV ts) ∧ Below w.heap.size w wr

theorem ownsRow_drewN {w : World} {base : Nat} {e : TypeId} {v : Value} {n : Nat} {xs : List Value} (h : w.ownsRow base e 3 v n xs) (k : Nat) : (w.drewN k).ownsRow base e 3 v n xs := h

theorem rhead_next (s : ByteArray) (w wr w2 : World) (v v' : Value) (i q k : Nat) (ts : List Tok)
    (st : Step s i i q k) (kn : Known s i ts) (hi : i < s.size) (h0 : k ≠ 0) (hbel : Below w.heap.size w wr)
    (hown : wr.ownsRow w.heap.size 30 3 v ts.length (toksV ts))
    (hgr : (wr.alloc (.cells #[.int .i64 (k : Nat), .string (s.extract i q), .int .i64 (i : Nat)] 30)).grownBy w2 v.ownBlock)
    (how : w2.ownsRow w.heap.size 30 3 v' (ts.length + 1) (toksV ts ++ [.int .i64 (k : Nat), .string (s.extract i q), .int .i64 (i : Nat)])) :
    i < q ∧ RHead s (s.size - q) w v' (.int .i64 (q : Nat)) w2 := by
  obtain ⟨hq, kn'⟩ := known_next s i i q k ts kn st hi h0
  refine ⟨hq, q, _, rfl, st.2.2.1, rfl, kn', ?_, ?_⟩
  · rw [toksV_snoc, tokV_extract, List.length_append]
    exact how
  · exact (hbel.alloc hbel.size _).grown hgr (by have := hbel.size; simp; omega) (fun m hm => (hown.lt m hm).1)

theorem ref_long (s : ByteArray) (w : World) (hs : s.size ≤ maxLen) (hl : 4000 < s.size) : Calls Try.prog 11 #[.string s] w (ScanPost s w) := by
  have HS : Hid (scanS s.data.toList = ([], 0, 2)) := by
    refine hidE ?_
    unfold scanS
    rw [if_pos (by rw [← Lib.size_eq]; exact hl)]
  unfold maxLen at hs
  go_enter Try.func11, Try.ntmps11
  go_wp2
  go_ret3
  exact ⟨Below.refl _ _, _, [], 0, 2, HS.out, rfl, World.ownsRow_nil _ _ _ _⟩

set_option maxHeartbeats 1600000 in
theorem ref_short (s : ByteArray) (w : World) (hl : s.size ≤ 4000) : Calls Try.prog 11 #[.string s] w (ScanPost s w) := by
  obtain ⟨i0, hi0, hz0, hz1, hz2⟩ := info_parts tok_info
  go_enter Try.func11, Try.ntmps11
  go_wp2_with fail
  go_loopg [5, 6] s.size (fun g v x wr => RHead s g w v x wr)
  case atStart => exact ⟨0, [], rfl, Nat.zero_le _, rfl, known_start s, World.ownsRow_nil _ _ _ _, Below.refl _ _⟩
  case round =>
    obtain ⟨i, ts, rfl, hi, rfl, kn, hown, hbel⟩ := hrel
    have KN := hidE kn
    have HOWN := hidE hown
    have HBEL := hidE hbel
    clear kn hown hbel
    by_cases hlt : i < s.size
    · by_cases hb : s[i] = 32 ∨ s[i] = 9 ∨ s[i] = 10
      · have HK := hidE (known_blank s i ts KN.out hlt hb)
        have bb : (((s[i].toNat : Int) == 32) = true) ∨ (((s[i].toNat : Int) == 32) = false ∧ ((s[i].toNat : Int) == 9) = true) ∨ (((s[i].toNat : Int) == 32) = false ∧ ((s[i].toNat : Int) == 9) = false ∧ ((s[i].toNat : Int) == 10) = true) := by
          rcases hb with h | h | h
          · exact .inl (u8t _ 32 h)
          · exact .inr (.inl ⟨u8f _ 32 (by rw [h]; decide), u8t _ 9 h⟩)
          · exact .inr (.inr ⟨u8f _ 32 (by rw [h]; decide), u8f _ 9 (by rw [h]; decide), u8t _ 10 h⟩)
        clear hb
        rcases bb with b1 | ⟨b1, b2⟩ | ⟨b1, b2, b3⟩
        all_goals
          go_wp2_with fail
          go_roundg (s.size - (i + 1))
          case measure => omega
          case rel => exact ⟨i + 1, ts, rfl, by omega, by go_num, HK.out, HOWN.out, HBEL.out⟩
      · have b1 : ((s[i].toNat : Int) == 32) = false := u8f _ 32 (fun e => hb (.inl e))
        have b2 : ((s[i].toNat : Int) == 9) = false := u8f _ 9 (fun e => hb (.inr (.inl e)))
        have b3 : ((s[i].toNat : Int) == 10) = false := u8f _ 10 (fun e => hb (.inr (.inr e)))
        by_cases h35 : s[i] = 35
        · have b4 : ((s[i].toNat : Int) == 35) = true := u8t _ 35 h35
          have HT := hidE (known_hash s i ts KN.out hlt h35)
          have H35 := hidE h35
          clear hb h35
          go_wp2_with fail
          obtain ⟨wo, hwo⟩ : ∃ wo : World, wo = wr := ⟨_, rfl⟩
          have HWO := hidE hwo
          clear hwo
          go_loopg [6] (s.size - i) (fun g x wi => ∃ k : Nat, g = s.size - k ∧ x = .int .i64 k ∧ wi = wr ∧ i ≤ k ∧ k ≤ s.size ∧ KnownT s k ts)
          case atStart => exact ⟨i, rfl, rfl, rfl, Nat.le_refl _, by omega, HT.out⟩
          case round =>
            obtain ⟨k, rfl, rfl, rfl, hik, hk, kt⟩ := hrel
            have KT := hidE kt
            clear kt
            by_cases hkl : k < s.size
            · by_cases h10 : s[k] = 10
              · have b5 : ((s[k].toNat : Int) != 10) = false := by rw [h10]; rfl
                have HKN := hidE (knownT_nl s k ts KT.out hkl h10)
                have hne : i < k := by
                  rcases Nat.lt_or_ge i k with h | h
                  · exact h
                  · have e : i = k := by omega
                    have h35' := H35.out
                    subst e
                    rw [h35'] at h10
                    exact absurd h10 (by decide)
                clear h10
                go_wp2_with fail
                go_roundg (s.size - k)
                case measure => omega
                case rel => exact ⟨k, ts, rfl, hk, rfl, HKN.out, HOWN.out, HBEL.out⟩
              · have b5 : ((s[k].toNat : Int) != 10) = true := by
                  have h10f : ((s[k].toNat : Int) == 10) = false := u8f _ 10 h10
                  rw [bne, h10f]; rfl
                have HKT := hidE (knownT_step s k ts KT.out hkl h10)
                clear h10
                go_wp2_with fail
                go_roundg (s.size - (k + 1))
                case measure => omega
                case rel => exact ⟨k + 1, rfl, by go_num, rfl, by omega, by omega, HKT.out⟩
            · have HKN := hidE (knownT_end s k ts KT.out (by omega))
              go_wp2_with fail
              go_roundg (s.size - k)
              case measure => omega
              case rel => exact ⟨k, ts, rfl, hk, rfl, HKN.out, HOWN.out, HBEL.out⟩
        · have b4 : ((s[i].toNat : Int) == 35) = false := u8f _ 35 h35
          have hst := tok_step s i hlt hb h35
          have RO := fun w => ref_one s i w hl hlt
          obtain ⟨k, hk⟩ : ∃ k, (first (s.data.toList.drop i)).1 = k := ⟨_, rfl⟩
          obtain ⟨q, hq⟩ : ∃ q, i + (first (s.data.toList.drop i)).2 = q := ⟨_, rfl⟩
          rw [hk, hq] at hst RO
          have ST := hidE hst
          have htl := KN.out.2
          have hqs := hst.2.2.1
          have hiq := hst.2.1
          clear hst hk hq hb h35
          by_cases h0 : k = 0
          · have hkb : ((k : Int) == 0) = true := by rw [h0]; rfl
            have H0 := hidE h0
            clear h0
            go_wp2_with (go_at_call 14; refine (RO _).mono ?_; rintro e w' ⟨rfl, m, rfl⟩)
            go_ret3
            exact ⟨below_drewN' HBEL.out _, _, [], i, 10, scan_bad s i hl (known_bad s i i q ts KN.out (H0.out ▸ ST.out) hlt), rfl, World.ownsRow_nil _ _ _ _⟩
          · have hkb : ((k : Int) == 0) = false := by rw [Bool.eq_false_iff]; intro h; simp at h; omega
            have H0 := hidE h0
            clear h0
            go_wp2_with (first
              | (go_at_call 14; refine (RO _).mono ?_; rintro e w' ⟨rfl, m, rfl⟩)
              | (at_builtin; refine wpList_append_own _ rfl (.tmp 59) (.tmp 67) 23 rfl w.heap.size 30 i0 _ 3 32 Try.underlying23 hi0 hz0 hz1 hz2 rfl (by decide) u5 ts.length (toksV ts) rfl (ownsRow_drewN (HOWN.out.alloc _) m) ⟨wr.heap.size, 0, none⟩ 1 1 [.int .i64 (k : Nat), .string (s.extract i q), .int .i64 (i : Nat)] rfl rfl (new_cells wr #[.int .i64 (k : Nat), .string (s.extract i q), .int .i64 (i : Nat)] _) (by intro u hu; simp at hu; rcases hu with rfl | rfl | rfl <;> rfl) (by unfold maxLen; omega) (by omega) (by have := HBEL.out.size; simp; omega) ?_; intro v' w2 hown' hgrow _; have HGR := hidE hgrow; have HOW2 := hidE hown'; clear hown' hgrow))
            have hnx := rhead_next s w wr w2 u5 v' i q k ts ST.out KN.out hlt H0.out HBEL.out HOWN.out ⟨HGR.out.os, HGR.out.tape, HGR.out.output, HGR.out.size, HGR.out.block⟩ HOW2.out
            go_roundg (s.size - q)
            case measure => have := hnx.1; omega
            case rel => exact hnx.2
    · go_wp2_with fail
      go_ret3
      have hsz : i = s.size := by omega
      obtain ⟨p', q', k', st⟩ := step_of s i hi
      exact ⟨HBEL.out, _, ts, 0, 0, scan_ok s ts hl (known_done s i p' q' k' ts KN.out st (by have := st.1; omega)), rfl, HOWN.out⟩

theorem ref_any (s : ByteArray) (w : World) (hs : s.size ≤ maxLen) : Calls Try.prog 11 #[.string s] w (ScanPost s w) := by
  by_cases h : 4000 < s.size
  · exact ref_long s w hs h
  · exact ref_short s w (by omega)

end Go.Proofs.Ytphffibigmpnkaa
