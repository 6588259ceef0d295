/-
  savantlaw02.TypesPuts, whatever the two texts, the name and the number: it answers true, and they are as they were. The card ties the library's tables to the program's text.
-/
import Derived.Test.YthgkpmgcikopnaaGreatDoorBuX
import Derived.Test.YthgkpmgcikopnaaGreatDoorBuW
import Derived.Test.YthgkpmgcikopnaaGreatDoorByA
import Derived.Test.YthgkpmgcikopnaaGreatDoorBvC
import Derived.Test.YthgkpmgcikopnaaGreatDoorCards
import Derived.Test.YthgkpmgcikopnaaGreatDoorTie
import Derived.SevenTiedAt
namespace Go.Proofs.YthgkpmgcikopnaaGreatDoor.typesPuts
open Go.ChangeShapes Go.WideShapes Go.ChangeAt Go.RowKit Lx Tx Go.Shelf
open Go.ChangeMaps (open_string shut_string)
set_option maxRecDepth 100000

theorem ref2_parseOk (s : ByteArray) (t : Ty) (h : parse s.data.toList = .ok t) (w : World) (hs : s.size ≤ maxLen) : Calls Tryz.prog 13 #[.string s] w (OkPst t w) := by
  refine (ref2_parse s w hs).mono ?_
  rintro e w' ⟨hb, K, X, Z, A, m, c, ⟨n, h0, hp, -⟩ | ⟨u, hp, he, hr⟩⟩
  · rw [h] at hp; cases hp
  · rw [h] at hp
    injection hp with hp
    subst hp
    exact ⟨K, X, Z, A, m, c, he, hr.keep (fun g hg => hg.2) (fun _ _ => rfl), hb⟩
theorem ref2_parseN (s : ByteArray) (w : World) (hs : s.size ≤ maxLen) : Calls Tryz.prog 13 #[.string s] w (AnyPst (errN s.data.toList) w) := by
  refine (ref2_parse s w hs).mono ?_
  rintro e w' ⟨hb, K, X, Z, A, m, c, ⟨n, h0, hp, he⟩ | ⟨u, hp, he, hr⟩⟩
  · refine ⟨K, X, Z, A, m, c, ?_, hb⟩
    unfold errN
    rw [hp]
    exact he
  · refine ⟨K, X, Z, A, m, c, ?_, hb⟩
    unfold errN
    rw [hp]
    exact he

set_option maxHeartbeats 3200000 in
/-- where the law asks nothing -/
theorem walk_no (s r x : ByteArray) (n : Int) (w : World) (ht : Tab w) (hs : s.size ≤ maxLen) (hr : r.size ≤ maxLen) (h : ¬ (errN s.data.toList = 0 ∧ errN r.data.toList = 0 ∧ s.size ≤ 400 ∧ r.size ≤ 400)) :
    Calls Tryz.prog 4 #[.string s, .string r, .string x, .int .i64 n] w fun e w' => e = .returned (.bool true) ∧ Below w.heap.size w w' := by
  have HAW := hidE (tc_awake w ht)
  have HP := hidE (fun w => tc_parseN s w hs)
  have HQ := hidE (fun w => tc_parseN r w hr)
  have HP2 := hidE (fun w => ref2_parseN s w hs)
  have HQ2 := hidE (fun w => ref2_parseN r w hr)
  obtain ⟨n1, hn1⟩ : ∃ n, errN s.data.toList = n := ⟨_, rfl⟩
  obtain ⟨n2, hn2⟩ : ∃ n, errN r.data.toList = n := ⟨_, rfl⟩
  rw [hn1] at HP HP2 h
  rw [hn2] at HQ HQ2 h
  clear ht hs hr hn1 hn2
  by_cases c1 : n1 = 0
  · have e1 : ((n1 : Int) != 0) = false := neqF _ _ (by omega)
    by_cases c2 : n2 = 0
    · have e2 : ((n2 : Int) != 0) = false := neqF _ _ (by omega)
      by_cases c3 : s.size ≤ 400
      · have g1 : ¬ (400 : Int) < (s.size : Int) := by omega
        have g2 : (400 : Int) < (r.size : Int) := by omega
        clear c1 c2 c3 h
        go_enter Tryz.func4, Tryz.ntmps4
        go_wp2_with fail
        refine HAW.out.mono ?_
        rintro e w1 ⟨rfl, b1⟩
        have B1 := hidE b1
        clear b1 HAW
        go_wp2_with fail
        refine (HP.out w1).mono ?_
        rintro e w2 ⟨K, X, Z, A, m, c, rfl, b2⟩
        have B2 := hidE ((B1.out.trans (b2.mono B1.out.size)).alloc (Nat.le_trans B1.out.size b2.size) (.cells #[.int .i64 K, .string X, .int .i64 Z, .slice A m c] 25))
        clear b2 HP
        go_wp2_with fail
        refine (HQ.out _).mono ?_
        rintro e w3 ⟨K3, X3, Z3, A3, m3, c3, rfl, b3⟩
        have B3 := hidE ((B2.out.trans (b3.mono B2.out.size)).alloc (Nat.le_trans B2.out.size b3.size) (.cells #[.int .i64 K3, .string X3, .int .i64 Z3, .slice A3 m3 c3] 25))
        clear b3 HQ
        go_wp2_with fail
        refine (HP2.out _).mono ?_
        rintro e w4 ⟨K4, X4, Z4, A4, m4, c4, rfl, b4⟩
        have B4 := hidE ((B3.out.trans (b4.mono B3.out.size)).alloc (Nat.le_trans B3.out.size b4.size) (.cells #[.int .i64 K4, .string X4, .int .i64 Z4, .slice A4 m4 c4] 31))
        clear b4 HP2
        go_wp2_with fail
        refine (HQ2.out _).mono ?_
        rintro e w5 ⟨K5, X5, Z5, A5, m5, c5, rfl, b5⟩
        have B5 := hidE ((B4.out.trans (b5.mono B4.out.size)).alloc (Nat.le_trans B4.out.size b5.size) (.cells #[.int .i64 K5, .string X5, .int .i64 Z5, .slice A5 m5 c5] 31))
        clear b5 HQ2
        go_wp2_with fail
        go_ret
        exact ⟨rfl, B5.out⟩
      · have g1 : (400 : Int) < (s.size : Int) := by omega
        clear c1 c2 c3 h
        go_enter Tryz.func4, Tryz.ntmps4
        go_wp2_with fail
        refine HAW.out.mono ?_
        rintro e w1 ⟨rfl, b1⟩
        have B1 := hidE b1
        clear b1 HAW
        go_wp2_with fail
        refine (HP.out w1).mono ?_
        rintro e w2 ⟨K, X, Z, A, m, c, rfl, b2⟩
        have B2 := hidE ((B1.out.trans (b2.mono B1.out.size)).alloc (Nat.le_trans B1.out.size b2.size) (.cells #[.int .i64 K, .string X, .int .i64 Z, .slice A m c] 25))
        clear b2 HP
        go_wp2_with fail
        refine (HQ.out _).mono ?_
        rintro e w3 ⟨K3, X3, Z3, A3, m3, c3, rfl, b3⟩
        have B3 := hidE ((B2.out.trans (b3.mono B2.out.size)).alloc (Nat.le_trans B2.out.size b3.size) (.cells #[.int .i64 K3, .string X3, .int .i64 Z3, .slice A3 m3 c3] 25))
        clear b3 HQ
        go_wp2_with fail
        refine (HP2.out _).mono ?_
        rintro e w4 ⟨K4, X4, Z4, A4, m4, c4, rfl, b4⟩
        have B4 := hidE ((B3.out.trans (b4.mono B3.out.size)).alloc (Nat.le_trans B3.out.size b4.size) (.cells #[.int .i64 K4, .string X4, .int .i64 Z4, .slice A4 m4 c4] 31))
        clear b4 HP2
        go_wp2_with fail
        refine (HQ2.out _).mono ?_
        rintro e w5 ⟨K5, X5, Z5, A5, m5, c5, rfl, b5⟩
        have B5 := hidE ((B4.out.trans (b5.mono B4.out.size)).alloc (Nat.le_trans B4.out.size b5.size) (.cells #[.int .i64 K5, .string X5, .int .i64 Z5, .slice A5 m5 c5] 31))
        clear b5 HQ2
        go_wp2_with fail
        go_ret
        exact ⟨rfl, B5.out⟩
    · have e2 : ((n2 : Int) != 0) = true := neqT _ _ (by omega)
      clear c1 c2 h
      go_enter Tryz.func4, Tryz.ntmps4
      go_wp2_with fail
      refine HAW.out.mono ?_
      rintro e w1 ⟨rfl, b1⟩
      have B1 := hidE b1
      clear b1 HAW
      go_wp2_with fail
      refine (HP.out w1).mono ?_
      rintro e w2 ⟨K, X, Z, A, m, c, rfl, b2⟩
      have B2 := hidE ((B1.out.trans (b2.mono B1.out.size)).alloc (Nat.le_trans B1.out.size b2.size) (.cells #[.int .i64 K, .string X, .int .i64 Z, .slice A m c] 25))
      clear b2 HP
      go_wp2_with fail
      refine (HQ.out _).mono ?_
      rintro e w3 ⟨K3, X3, Z3, A3, m3, c3, rfl, b3⟩
      have B3 := hidE ((B2.out.trans (b3.mono B2.out.size)).alloc (Nat.le_trans B2.out.size b3.size) (.cells #[.int .i64 K3, .string X3, .int .i64 Z3, .slice A3 m3 c3] 25))
      clear b3 HQ
      go_wp2_with fail
      refine (HP2.out _).mono ?_
      rintro e w4 ⟨K4, X4, Z4, A4, m4, c4, rfl, b4⟩
      have B4 := hidE ((B3.out.trans (b4.mono B3.out.size)).alloc (Nat.le_trans B3.out.size b4.size) (.cells #[.int .i64 K4, .string X4, .int .i64 Z4, .slice A4 m4 c4] 31))
      clear b4 HP2
      go_wp2_with fail
      refine (HQ2.out _).mono ?_
      rintro e w5 ⟨K5, X5, Z5, A5, m5, c5, rfl, b5⟩
      have B5 := hidE ((B4.out.trans (b5.mono B4.out.size)).alloc (Nat.le_trans B4.out.size b5.size) (.cells #[.int .i64 K5, .string X5, .int .i64 Z5, .slice A5 m5 c5] 31))
      clear b5 HQ2
      go_wp2_with fail
      go_ret
      exact ⟨rfl, B5.out⟩
  · have e1 : ((n1 : Int) != 0) = true := neqT _ _ (by omega)
    clear c1 h
    go_enter Tryz.func4, Tryz.ntmps4
    go_wp2_with fail
    refine HAW.out.mono ?_
    rintro e w1 ⟨rfl, b1⟩
    have B1 := hidE b1
    clear b1 HAW
    go_wp2_with fail
    refine (HP.out w1).mono ?_
    rintro e w2 ⟨K, X, Z, A, m, c, rfl, b2⟩
    have B2 := hidE ((B1.out.trans (b2.mono B1.out.size)).alloc (Nat.le_trans B1.out.size b2.size) (.cells #[.int .i64 K, .string X, .int .i64 Z, .slice A m c] 25))
    clear b2 HP
    go_wp2_with fail
    refine (HQ.out _).mono ?_
    rintro e w3 ⟨K3, X3, Z3, A3, m3, c3, rfl, b3⟩
    have B3 := hidE ((B2.out.trans (b3.mono B2.out.size)).alloc (Nat.le_trans B2.out.size b3.size) (.cells #[.int .i64 K3, .string X3, .int .i64 Z3, .slice A3 m3 c3] 25))
    clear b3 HQ
    go_wp2_with fail
    refine (HP2.out _).mono ?_
    rintro e w4 ⟨K4, X4, Z4, A4, m4, c4, rfl, b4⟩
    have B4 := hidE ((B3.out.trans (b4.mono B3.out.size)).alloc (Nat.le_trans B3.out.size b4.size) (.cells #[.int .i64 K4, .string X4, .int .i64 Z4, .slice A4 m4 c4] 31))
    clear b4 HP2
    go_wp2_with fail
    refine (HQ2.out _).mono ?_
    rintro e w5 ⟨K5, X5, Z5, A5, m5, c5, rfl, b5⟩
    have B5 := hidE ((B4.out.trans (b5.mono B4.out.size)).alloc (Nat.le_trans B4.out.size b5.size) (.cells #[.int .i64 K5, .string X5, .int .i64 Z5, .slice A5 m5 c5] 31))
    clear b5 HQ2
    go_wp2_with fail
    go_ret
    exact ⟨rfl, B5.out⟩

theorem isPV_mem (Y : ByteArray) (t u : Ty) (y : Name) (hy : isPV Y.data.toList (.var y) = true) : y ∈ butA Y t u := by
  have h : y = Y.data.toList := by
    have hy2 : (y == Y.data.toList) = true := hy
    simpa using hy2
  rw [h]
  unfold butA
  simp
theorem nm_rawc (isP : Ty → Bool) (Y : ByteArray) (t u : Ty) (ht : t.size ≤ 400) (hu : u.size ≤ 400) (hnt : Nm t) (hnu : Nm u) (hv : ∀ x, isP (.var x) = true → x ∈ butA Y t u) :
    (raw isP u (numb 121 (butA Y t u) [] [] t 0).1).canonT = (putT isP t u).canonT ∧ Nm (raw isP u (numb 121 (butA Y t u) [] [] t 0).1).canonT ∧ (raw isP u (numb 121 (butA Y t u) [] [] t 0).1).size ≤ 1000000 ∧ (putT isP t u).size ≤ 1000000 ∧ Nm (putT isP t u) := by
  have h1 := canon_raw isP 121 (butA Y t u) t u (by omega) (by omega) hv (fun x hx => by unfold butA; simp [hx]) (fun x hx => by unfold butA; simp [hx]) (by have := (but_ok Y t u (by omega) (by omega)).1; omega)
  have h2 : (putT isP t u).size ≤ 1000000 := Nat.le_trans (size_putT _ _ _) (Nat.le_trans (Nat.mul_le_mul ht hu) (by decide))
  have h3 := nm_putT isP t u (by omega) (by omega) hnt hnu
  have h4 : (raw isP u (numb 121 (butA Y t u) [] [] t 0).1).size ≤ 1000000 := by
    have := raw_size isP u (numb 121 (butA Y t u) [] [] t 0).1
    rw [numb_size] at this
    exact Nat.le_trans this (Nat.le_trans (Nat.mul_le_mul ht hu) (by decide))
  exact ⟨h1, by rw [h1]; exact nm_canonT _ h3 h2, h4, h2, h3⟩

set_option maxHeartbeats 3200000 in
/-- where both are types, and short -/
theorem walk_yes (s r x : ByteArray) (n : Int) (t u : Ty) (hp : parse s.data.toList = .ok t) (hq : parse r.data.toList = .ok u) (w : World) (ht : Tab w) (hs : s.size ≤ maxLen) (hr : r.size ≤ maxLen) (c1 : s.size ≤ 400) (c2 : r.size ≤ 400) :
    Calls Tryz.prog 4 #[.string s, .string r, .string x, .int .i64 n] w fun e w' => e = .returned (.bool true) ∧ Below w.heap.size w w' := by
  have HT := hidE ht
  have HAW := hidE (tc_awake w ht)
  obtain ⟨hnt, -, hst, -⟩ := parse_nm _ _ hp
  obtain ⟨hnu, -, hsu, -⟩ := parse_nm _ _ hq
  have HP := hidE (fun w => tc_parseOk s t hp w hs)
  have HQ := hidE (fun w => tc_parseOk r u hq w hr)
  have HP2 := hidE (fun w => ref2_parseOk s t hp w hs)
  have HQ2 := hidE (fun w => ref2_parseOk r u hq w hr)
  have hss : s.data.toList.length = s.size := Array.length_toList
  have hrr : r.data.toList.length = r.size := Array.length_toList
  have g1 : ¬ (400 : Int) < (s.size : Int) := by omega
  have g2 : ¬ (400 : Int) < (r.size : Int) := by omega
  have zt : t.size ≤ 400 := by omega
  have zu : u.size ≤ 400 := by omega
  obtain ⟨v1, v2, v3, v4, v5⟩ := nm_rawc (isPV x.data.toList) x t u zt zu hnt hnu (fun y hy => isPV_mem x t u y hy)
  obtain ⟨m1, m2, m3, m4, m5⟩ := nm_rawc (isPM n) ⟨#[]⟩ t u zt zu hnt hnu (fun y hy => by simp [isPM] at hy)
  have F2 := hidE (fun W (S : Nat → Prop) v uv (h1 : RdN W t v) (h2 : RdN W u uv) => ref2_Put t u _ _ x v uv W (by omega) (by omega) h1 (fun _ h => h) h2 (fun _ h => h))
  have F3 := hidE (fun W (S : Nat → Prop) v uv (h1 : RdN W t v) (h2 : RdN W u uv) => ref2_Fill t u _ _ n v uv W (by omega) (by omega) h1 (fun _ h => h) h2 (fun _ h => h))
  have G1 := hidE (fun W v uv (ht : Tab W) (h1 : RdN W t v) (h2 : RdN W u uv) => rn_put h1 h2 hnt hnu (by omega) (by omega) ht x)
  have G2 := hidE (fun W v uv (ht : Tab W) (h1 : RdN W t v) (h2 : RdN W u uv) => rn_fill h1 h2 hnt hnu (by omega) (by omega) ht n)
  obtain ⟨P1, hP1⟩ : ∃ p, putT (isPV x.data.toList) t u = p := ⟨_, rfl⟩
  obtain ⟨P2, hP2⟩ : ∃ p, putT (isPM n) t u = p := ⟨_, rfl⟩
  obtain ⟨R1, hR1⟩ : ∃ p, raw (isPV x.data.toList) u (numb 121 (butA x t u) [] [] t 0).1 = p := ⟨_, rfl⟩
  obtain ⟨R2, hR2⟩ : ∃ p, raw (isPM n) u (numb 121 (butA ⟨#[]⟩ t u) [] [] t 0).1 = p := ⟨_, rfl⟩
  rw [hP1] at v1 v4 v5 G1
  rw [hP2] at m1 m4 m5 G2
  rw [hR1] at v1 v2 v3 F2
  rw [hR2] at m1 m2 m3 F3
  obtain ⟨C1, hC1⟩ : ∃ C : ByteArray, ⟨P1.canonT.print.toArray⟩ = C := ⟨_, rfl⟩
  obtain ⟨C2, hC2⟩ : ∃ C : ByteArray, ⟨P2.canonT.print.toArray⟩ = C := ⟨_, rfl⟩
  have HK1 := hidE (fun W v (ht : Tab W) (h : RdN W P1 v) => by have := rn_canon h v5 v4 ht; rw [hC1] at this; exact this)
  have HK2 := hidE (fun W v (ht : Tab W) (h : RdN W P2 v) => by have := rn_canon h m5 m4 ht; rw [hC2] at this; exact this)
  have HL1 := hidE (fun W v (S : Nat → Prop) (h : RdV S W R1 v) (hS : ∀ g, S g → g < W.heap.size) => by have := ref2_canon R1 S v W v3 v2 h hS; rw [v1, hC1] at this; exact this)
  have HL2 := hidE (fun W v (S : Nat → Prop) (h : RdV S W R2 v) (hS : ∀ g, S g → g < W.heap.size) => by have := ref2_canon R2 S v W m3 m2 h hS; rw [m1, hC2] at this; exact this)
  have ec1 := strT C1 C1 rfl
  have ec2 := strT C2 C2 rfl
  clear ht hp hq hs hr hnt hnu hst hsu hss hrr c1 c2 zt zu v1 v2 v3 v4 v5 m1 m2 m3 m4 m5 hP1 hP2 hR1 hR2 hC1 hC2
  go_enter Tryz.func4, Tryz.ntmps4
  go_wp2_with fail
  refine HAW.out.mono ?_
  rintro e w1 ⟨rfl, b1⟩
  have B1 := hidE b1
  clear b1 HAW
  go_wp2_with fail
  refine (HP.out w1).mono ?_
  rintro e w2 ⟨K, X, Z, A, m, c, rfl, hr, b2⟩
  obtain ⟨V2, hV2⟩ : ∃ V, w2.alloc (.cells #[.int .i64 K, .string X, .int .i64 Z, .slice A m c] 25) = V := ⟨_, rfl⟩
  have hbt := Bx.made hr
  have hb2 := (B1.out.trans (b2.mono B1.out.size)).alloc (Nat.le_trans B1.out.size b2.size) (.cells #[.int .i64 K, .string X, .int .i64 Z, .slice A m c] 25)
  rw [hV2] at hbt hb2
  have BT := hidE hbt
  have B2 := hidE hb2
  clear b2 hr hbt hb2 HP
  go_wp2_with fail
  refine (HQ.out V2).mono ?_
  rintro e w3 ⟨K3, X3, Z3, A3, m3, c3, rfl, hr, b3⟩
  obtain ⟨V3, hV3⟩ : ∃ V, w3.alloc (.cells #[.int .i64 K3, .string X3, .int .i64 Z3, .slice A3 m3 c3] 25) = V := ⟨_, rfl⟩
  have h3 := b3.alloc b3.size (.cells #[.int .i64 K3, .string X3, .int .i64 Z3, .slice A3 m3 c3] 25)
  have hbu := Bx.made hr
  rw [hV3] at h3 hbu
  have BU3 := hidE hbu
  have BT3 := hidE (BT.out.below h3)
  have B3 : Hid (Below w.heap.size w V3) := hidE (B2.out.trans (h3.mono B2.out.size))
  clear b3 h3 hr hbu HQ BT
  go_wp2_with fail
  refine (HP2.out V3).mono ?_
  rintro e w4 ⟨K4, X4, Z4, A4, m4, c4, rfl, hr, b4⟩
  obtain ⟨V4, hV4⟩ : ∃ V, w4.alloc (.cells #[.int .i64 K4, .string X4, .int .i64 Z4, .slice A4 m4 c4] 31) = V := ⟨_, rfl⟩
  have h4 := b4.alloc b4.size (.cells #[.int .i64 K4, .string X4, .int .i64 Z4, .slice A4 m4 c4] 31)
  have hbk : Blk (w4.alloc (.cells #[.int .i64 K4, .string X4, .int .i64 Z4, .slice A4 m4 c4] 31)) w4.heap.size 31 #[.int .i64 K4, .string X4, .int .i64 Z4, .slice A4 m4 c4] := heap_alloc_new _ _
  have hr4 : RdN w4 t (.agg #[.int .i64 K4, .string X4, .int .i64 Z4, .slice A4 m4 c4]) := hr
  have hr4' := hr4.below ((Below.refl w4.heap.size w4).alloc (Nat.le_refl _) (.cells #[.int .i64 K4, .string X4, .int .i64 Z4, .slice A4 m4 c4] 31))
  rw [hV4] at h4 hbk hr4'
  have BT4 := hidE (BT3.out.below h4)
  have BU4 := hidE (BU3.out.below h4)
  have BV4 := hidE hbk
  have RV4 := hidE hr4'
  have B4 : Hid (Below w.heap.size w V4) := hidE (B3.out.trans (h4.mono B3.out.size))
  clear b4 h4 hr hbk hr4 hr4' HP2 BT3 BU3
  go_wp2_with fail
  refine (HQ2.out V4).mono ?_
  rintro e w5 ⟨K5, X5, Z5, A5, m5, c5, rfl, hr, b5⟩
  obtain ⟨V5, hV5⟩ : ∃ V, w5.alloc (.cells #[.int .i64 K5, .string X5, .int .i64 Z5, .slice A5 m5 c5] 31) = V := ⟨_, rfl⟩
  have h5 := b5.alloc b5.size (.cells #[.int .i64 K5, .string X5, .int .i64 Z5, .slice A5 m5 c5] 31)
  have hbk : Blk (w5.alloc (.cells #[.int .i64 K5, .string X5, .int .i64 Z5, .slice A5 m5 c5] 31)) w5.heap.size 31 #[.int .i64 K5, .string X5, .int .i64 Z5, .slice A5 m5 c5] := heap_alloc_new _ _
  have hr5 : RdN w5 u (.agg #[.int .i64 K5, .string X5, .int .i64 Z5, .slice A5 m5 c5]) := hr
  have hr5' := hr5.below ((Below.refl w5.heap.size w5).alloc (Nat.le_refl _) (.cells #[.int .i64 K5, .string X5, .int .i64 Z5, .slice A5 m5 c5] 31))
  rw [hV5] at h5 hbk hr5'
  have BT5 := hidE (BT4.out.below h5)
  have BU5 := hidE (BU4.out.below h5)
  have BV5 := hidE (BV4.out.below h5 BV4.out.lt)
  have RV5 := hidE (RV4.out.below h5)
  have BW5 := hidE hbk
  have RW5 := hidE hr5'
  have B5 : Hid (Below w.heap.size w V5) := hidE (B4.out.trans (h5.mono B4.out.size))
  clear b5 h5 hr hbk hr5 hr5' HQ2 BT4 BU4 BV4 RV4
  obtain ⟨x0, x1, x2, x3⟩ := BT5.out.cells
  obtain ⟨y0, y1, y2, y3⟩ := BU5.out.cells
  have C1' := hidE (G1.out V5 _ _ (HT.out.below B5.out) BT5.out.rn BU5.out.rn)
  go_wp2_with fail
  refine C1'.out.mono ?_
  rintro e w6 ⟨K6, X6, Z6, A6, m6, c6, rfl, hr, b6⟩
  have B6 : Hid (Below w.heap.size w w6) := hidE (B5.out.trans (b6.mono B5.out.size))
  have C2' := hidE (HK1.out w6 _ (HT.out.below B6.out) hr)
  have Q6 := hidE b6
  clear b6 hr C1' x0 x1 x2 x3 y0 y1 y2 y3
  go_wp2_with fail
  refine C2'.out.mono ?_
  rintro e w7 ⟨rfl, b7⟩
  have B7 : Hid (Below w.heap.size w w7) := hidE (B6.out.trans (b7.mono B6.out.size))
  have hq7 := below_tr Q6.out b7
  have BT7 := hidE (BT5.out.below hq7)
  have BU7 := hidE (BU5.out.below hq7)
  have Q7 := hidE hq7
  obtain ⟨x0, x1, x2, x3⟩ := BT7.out.cells
  obtain ⟨y0, y1, y2, y3⟩ := BU7.out.cells
  have C3' := hidE (G2.out w7 _ _ (HT.out.below B7.out) BT7.out.rn BU7.out.rn)
  clear b7 hq7 C2'
  go_wp2_with fail
  refine C3'.out.mono ?_
  rintro e w8 ⟨K8, X8, Z8, A8, m8, c8, rfl, hr, b8⟩
  have B8 : Hid (Below w.heap.size w w8) := hidE (B7.out.trans (b8.mono B7.out.size))
  have C4' := hidE (HK2.out w8 _ (HT.out.below B8.out) hr)
  have Q8 := hidE (below_tr Q7.out b8)
  clear b8 hr C3' x0 x1 x2 x3 y0 y1 y2 y3
  go_wp2_with fail
  refine C4'.out.mono ?_
  rintro e w9 ⟨rfl, b9⟩
  have B9 : Hid (Below w.heap.size w w9) := hidE (B8.out.trans (b9.mono B8.out.size))
  have hq9 := below_tr Q8.out b9
  have RV9 := hidE (RV5.out.below hq9)
  have RW9 := hidE (RW5.out.below hq9)
  have Q9 := hidE hq9
  obtain ⟨x0, x1, x2, x3, -, -, -, -, -⟩ := blk_facts4 (BV5.out.below hq9 BV5.out.lt)
  obtain ⟨y0, y1, y2, y3, -, -, -, -, -⟩ := blk_facts4 (BW5.out.below hq9 BW5.out.lt)
  have C5' := hidE (F2.out w9 (fun _ => True) _ _ RV9.out RW9.out)
  clear b9 hq9 C4' BT7 BU7 BT5 BU5
  go_wp2_with fail
  refine C5'.out.mono ?_
  rintro e w10 ⟨b10, K6, X6, Z6, A6, m6, c6, rfl, hr⟩
  have B10 : Hid (Below w.heap.size w w10) := hidE (B9.out.trans (b10.mono B9.out.size))
  have hz10 := b10.size
  have C6' := hidE (HL1.out w10 _ _ hr (fun g hg => by rcases hg with hg | hg; (have hg : g < w9.heap.size := hg; omega); exact hg.2))
  have Q10 := hidE (below_tr Q9.out b10)
  clear b10 hr hz10 C5' x0 x1 x2 x3 y0 y1 y2 y3
  go_wp2_with fail
  refine C6'.out.mono ?_
  rintro e w11 ⟨rfl, b11⟩
  have B11 : Hid (Below w.heap.size w w11) := hidE (B10.out.trans (b11.mono B10.out.size))
  have hq11 := below_tr Q10.out b11
  have RV11 := hidE (RV5.out.below hq11)
  have RW11 := hidE (RW5.out.below hq11)
  obtain ⟨x0, x1, x2, x3, -, -, -, -, -⟩ := blk_facts4 (BV5.out.below hq11 BV5.out.lt)
  obtain ⟨y0, y1, y2, y3, -, -, -, -, -⟩ := blk_facts4 (BW5.out.below hq11 BW5.out.lt)
  have C7' := hidE (F3.out w11 (fun _ => True) _ _ RV11.out RW11.out)
  clear b11 hq11 C6'
  go_wp2_with fail
  refine C7'.out.mono ?_
  rintro e w12 ⟨b12, K8, X8, Z8, A8, m8, c8, rfl, hr⟩
  have B12 : Hid (Below w.heap.size w w12) := hidE (B11.out.trans (b12.mono B11.out.size))
  have hz12 := b12.size
  have C8' := hidE (HL2.out w12 _ _ hr (fun g hg => by rcases hg with hg | hg; (have hg : g < w11.heap.size := hg; omega); exact hg.2))
  clear b12 hr hz12 C7' x0 x1 x2 x3 y0 y1 y2 y3
  go_wp2_with fail
  refine C8'.out.mono ?_
  rintro e w13 ⟨rfl, b13⟩
  have B13 : Hid (Below w.heap.size w w13) := hidE (B12.out.trans (b13.mono B12.out.size))
  clear b13 C8'
  go_wp2_with fail
  go_ret
  exact ⟨rfl, B13.out⟩

theorem walk (s r x : ByteArray) (n : Int) (w : World) (ht : Tab w) (hs : s.size ≤ maxLen) (hr : r.size ≤ maxLen) (_ : x.size ≤ maxLen) {p1 : Prop} (_ : p1) :
    Calls Tryz.prog 4 #[.string s, .string r, .string x, .int .i64 n] w fun e w' => e = .returned (.bool true) ∧ Below w.heap.size w w' := by
  by_cases h : errN s.data.toList = 0 ∧ errN r.data.toList = 0 ∧ s.size ≤ 400 ∧ r.size ≤ 400
  · obtain ⟨t, e1⟩ := errN_zero h.1
    obtain ⟨u, e2⟩ := errN_zero h.2.1
    exact walk_yes s r x n t u e1 e2 w ht hs hr h.2.2.1 h.2.2.2
  · exact walk_no s r x n w ht hs hr h

/-! ### the row's step -/
theorem lifted (os : Os) (started : os.Started) (H : Type) (enc : TypeId × Value → H) :
    ReturnsInHanded {} Tryz.checked os 4 .any (fun w args => (Rows.typesPutsSpec.pre enc Tryz.prog Tryz.f4 Rows.typesPutsRow.domain false w args ∧ laidMetH Tryz.prog theLaid w) ∧ sizedMet enc Tryz.prog Tryz.f4 (OpenSpec.ofChange Rows.typesPutsSpec) false w args)
      (Rows.typesPutsSpec.post enc Tryz.prog Tryz.f4 false true false false) := by
  refine returnsInHanded_of_change_and (C := Tryz.checked) (X := fun w _ => laidMetH Tryz.prog theLaid w) (fun _ _ _ hh h => h.of_heap hh) ownK started (by kernel_rfl) Tryz.func4
    (ChangeSpec.witness_shaped (enc := enc) (C := Tryz.checked) (os := os) (X := fun w _ => laidMetH Tryz.prog theLaid w) false (World.laidAll Tryz.prog os theLaid) #[.string ⟨#[]⟩, .string ⟨#[]⟩, .string ⟨#[]⟩, .int .i64 0] 8 (World.laidAll_os _ _ _)
      (start_shaped os) (by kernel_rfl) (by kernel_rfl) (by kernel_rfl)
      (start_met os _)) ?_
  intro W base args ds gs before hval0 hW hc _ hL _
  have hval : ∀ (j : Nat) t v, Tryz.f4.params[j]? = some t → args[j]? = some v → Value.okWide Tryz.prog W .any base t v := hval0
  have hW' := hW
  obtain ⟨p, q, hA0, hV, rfl, _, _⟩ := hW
  have hA : DataW.TrodAll enc Tryz.prog W 0 (fun _ => true) true Tryz.f4.params.toList args.toList ds p := hA0
  rw [Tryz.params4] at hA hval
  obtain ⟨v0, vs0, d0, ds0, p0, q0, hg0, rfl, rfl, h0, r0⟩ := trodAll_cons hA
  obtain ⟨v1, vs1, d1, ds1, p1, q1, hg1, rfl, rfl, h1, r1⟩ := trodAll_cons r0
  obtain ⟨v2, vs2, d2, ds2, p2, q2, hg2, rfl, rfl, h2, r2⟩ := trodAll_cons r1
  obtain ⟨v3, vs3, d3, ds3, p3, q3, hg3, rfl, rfl, h3, r3⟩ := trodAll_cons r2
  obtain ⟨rfl, rfl, rfl⟩ := trodAll_nil r3
  subst hg3
  subst hg2
  subst hg1
  obtain rfl : args = #[v0, v1, v2, v3] := by cases args; simp_all
  obtain ⟨rfl, rfl⟩ := trodVars_none hV
  obtain ⟨a0, rfl, rfl, rfl, w0⟩ := open_string Tryz.underlying9 (hval 0 9 v0 rfl rfl) h0
  obtain ⟨a1, rfl, rfl, rfl, w1⟩ := open_string Tryz.underlying9 (hval 1 9 v1 rfl rfl) h1
  obtain ⟨a2, rfl, rfl, rfl, w2⟩ := open_string Tryz.underlying9 (hval 2 9 v2 rfl rfl) h2
  obtain ⟨a3, rfl, rfl, rfl, w3⟩ := open_int Tryz.underlying3 (hval 3 3 v3 rfl rfl) h3
  clear hA0 hval0
  simp only [List.append_nil] at hW'
  refine (walk a0 a1 a2 a3 W (tab_of_laid hL) w0 w1 w2 w3).mono fun e W' ⟨he, hg⟩ => ?_
  subst he
  exact ⟨_, rfl, _, _, _, [], [], [], hW', trodAll_cons_mk (shut_bool Tryz.underlying4 _) trodAll_mk0, (trodAll_cons_mk (shut_string Tryz.underlying9 w0) (trodAll_cons_mk (shut_string Tryz.underlying9 w1) (trodAll_cons_mk (shut_string Tryz.underlying9 w2) (trodAll_cons_mk (shut_int Tryz.underlying3 w3) trodAll_mk0)))), rfl, hg.frame _, fun h => by cases h⟩

theorem over : Rows.typesPutsRow.holds Tryz.pinned (OpenSpec.ofChange Rows.typesPutsSpec) :=
  OpenClaim.holds_of_wide 4 Tryz.f4 rfl rfl rfl rfl rfl rfl rfl ⟨rfl, rfl, rfl, rfl, rfl⟩ rfl rfl rfl rfl rfl (by kernel_rfl) Tryz.func4 (by kernel_rfl)
    (of_decide_eq_true (by kernel_rfl)) (by unfold Func.isWrapper; first | (rw [if_pos (by decide +kernel)]; kernel_rfl) | (rw [if_neg (by decide +kernel)]; exact ⟨rfl, rfl⟩))
    (fun os started H enc _ => lifted os started H enc)

/-- the statement: the tied card -/
theorem proved : Rows.TypesPutsCardSaid :=
  Claim7.holds_tied_plain_at .later [] [.data, .data, .data, .sentinel, .sentinel] true _ true
    over (fun _ h => by cases h) (by kernel_rfl) (fun _ h => by cases h) typesPuts_row_tie rfl ⟨rfl, rfl⟩ (by kernel_rfl) rfl
    (fun f fn hf hfn => by
      obtain rfl : f = 4 := Option.some.inj ((show Tryz.prog.funcNamed "savant/savantlaw02.TypesPuts" = some 4 by kernel_rfl).symm.trans hf) |>.symm
      obtain rfl : fn = Tryz.f4 := (Option.some.inj (Tryz.func4.symm.trans hfn)).symm
      exact ⟨by kernel_rfl, fun j t ht => by
        rw [Tryz.params4] at ht
        have hm : t ∈ [9, 9, 9, 3] := by
          simpa using Array.mem_of_getElem? ht
        have hall : ([9, 9, 9, 3].all fun u => !Tryz.prog.wantsStandIn u) = true := by kernel_rfl
        exact (show Tryz.prog.wantsStandIn t = false by simpa using List.all_eq_true.1 hall t hm)⟩)
    (by kernel_rfl)
#print axioms proved
end Go.Proofs.YthgkpmgcikopnaaGreatDoor.typesPuts
