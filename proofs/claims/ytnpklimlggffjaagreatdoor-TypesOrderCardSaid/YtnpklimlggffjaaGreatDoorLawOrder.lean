/-
  savantlaw02.TypesOrder, whatever the three texts and the two names: it answers true, and they are as they were. The card ties the library's tables to the program's text.
-/
import Derived.Test.YtnpklimlggffjaaGreatDoorBuX
import Derived.Test.YtnpklimlggffjaaGreatDoorCards
import Derived.Test.YtnpklimlggffjaaGreatDoorTie
import Derived.SevenTiedAt
namespace Go.Proofs.YtnpklimlggffjaaGreatDoor.typesOrder
open Go.ChangeShapes Go.WideShapes Go.ChangeAt Go.RowKit Lx Tx Go.Shelf
open Go.ChangeMaps (open_string shut_string)
set_option maxRecDepth 100000

set_option maxHeartbeats 3200000 in
/-- where the law asks nothing -/
theorem walk_no (s r q a b : ByteArray) (w : World) (ht : Tab w) (hs : s.size ≤ maxLen) (hr : r.size ≤ maxLen) (hq : q.size ≤ maxLen)
    (h : ¬ (errN s.data.toList = 0 ∧ errN r.data.toList = 0 ∧ errN q.data.toList = 0 ∧ a ≠ b ∧ s.size ≤ 300 ∧ r.size ≤ 300 ∧ q.size ≤ 300)) :
    Calls Tryz.prog 8 #[.string s, .string r, .string q, .string a, .string b] w fun e w' => e = .returned (.bool true) ∧ Below w.heap.size w w' := by
  have HAW := hidE (tc_awake w ht)
  have HP := hidE (fun w => tc_parseN s w hs)
  have HR := hidE (fun w => tc_parseN r w hr)
  have HQ := hidE (fun w => tc_parseN q w hq)
  obtain ⟨n1, hn1⟩ : ∃ n, errN s.data.toList = n := ⟨_, rfl⟩
  obtain ⟨n2, hn2⟩ : ∃ n, errN r.data.toList = n := ⟨_, rfl⟩
  obtain ⟨n3, hn3⟩ : ∃ n, errN q.data.toList = n := ⟨_, rfl⟩
  rw [hn1] at HP h
  rw [hn2] at HR h
  rw [hn3] at HQ h
  have HH := hidE h
  clear ht hs hr hq hn1 hn2 hn3 h
  go_enter Tryz.func8, Tryz.ntmps8
  go_wp2_with fail
  refine HAW.out.mono ?_
  rintro e w1 ⟨rfl, b1⟩
  have B1 := hidE b1
  clear b1 HAW
  go_wp2_with fail
  refine (HP.out w1).mono ?_
  rintro e w2 ⟨K, X, Z, A, m, c, rfl, b2⟩
  have B2 := hidE ((B1.out.trans (b2.mono B1.out.size)).alloc (Nat.le_trans B1.out.size b2.size) (.cells #[.int .i64 K, .string X, .int .i64 Z, .slice A m c] 25))
  clear b2 HP
  go_wp2_with fail
  refine (HR.out _).mono ?_
  rintro e w3 ⟨K3, X3, Z3, A3, m3, c3, rfl, b3⟩
  have B3 := hidE ((B2.out.trans (b3.mono B2.out.size)).alloc (Nat.le_trans B2.out.size b3.size) (.cells #[.int .i64 K3, .string X3, .int .i64 Z3, .slice A3 m3 c3] 25))
  clear b3 HR
  go_wp2_with fail
  refine (HQ.out _).mono ?_
  rintro e w4 ⟨K4, X4, Z4, A4, m4, c4, rfl, b4⟩
  have B4 := hidE ((B3.out.trans (b4.mono B3.out.size)).alloc (Nat.le_trans B3.out.size b4.size) (.cells #[.int .i64 K4, .string X4, .int .i64 Z4, .slice A4 m4 c4] 25))
  clear b4 HQ
  by_cases h1 : n1 = 0
  · subst h1
    by_cases h2 : n2 = 0
    · subst h2
      by_cases h3 : n3 = 0
      · subst h3
        by_cases h4 : a = b
        · have e4 : (a.toList == b.toList) = true := strT a b h4
          clear h4
          go_wp2_with fail
          go_ret
          exact ⟨rfl, B4.out⟩
        · have e4 : (a.toList == b.toList) = false := strF a b h4
          by_cases h5 : s.size ≤ 300
          · have g5 : ¬ (300 : Int) < (s.size : Int) := by omega
            by_cases h6 : r.size ≤ 300
            · have g6 : ¬ (300 : Int) < (r.size : Int) := by omega
              have h7 : ¬ q.size ≤ 300 := fun h7 => HH.out ⟨rfl, rfl, rfl, h4, h5, h6, h7⟩
              have g7 : (300 : Int) < (q.size : Int) := by omega
              clear h4 h5 h6 h7
              go_wp2_with fail
              go_ret
              exact ⟨rfl, B4.out⟩
            · have g6 : (300 : Int) < (r.size : Int) := by omega
              clear h4 h5 h6
              go_wp2_with fail
              go_ret
              exact ⟨rfl, B4.out⟩
          · have g5 : (300 : Int) < (s.size : Int) := by omega
            clear h4 h5
            go_wp2_with fail
            go_ret
            exact ⟨rfl, B4.out⟩
      · have e3 : ((n3 : Int) == 0) = false := kF n3 0 h3
        go_wp2_with fail
        go_ret
        exact ⟨rfl, B4.out⟩
    · have e2 : ((n2 : Int) == 0) = false := kF n2 0 h2
      go_wp2_with fail
      go_ret
      exact ⟨rfl, B4.out⟩
  · have e1 : ((n1 : Int) == 0) = false := kF n1 0 h1
    go_wp2_with fail
    go_ret
    exact ⟨rfl, B4.out⟩

theorem free_mem (t : Ty) (x : Name) : x ∈ t.free ↔ FvOcc x (db [] t) := by rw [← freeL_eq]; exact freeL_mem t x
theorem free_short (t : Ty) (h : t.size ≤ 300) : t.free.length ≤ 100000 := by rw [← freeL_eq]; have := freeL_len t; omega

set_option maxHeartbeats 6400000 in
/-- where it asks -/
theorem walk_yes (s r q a b : ByteArray) (t u v : Ty) (hp : parse s.data.toList = .ok t) (hp2 : parse r.data.toList = .ok u) (hp3 : parse q.data.toList = .ok v) (w : World) (ht : Tab w) (hs : s.size ≤ maxLen) (hr : r.size ≤ maxLen) (hq : q.size ≤ maxLen)
    (hab : a ≠ b) (c1 : s.size ≤ 300) (c2 : r.size ≤ 300) (c3 : q.size ≤ 300) :
    Calls Tryz.prog 8 #[.string s, .string r, .string q, .string a, .string b] w fun e w' => e = .returned (.bool true) ∧ Below w.heap.size w w' := by
  have HT := hidE ht
  have HAW := hidE (tc_awake w ht)
  obtain ⟨hnt, -, hst, -⟩ := parse_nm _ _ hp
  obtain ⟨hnu, -, hsu, -⟩ := parse_nm _ _ hp2
  obtain ⟨hnv, -, hsv, -⟩ := parse_nm _ _ hp3
  have HP := hidE (fun w => tc_parseOk s t hp w hs)
  have HR := hidE (fun w => tc_parseOk r u hp2 w hr)
  have HQ := hidE (fun w => tc_parseOk q v hp3 w hq)
  have e1 : s.data.toList.length = s.size := Array.length_toList
  have e2 : r.data.toList.length = r.size := Array.length_toList
  have e3 : q.data.toList.length = q.size := Array.length_toList
  have zt : t.size ≤ 300 := by omega
  have zu : u.size ≤ 300 := by omega
  have zv : v.size ≤ 300 := by omega
  have e4 : (a.toList == b.toList) = false := strF a b hab
  have g1 : ¬ (300 : Int) < (s.size : Int) := by omega
  have g2 : ¬ (300 : Int) < (r.size : Int) := by omega
  have g3 : ¬ (300 : Int) < (q.size : Int) := by omega
  have hab' : a.data.toList ≠ b.data.toList := fun e => hab (ByteArray.ext (by simpa using e))
  have HNT := hidE hnt
  have HNU := hidE hnu
  have HNV := hidE hnv
  have HZT := hidE zt
  have HZU := hidE zu
  have HZV := hidE zv
  have HAB := hidE hab'
  clear ht hp hp2 hp3 hs hr hq hnt hnu hnv hst hsu hsv e1 e2 e3 zt zu zv hab hab' c1 c2 c3
  go_enter Tryz.func8, Tryz.ntmps8
  go_wp2_with fail
  refine HAW.out.mono ?_
  rintro e w1 ⟨rfl, b1⟩
  have B1 := hidE b1
  clear b1 HAW
  go_wp2_with fail
  refine (HP.out w1).mono ?_
  rintro e w2 ⟨K, X, Z, A, m, c, rfl, hr, b2⟩
  obtain ⟨V2, hV2⟩ : ∃ V, w2.alloc (.cells #[.int .i64 K, .string X, .int .i64 Z, .slice A m c] 25) = V := ⟨_, rfl⟩
  have hbt := Bx.made hr
  have hb2 := (B1.out.trans (b2.mono B1.out.size)).alloc (Nat.le_trans B1.out.size b2.size) (.cells #[.int .i64 K, .string X, .int .i64 Z, .slice A m c] 25)
  rw [hV2] at hbt hb2
  have BT := hidE hbt
  have B2 := hidE hb2
  clear b2 hr hbt hb2 HP
  go_wp2_with fail
  refine (HR.out V2).mono ?_
  rintro e w3 ⟨K3, X3, Z3, A3, m3, c3, rfl, hr, b3⟩
  obtain ⟨V3, hV3⟩ : ∃ V, w3.alloc (.cells #[.int .i64 K3, .string X3, .int .i64 Z3, .slice A3 m3 c3] 25) = V := ⟨_, rfl⟩
  have h3 := b3.alloc b3.size (.cells #[.int .i64 K3, .string X3, .int .i64 Z3, .slice A3 m3 c3] 25)
  have hbu := Bx.made hr
  rw [hV3] at h3 hbu
  have BU := hidE hbu
  have BT3 := hidE (BT.out.below h3)
  have B3 : Hid (Below w.heap.size w V3) := hidE (B2.out.trans (h3.mono B2.out.size))
  clear b3 h3 hr hbu HR BT
  go_wp2_with fail
  refine (HQ.out V3).mono ?_
  rintro e w4 ⟨K4, X4, Z4, A4, m4, c4, rfl, hr, b4⟩
  obtain ⟨V4, hV4⟩ : ∃ V, w4.alloc (.cells #[.int .i64 K4, .string X4, .int .i64 Z4, .slice A4 m4 c4] 25) = V := ⟨_, rfl⟩
  have h4 := b4.alloc b4.size (.cells #[.int .i64 K4, .string X4, .int .i64 Z4, .slice A4 m4 c4] 25)
  have hbv := Bx.made hr
  rw [hV4] at h4 hbv
  have BV := hidE hbv
  have BT4 := hidE (BT3.out.below h4)
  have BU4 := hidE (BU.out.below h4)
  have B4 : Hid (Below w.heap.size w V4) := hidE (B3.out.trans (h4.mono B3.out.size))
  obtain ⟨x0, x1, x2, x3⟩ := BU4.out.cells
  have HFU := hidE (rn_free BU4.out.rn HNU.out (by have := HZU.out; omega))
  unfold FreePst at HFU
  obtain ⟨nu, hnu⟩ : ∃ n, u.free.length = n := ⟨_, rfl⟩
  have HNL := hidE hnu
  rw [hnu] at HFU
  clear b4 h4 hr hbv hnu HQ BT3 BU
  go_wp2_with fail
  refine HFU.out.mono ?_
  rintro e w5 ⟨A5, c5, rfl, hrow, b5⟩
  have BT5 := hidE (BT4.out.below b5)
  have BU5 := hidE (BU4.out.below b5)
  have BV5 := hidE (BV.out.below b5)
  have B5 : Hid (Below w.heap.size w w5) := hidE (B4.out.trans (b5.mono B4.out.size))
  have HHU := hidE (ref2_has _ u.free b w5 hrow (free_short u HZU.out))
  clear b5 hrow HFU BT4 BU4 BV
  obtain ⟨q1, hq1⟩ : ∃ q, decide (b.data.toList ∈ u.free) = q := ⟨_, rfl⟩
  rw [hq1] at HHU
  have HQ1 := hidE hq1
  clear hq1
  go_wp2_with fail
  refine HHU.out.mono ?_
  rintro e w6 ⟨rfl, rfl⟩
  obtain ⟨y0, y1, y2, y3⟩ := BV5.out.cells
  have HFV := hidE (rn_free BV5.out.rn HNV.out (by have := HZV.out; omega))
  unfold FreePst at HFV
  obtain ⟨nv, hnv⟩ : ∃ n, v.free.length = n := ⟨_, rfl⟩
  have HNL2 := hidE hnv
  rw [hnv] at HFV
  clear hnv HHU
  go_wp2_with fail
  refine HFV.out.mono ?_
  rintro e w7 ⟨A7, c7, rfl, hrow, b7⟩
  have BT7 := hidE (BT5.out.below b7)
  have BU7 := hidE (BU5.out.below b7)
  have BV7 := hidE (BV5.out.below b7)
  have B7 : Hid (Below w.heap.size w w7) := hidE (B5.out.trans (b7.mono B5.out.size))
  have HHV := hidE (ref2_has _ v.free a w7 hrow (free_short v HZV.out))
  clear b7 hrow HFV BT5 BU5 BV5
  obtain ⟨q2, hq2⟩ : ∃ q, decide (a.data.toList ∈ v.free) = q := ⟨_, rfl⟩
  rw [hq2] at HHV
  have HQ2 := hidE hq2
  clear hq2
  go_wp2_with fail
  refine HHV.out.mono ?_
  rintro e w8 ⟨rfl, rfl⟩
  clear HHV
  cases q1 with
  | true =>
    go_wp2_with fail
    go_ret
    exact ⟨rfl, B7.out⟩
  | false =>
    cases q2 with
    | true =>
      go_wp2_with fail
      go_ret
      exact ⟨rfl, B7.out⟩
    | false =>
      have hU : ¬ FvOcc b.data.toList (db [] u) := fun h => by have := HQ1.out; rw [decide_eq_true ((free_mem u _).2 h)] at this; cases this
      have hV : ¬ FvOcc a.data.toList (db [] v) := fun h => by have := HQ2.out; rw [decide_eq_true ((free_mem v _).2 h)] at this; cases this
      have zt : t.size ≤ 1000000 := by have := HZT.out; omega
      have zu : u.size ≤ 1000000 := by have := HZU.out; omega
      have zv : v.size ≤ 1000000 := by have := HZV.out; omega
      obtain ⟨T1, hT1⟩ : ∃ T, putT (isPV a.data.toList) t u = T := ⟨_, rfl⟩
      obtain ⟨T3, hT3⟩ : ∃ T, putT (isPV b.data.toList) t v = T := ⟨_, rfl⟩
      have z1 : T1.size ≤ 90000 := by rw [← hT1]; exact Nat.le_trans (size_putT _ _ _) (Nat.le_trans (Nat.mul_le_mul HZT.out HZU.out) (by decide))
      have z3 : T3.size ≤ 90000 := by rw [← hT3]; exact Nat.le_trans (size_putT _ _ _) (Nat.le_trans (Nat.mul_le_mul HZT.out HZV.out) (by decide))
      have n1 : Nm T1 := by rw [← hT1]; exact nm_putT _ t u zt zu HNT.out HNU.out
      have n3 : Nm T3 := by rw [← hT3]; exact nm_putT _ t v zt zv HNT.out HNV.out
      have d1 : db [] T1 = subD a.data.toList (db [] u) (db [] t) := by rw [← hT1]; exact db_putV _ t u zt zu
      have d3 : db [] T3 = subD b.data.toList (db [] v) (db [] t) := by rw [← hT3]; exact db_putV _ t v zt zv
      obtain ⟨T2, hT2⟩ : ∃ T, putT (isPV b.data.toList) T1 v = T := ⟨_, rfl⟩
      obtain ⟨T4, hT4⟩ : ∃ T, putT (isPV a.data.toList) T3 u = T := ⟨_, rfl⟩
      have z2 : T2.size ≤ 100000000 := by rw [← hT2]; exact Nat.le_trans (size_putT _ _ _) (Nat.le_trans (Nat.mul_le_mul z1 HZV.out) (by decide))
      have n2 : Nm T2 := by rw [← hT2]; exact nm_putT _ T1 v (by omega) zv n1 HNV.out
      have n4 : Nm T4 := by rw [← hT4]; exact nm_putT _ T3 u (by omega) zu n3 HNU.out
      have d24 : db [] T2 = db [] T4 := by
        rw [← hT2, ← hT4, db_putV _ T1 v (by omega) zv, db_putV _ T3 u (by omega) zu, d1, d3]
        exact subD_comm _ _ _ _ _ HAB.out hU hV
      have B0 : Hid (Below w7.heap.size w7 w7.drew) := hidE (Below.refl _ w7).drew
      have tb : ∀ W, Below w7.heap.size w7 W → Tab W := fun W h => HT.out.below (B7.out.trans (h.mono B7.out.size))
      have C1 := hidE (fun W (h : Below w7.heap.size w7 W) => by have := rn_put (BT7.out.rn.below h) (BU7.out.rn.below h) HNT.out HNU.out zt zu (tb W h) a; rw [hT1] at this; exact this)
      have C3 := hidE (fun W (h : Below w7.heap.size w7 W) => by have := rn_put (BT7.out.rn.below h) (BV7.out.rn.below h) HNT.out HNV.out zt zv (tb W h) b; rw [hT3] at this; exact this)
      have C2 := hidE (fun W p (h : Below w7.heap.size w7 W) (hp : RdN W T1 p) => by have := rn_put hp (BV7.out.rn.below h) n1 HNV.out (by omega) zv (tb W h) b; rw [hT2] at this; exact this)
      have C4 := hidE (fun W p (h : Below w7.heap.size w7 W) (hp : RdN W T3 p) => by have := rn_put hp (BU7.out.rn.below h) n3 HNU.out (by omega) zu (tb W h) a; rw [hT4] at this; exact this)
      have C5 := hidE (fun W p p' (hp : RdN W T2 p) (hp' : RdN W T4 p') => rn_same hp hp' n2 n4 z2 d24)
      have SOF : Hid (∀ W, Below w7.heap.size w7 W → (W.cell? ⟨w2.heap.size, 0, none⟩ = some (.int .i64 K) ∧ W.cell? ⟨w2.heap.size, 1, none⟩ = some (.string X) ∧ W.cell? ⟨w2.heap.size, 2, none⟩ = some (.int .i64 Z) ∧ W.cell? ⟨w2.heap.size, 3, none⟩ = some (.slice A m c) ∧
          W.cell? ⟨w3.heap.size, 0, none⟩ = some (.int .i64 K3) ∧ W.cell? ⟨w3.heap.size, 1, none⟩ = some (.string X3) ∧ W.cell? ⟨w3.heap.size, 2, none⟩ = some (.int .i64 Z3) ∧ W.cell? ⟨w3.heap.size, 3, none⟩ = some (.slice A3 m3 c3) ∧
          W.cell? ⟨w4.heap.size, 0, none⟩ = some (.int .i64 K4) ∧ W.cell? ⟨w4.heap.size, 1, none⟩ = some (.string X4) ∧ W.cell? ⟨w4.heap.size, 2, none⟩ = some (.int .i64 Z4) ∧ W.cell? ⟨w4.heap.size, 3, none⟩ = some (.slice A4 m4 c4))) :=
        hidE fun W h => by
          have t1 := (BT7.out.below h).cells
          have t2 := (BU7.out.below h).cells
          have t3 := (BV7.out.below h).cells
          exact ⟨t1.1, t1.2.1, t1.2.2.1, t1.2.2.2, t2.1, t2.2.1, t2.2.2.1, t2.2.2.2, t3.1, t3.2.1, t3.2.2.1, t3.2.2.2⟩
      clear hU hV zt zu zv hT1 hT2 hT3 hT4 z1 z2 z3 n1 n2 n3 n4 d1 d3 d24 tb
      go_wp2_with fail
      go_region_held3 (fun W => W.cell? ⟨w2.heap.size, 0, none⟩ = some (.int .i64 K) ∧ W.cell? ⟨w2.heap.size, 1, none⟩ = some (.string X) ∧ W.cell? ⟨w2.heap.size, 2, none⟩ = some (.int .i64 Z) ∧ W.cell? ⟨w2.heap.size, 3, none⟩ = some (.slice A m c) ∧
          W.cell? ⟨w3.heap.size, 0, none⟩ = some (.int .i64 K3) ∧ W.cell? ⟨w3.heap.size, 1, none⟩ = some (.string X3) ∧ W.cell? ⟨w3.heap.size, 2, none⟩ = some (.int .i64 Z3) ∧ W.cell? ⟨w3.heap.size, 3, none⟩ = some (.slice A3 m3 c3) ∧
          W.cell? ⟨w4.heap.size, 0, none⟩ = some (.int .i64 K4) ∧ W.cell? ⟨w4.heap.size, 1, none⟩ = some (.string X4) ∧ W.cell? ⟨w4.heap.size, 2, none⟩ = some (.int .i64 Z4) ∧ W.cell? ⟨w4.heap.size, 3, none⟩ = some (.slice A4 m4 c4)) (first | (with_reducible exact SOF.out _ B0.out))
        ((first
          | ((with_reducible refine (C1.out _ B0.out).mono ?_); rintro e w9 ⟨k9, x9, z9, a9, m9, q9, rfl, hr9, b9⟩; (try replace R2 := hidE (R2.out.below b9)); (try replace R3 := hidE (R3.out.below b9)); (try replace R4 := hidE (R4.out.below b9)); have R1 := hidE hr9; replace B0 := hidE (below_tr B0.out b9); clear hr9 b9)
          | ((with_reducible refine (C3.out _ B0.out).mono ?_); rintro e w9 ⟨k9, x9, z9, a9, m9, q9, rfl, hr9, b9⟩; (try replace R1 := hidE (R1.out.below b9)); (try replace R2 := hidE (R2.out.below b9)); (try replace R4 := hidE (R4.out.below b9)); have R3 := hidE hr9; replace B0 := hidE (below_tr B0.out b9); clear hr9 b9)
          | ((with_reducible refine (C2.out _ _ B0.out R1.out).mono ?_); rintro e w9 ⟨k9, x9, z9, a9, m9, q9, rfl, hr9, b9⟩; (try replace R1 := hidE (R1.out.below b9)); (try replace R3 := hidE (R3.out.below b9)); (try replace R4 := hidE (R4.out.below b9)); have R2 := hidE hr9; replace B0 := hidE (below_tr B0.out b9); clear hr9 b9)
          | ((with_reducible refine (C4.out _ _ B0.out R3.out).mono ?_); rintro e w9 ⟨k9, x9, z9, a9, m9, q9, rfl, hr9, b9⟩; (try replace R1 := hidE (R1.out.below b9)); (try replace R2 := hidE (R2.out.below b9)); (try replace R3 := hidE (R3.out.below b9)); have R4 := hidE hr9; replace B0 := hidE (below_tr B0.out b9); clear hr9 b9)
          | ((with_reducible refine (C5.out _ _ _ R2.out R4.out).mono ?_); rintro e w9 ⟨rfl, b9⟩; replace B0 := hidE (below_tr B0.out b9); clear b9)))
      all_goals
        go_wp2_with fail
        go_ret
        exact ⟨rfl, B7.out.trans (B0.out.mono B7.out.size)⟩

theorem walk (s r q a b : ByteArray) (w : World) (ht : Tab w) (hs : s.size ≤ maxLen) (hr : r.size ≤ maxLen) (hq : q.size ≤ maxLen) (_ : a.size ≤ maxLen) (_ : b.size ≤ maxLen) :
    Calls Tryz.prog 8 #[.string s, .string r, .string q, .string a, .string b] w fun e w' => e = .returned (.bool true) ∧ Below w.heap.size w w' := by
  by_cases h : errN s.data.toList = 0 ∧ errN r.data.toList = 0 ∧ errN q.data.toList = 0 ∧ a ≠ b ∧ s.size ≤ 300 ∧ r.size ≤ 300 ∧ q.size ≤ 300
  · obtain ⟨h1, h2, h3, h4, h5, h6, h7⟩ := h
    obtain ⟨t, e1⟩ := errN_zero h1
    obtain ⟨u, e2⟩ := errN_zero h2
    obtain ⟨v, e3⟩ := errN_zero h3
    exact walk_yes s r q a b t u v e1 e2 e3 w ht hs hr hq h4 h5 h6 h7
  · exact walk_no s r q a b w ht hs hr hq h

/-! ### the row's step -/
theorem lifted (os : Os) (started : os.Started) (H : Type) (enc : TypeId × Value → H) :
    ReturnsInHanded {} Tryz.checked os 8 .any (fun w args => (Rows.typesOrderSpec.pre enc Tryz.prog Tryz.f8 Rows.typesOrderRow.domain false w args ∧ laidMetH Tryz.prog theLaid w) ∧ sizedMet enc Tryz.prog Tryz.f8 (OpenSpec.ofChange Rows.typesOrderSpec) false w args)
      (Rows.typesOrderSpec.post enc Tryz.prog Tryz.f8 false true false false) := by
  refine returnsInHanded_of_change_and (C := Tryz.checked) (X := fun w _ => laidMetH Tryz.prog theLaid w) (fun _ _ _ hh h => h.of_heap hh) ownK started (by kernel_rfl) Tryz.func8
    (ChangeSpec.witness_shaped (enc := enc) (C := Tryz.checked) (os := os) (X := fun w _ => laidMetH Tryz.prog theLaid w) false (World.laidAll Tryz.prog os theLaid) #[.string ⟨#[]⟩, .string ⟨#[]⟩, .string ⟨#[]⟩, .string ⟨#[]⟩, .string ⟨#[]⟩] 8 (World.laidAll_os _ _ _)
      (start_shaped os) (by kernel_rfl) (by kernel_rfl) (by kernel_rfl)
      (start_met os _)) ?_
  intro W base args ds gs before hval0 hW hc _ hL _
  have hval : ∀ (j : Nat) t v, Tryz.f8.params[j]? = some t → args[j]? = some v → Value.okWide Tryz.prog W .any base t v := hval0
  have hW' := hW
  obtain ⟨p, q, hA0, hV, rfl, _, _⟩ := hW
  have hA : DataW.TrodAll enc Tryz.prog W 0 (fun _ => true) true Tryz.f8.params.toList args.toList ds p := hA0
  rw [Tryz.params8] at hA hval
  obtain ⟨v0, vs0, d0, ds0, p0, q0, hg0, rfl, rfl, h0, r0⟩ := trodAll_cons hA
  obtain ⟨v1, vs1, d1, ds1, p1, q1, hg1, rfl, rfl, h1, r1⟩ := trodAll_cons r0
  obtain ⟨v2, vs2, d2, ds2, p2, q2, hg2, rfl, rfl, h2, r2⟩ := trodAll_cons r1
  obtain ⟨v3, vs3, d3, ds3, p3, q3, hg3, rfl, rfl, h3, r3⟩ := trodAll_cons r2
  obtain ⟨v4, vs4, d4, ds4, p4, q4, hg4, rfl, rfl, h4, r4⟩ := trodAll_cons r3
  obtain ⟨rfl, rfl, rfl⟩ := trodAll_nil r4
  subst hg4
  subst hg3
  subst hg2
  subst hg1
  obtain rfl : args = #[v0, v1, v2, v3, v4] := by cases args; simp_all
  obtain ⟨rfl, rfl⟩ := trodVars_none hV
  obtain ⟨a0, rfl, rfl, rfl, w0⟩ := open_string Tryz.underlying9 (hval 0 9 v0 rfl rfl) h0
  obtain ⟨a1, rfl, rfl, rfl, w1⟩ := open_string Tryz.underlying9 (hval 1 9 v1 rfl rfl) h1
  obtain ⟨a2, rfl, rfl, rfl, w2⟩ := open_string Tryz.underlying9 (hval 2 9 v2 rfl rfl) h2
  obtain ⟨a3, rfl, rfl, rfl, w3⟩ := open_string Tryz.underlying9 (hval 3 9 v3 rfl rfl) h3
  obtain ⟨a4, rfl, rfl, rfl, w4⟩ := open_string Tryz.underlying9 (hval 4 9 v4 rfl rfl) h4
  clear hA0 hval0
  simp only [List.append_nil] at hW'
  refine (walk a0 a1 a2 a3 a4 W (tab_of_laid hL) w0 w1 w2 w3 w4).mono fun e W' ⟨he, hg⟩ => ?_
  subst he
  exact ⟨_, rfl, _, _, _, [], [], [], hW', trodAll_cons_mk (shut_bool Tryz.underlying4 _) trodAll_mk0, (trodAll_cons_mk (shut_string Tryz.underlying9 w0) (trodAll_cons_mk (shut_string Tryz.underlying9 w1) (trodAll_cons_mk (shut_string Tryz.underlying9 w2) (trodAll_cons_mk (shut_string Tryz.underlying9 w3) (trodAll_cons_mk (shut_string Tryz.underlying9 w4) trodAll_mk0))))), rfl, hg.frame _, fun h => by cases h⟩

theorem over : Rows.typesOrderRow.holds Tryz.pinned (OpenSpec.ofChange Rows.typesOrderSpec) :=
  OpenClaim.holds_of_wide 8 Tryz.f8 rfl rfl rfl rfl rfl rfl rfl ⟨rfl, rfl, rfl, rfl, rfl⟩ rfl rfl rfl rfl rfl (by kernel_rfl) Tryz.func8 (by kernel_rfl)
    (of_decide_eq_true (by kernel_rfl)) (by unfold Func.isWrapper; first | (rw [if_pos (by decide +kernel)]; kernel_rfl) | (rw [if_neg (by decide +kernel)]; exact ⟨rfl, rfl⟩))
    (fun os started H enc _ => lifted os started H enc)

/-- the statement: the tied card -/
theorem proved : Rows.TypesOrderCardSaid :=
  Claim7.holds_tied_plain_at .later [] [.data, .data, .data, .sentinel, .sentinel] true _ true
    over (fun _ h => by cases h) (by kernel_rfl) (fun _ h => by cases h) typesOrder_row_tie rfl ⟨rfl, rfl⟩ (by kernel_rfl) rfl
    (fun f fn hf hfn => by
      obtain rfl : f = 8 := Option.some.inj ((show Tryz.prog.funcNamed "savant/savantlaw02.TypesOrder" = some 8 by kernel_rfl).symm.trans hf) |>.symm
      obtain rfl : fn = Tryz.f8 := (Option.some.inj (Tryz.func8.symm.trans hfn)).symm
      exact ⟨by kernel_rfl, fun j t ht => by
        rw [Tryz.params8] at ht
        have hm : t ∈ [9, 9, 9, 9, 9] := by
          simpa using Array.mem_of_getElem? ht
        have hall : ([9, 9, 9, 9, 9].all fun u => !Tryz.prog.wantsStandIn u) = true := by kernel_rfl
        exact (show Tryz.prog.wantsStandIn t = false by simpa using List.all_eq_true.1 hall t hm)⟩)
    (by kernel_rfl)
#print axioms proved
end Go.Proofs.YtnpklimlggffjaaGreatDoor.typesOrder
