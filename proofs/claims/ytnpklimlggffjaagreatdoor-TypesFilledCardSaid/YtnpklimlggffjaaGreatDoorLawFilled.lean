/-
  savantlaw02.TypesFilled, whatever the three texts and the two numbers: it answers true, and they are as they were. The card ties the library's tables to the program's text.
-/
import Derived.Test.YtnpklimlggffjaaGreatDoorBvA
import Derived.Test.YtnpklimlggffjaaGreatDoorCards
import Derived.Test.YtnpklimlggffjaaGreatDoorTie
import Derived.SevenTiedAt
import Derived.Deep.Cut
import Derived.Deep.CutRange
namespace Go.Proofs.YtnpklimlggffjaaGreatDoor.typesFilled
open Go.ChangeShapes Go.WideShapes Go.ChangeAt Go.RowKit Lx Tx Go.Shelf
open Go.ChangeMaps (open_string shut_string)
set_option maxRecDepth 100000

set_option maxHeartbeats 3200000 in
/-- where the law asks nothing -/
theorem walk_no (s r q : ByteArray) (a b : Int) (w : World) (ht : Tab w) (hs : s.size ≤ maxLen) (hr : r.size ≤ maxLen) (hq : q.size ≤ maxLen)
    (h : ¬ (errN s.data.toList = 0 ∧ errN r.data.toList = 0 ∧ errN q.data.toList = 0 ∧ a ≠ b ∧ s.size ≤ 300 ∧ r.size ≤ 300 ∧ q.size ≤ 300)) :
    Calls Tryz.prog 10 #[.string s, .string r, .string q, .int .i64 a, .int .i64 b] w fun e w' => e = .returned (.bool true) ∧ Below w.heap.size w w' := by
  have HAW := hidE (tc_awake w ht)
  have HP := hidE (fun w => tc_parseN s w hs)
  have HR := hidE (fun w => tc_parseN r w hr)
  have HQ := hidE (fun w => tc_parseN q w hq)
  obtain ⟨n1, hn1⟩ : ∃ n, errN s.data.toList = n := ⟨_, rfl⟩
  obtain ⟨n2, hn2⟩ : ∃ n, errN r.data.toList = n := ⟨_, rfl⟩
  obtain ⟨n3, hn3⟩ : ∃ n, errN q.data.toList = n := ⟨_, rfl⟩
  rw [hn1] at HP h
  rw [hn2] at HR h
  rw [hn3] at HQ h
  have HH := hidE h
  clear ht hs hr hq hn1 hn2 hn3 h
  go_enter Tryz.func10, Tryz.ntmps10
  go_wp2_with fail
  refine HAW.out.mono ?_
  rintro e w1 ⟨rfl, b1⟩
  have B1 := hidE b1
  clear b1 HAW
  go_wp2_with fail
  refine (HP.out w1).mono ?_
  rintro e w2 ⟨K, X, Z, A, m, c, rfl, b2⟩
  have B2 := hidE ((B1.out.trans (b2.mono B1.out.size)).alloc (Nat.le_trans B1.out.size b2.size) (.cells #[.int .i64 K, .string X, .int .i64 Z, .slice A m c] 25))
  clear b2 HP
  go_wp2_with fail
  refine (HR.out _).mono ?_
  rintro e w3 ⟨K3, X3, Z3, A3, m3, c3, rfl, b3⟩
  have B3 := hidE ((B2.out.trans (b3.mono B2.out.size)).alloc (Nat.le_trans B2.out.size b3.size) (.cells #[.int .i64 K3, .string X3, .int .i64 Z3, .slice A3 m3 c3] 25))
  clear b3 HR
  go_wp2_with fail
  refine (HQ.out _).mono ?_
  rintro e w4 ⟨K4, X4, Z4, A4, m4, c4, rfl, b4⟩
  have B4 := hidE ((B3.out.trans (b4.mono B3.out.size)).alloc (Nat.le_trans B3.out.size b4.size) (.cells #[.int .i64 K4, .string X4, .int .i64 Z4, .slice A4 m4 c4] 25))
  clear b4 HQ
  by_cases h1 : n1 = 0
  · subst h1
    by_cases h2 : n2 = 0
    · subst h2
      by_cases h3 : n3 = 0
      · subst h3
        by_cases h4 : a = b
        · have e4 : (a == b) = true := by rw [h4]; simp
          clear h4
          go_wp2_with fail
          go_ret
          exact ⟨rfl, B4.out⟩
        · have e4 : (a == b) = false := by rw [Bool.eq_false_iff]; intro e; exact h4 (by simpa using e)
          by_cases h5 : s.size ≤ 300
          · have g5 : ¬ (300 : Int) < (s.size : Int) := by omega
            by_cases h6 : r.size ≤ 300
            · have g6 : ¬ (300 : Int) < (r.size : Int) := by omega
              have h7 : ¬ q.size ≤ 300 := fun h7 => HH.out ⟨rfl, rfl, rfl, h4, h5, h6, h7⟩
              have g7 : (300 : Int) < (q.size : Int) := by omega
              clear h4 h5 h6 h7
              go_wp2_with fail
              go_ret
              exact ⟨rfl, B4.out⟩
            · have g6 : (300 : Int) < (r.size : Int) := by omega
              clear h4 h5 h6
              go_wp2_with fail
              go_ret
              exact ⟨rfl, B4.out⟩
          · have g5 : (300 : Int) < (s.size : Int) := by omega
            clear h4 h5
            go_wp2_with fail
            go_ret
            exact ⟨rfl, B4.out⟩
      · have e3 : ((n3 : Int) == 0) = false := kF n3 0 h3
        go_wp2_with fail
        go_ret
        exact ⟨rfl, B4.out⟩
    · have e2 : ((n2 : Int) == 0) = false := kF n2 0 h2
      go_wp2_with fail
      go_ret
      exact ⟨rfl, B4.out⟩
  · have e1 : ((n1 : Int) == 0) = false := kF n1 0 h1
    go_wp2_with fail
    go_ret
    exact ⟨rfl, B4.out⟩

/-- what fills and is filled, both ways -/
structure Fl (t u v : Ty) (a b : Int) (T1 T2 T3 T4 : Ty) : Prop where
  nt : Nm t
  nu : Nm u
  nv : Nm v
  zt : t.size ≤ 1000000
  zu : u.size ≤ 1000000
  zv : v.size ≤ 1000000
  t1 : putT (isPM a) t u = T1
  t2 : putT (isPM b) T1 v = T2
  t3 : putT (isPM b) t v = T3
  t4 : putT (isPM a) T3 u = T4
  z1 : T1.size ≤ 1000000
  z2 : T2.size ≤ 100000000
  z3 : T3.size ≤ 1000000
  m1 : Nm T1
  m2 : Nm T2
  m3 : Nm T3
  m4 : Nm T4
  d24 : db [] T2 = db [] T4
  left : Nob a T1.metas

theorem fl_of (t u v : Ty) (a b : Int) (nt : Nm t) (nu : Nm u) (nv : Nm v) (st : t.size ≤ 300) (su : u.size ≤ 300) (sv : v.size ≤ 300) (hab : a ≠ b) (ha : Nob a (u.metas ++ v.metas)) (hb : Nob b (u.metas ++ v.metas)) :
    ∃ T1 T2 T3 T4, Fl t u v a b T1 T2 T3 T4 := by
  have hUa : ¬ MtI a (db [] u) := by rw [metas_mtI]; rintro ⟨x, hx, e⟩; exact ha x (List.mem_append_left _ hx) e
  have hUb : ¬ MtI b (db [] u) := by rw [metas_mtI]; rintro ⟨x, hx, e⟩; exact hb x (List.mem_append_left _ hx) e
  have hVa : ¬ MtI a (db [] v) := by rw [metas_mtI]; rintro ⟨x, hx, e⟩; exact ha x (List.mem_append_right _ hx) e
  have zt : t.size ≤ 1000000 := by omega
  have zu : u.size ≤ 1000000 := by omega
  have zv : v.size ≤ 1000000 := by omega
  obtain ⟨T1, hT1⟩ : ∃ T, putT (isPM a) t u = T := ⟨_, rfl⟩
  obtain ⟨T3, hT3⟩ : ∃ T, putT (isPM b) t v = T := ⟨_, rfl⟩
  have z1 : T1.size ≤ 90000 := by rw [← hT1]; exact Nat.le_trans (size_putT _ _ _) (Nat.le_trans (Nat.mul_le_mul st su) (by decide))
  have z3 : T3.size ≤ 90000 := by rw [← hT3]; exact Nat.le_trans (size_putT _ _ _) (Nat.le_trans (Nat.mul_le_mul st sv) (by decide))
  have m1 : Nm T1 := by rw [← hT1]; exact nm_putT _ t u zt zu nt nu
  have m3 : Nm T3 := by rw [← hT3]; exact nm_putT _ t v zt zv nt nv
  have d1 : db [] T1 = filI a (db [] u) (db [] t) := by rw [← hT1]; exact db_putI _ t u zt zu
  have d3 : db [] T3 = filI b (db [] v) (db [] t) := by rw [← hT3]; exact db_putI _ t v zt zv
  have hleft : ¬ MtI a (db [] T1) := by rw [← hT1]; exact metas_filI a t u zt zu hUa
  obtain ⟨T2, hT2⟩ : ∃ T, putT (isPM b) T1 v = T := ⟨_, rfl⟩
  obtain ⟨T4, hT4⟩ : ∃ T, putT (isPM a) T3 u = T := ⟨_, rfl⟩
  have z2 : T2.size ≤ 100000000 := by rw [← hT2]; exact Nat.le_trans (size_putT _ _ _) (Nat.le_trans (Nat.mul_le_mul z1 sv) (by decide))
  have m2 : Nm T2 := by rw [← hT2]; exact nm_putT _ T1 v (by omega) zv m1 nv
  have m4 : Nm T4 := by rw [← hT4]; exact nm_putT _ T3 u (by omega) zu m3 nu
  have d24 : db [] T2 = db [] T4 := by
    rw [← hT2, ← hT4, db_putI _ T1 v (by omega) zv, db_putI _ T3 u (by omega) zu, d1, d3]
    exact filI_comm _ _ _ _ _ hab hUb hVa
  exact ⟨T1, T2, T3, T4, nt, nu, nv, zt, zu, zv, hT1, hT2, hT3, hT4, by omega, z2, by omega, m1, m2, m3, m4, d24, fun x hx e => hleft ((metas_mtI T1 a).2 ⟨x, hx, e⟩)⟩

section
variable {t u v : Ty} {a b : Int} {T1 T2 T3 T4 : Ty} {W : World} {p q : Value}
theorem Fl.c1 (F : Fl t u v a b T1 T2 T3 T4) (hp : RdN W t p) (hq : RdN W u q) (ht : Tab W) : Calls Tryz.prog 30 #[p, .int .i64 a, q] W (PutN T1 W) := by
  have := rn_fill hp hq F.nt F.nu F.zt F.zu ht a
  rw [F.t1] at this
  exact this
theorem Fl.c2 (F : Fl t u v a b T1 T2 T3 T4) (hp : RdN W T1 p) (hq : RdN W v q) (ht : Tab W) : Calls Tryz.prog 30 #[p, .int .i64 b, q] W (PutN T2 W) := by
  have := rn_fill hp hq F.m1 F.nv F.z1 F.zv ht b
  rw [F.t2] at this
  exact this
theorem Fl.c3 (F : Fl t u v a b T1 T2 T3 T4) (hp : RdN W t p) (hq : RdN W v q) (ht : Tab W) : Calls Tryz.prog 30 #[p, .int .i64 b, q] W (PutN T3 W) := by
  have := rn_fill hp hq F.nt F.nv F.zt F.zv ht b
  rw [F.t3] at this
  exact this
theorem Fl.c4 (F : Fl t u v a b T1 T2 T3 T4) (hp : RdN W T3 p) (hq : RdN W u q) (ht : Tab W) : Calls Tryz.prog 30 #[p, .int .i64 a, q] W (PutN T4 W) := by
  have := rn_fill hp hq F.m3 F.nu F.z3 F.zu ht a
  rw [F.t4] at this
  exact this
end

set_option maxHeartbeats 6400000 in
/-- where it asks -/
theorem walk_yes (s r q : ByteArray) (a b : Int) (t u v : Ty) (hp : parse s.data.toList = .ok t) (hp2 : parse r.data.toList = .ok u) (hp3 : parse q.data.toList = .ok v) (w : World) (ht : Tab w) (hs : s.size ≤ maxLen) (hr : r.size ≤ maxLen) (hq : q.size ≤ maxLen)
    (hab : a ≠ b) (c1 : s.size ≤ 300) (c2 : r.size ≤ 300) (c3 : q.size ≤ 300) :
    Calls Tryz.prog 10 #[.string s, .string r, .string q, .int .i64 a, .int .i64 b] w fun e w' => e = .returned (.bool true) ∧ Below w.heap.size w w' := by
  have HT := hidE ht
  have HAW := hidE (tc_awake w ht)
  obtain ⟨hnt, -, hst, -⟩ := parse_nm _ _ hp
  obtain ⟨hnu, -, hsu, -⟩ := parse_nm _ _ hp2
  obtain ⟨hnv, -, hsv, -⟩ := parse_nm _ _ hp3
  have HP := hidE (fun w => tc_parseOk s t hp w hs)
  have HR := hidE (fun w => tc_parseOk r u hp2 w hr)
  have HQ := hidE (fun w => tc_parseOk q v hp3 w hq)
  have e1 : s.data.toList.length = s.size := Array.length_toList
  have e2 : r.data.toList.length = r.size := Array.length_toList
  have e3 : q.data.toList.length = q.size := Array.length_toList
  have zt : t.size ≤ 300 := by omega
  have zu : u.size ≤ 300 := by omega
  have zv : v.size ≤ 300 := by omega
  have e4 : (a == b) = false := by rw [Bool.eq_false_iff]; intro e; exact hab (by simpa using e)
  have g1 : ¬ (300 : Int) < (s.size : Int) := by omega
  have g2 : ¬ (300 : Int) < (r.size : Int) := by omega
  have g3 : ¬ (300 : Int) < (q.size : Int) := by omega
  have HNT := hidE hnt
  have HNU := hidE hnu
  have HNV := hidE hnv
  have HZT := hidE zt
  have HZU := hidE zu
  have HZV := hidE zv
  have HAB := hidE hab
  clear ht hp hp2 hp3 hs hr hq hnt hnu hnv hst hsu hsv e1 e2 e3 zt zu zv hab c1 c2 c3
  go_enter Tryz.func10, Tryz.ntmps10
  go_wp2_with fail
  refine HAW.out.mono ?_
  rintro e w1 ⟨rfl, b1⟩
  have B1 := hidE b1
  clear b1 HAW
  go_wp2_with fail
  refine (HP.out w1).mono ?_
  rintro e w2 ⟨K, X, Z, A, m, c, rfl, hr, b2⟩
  obtain ⟨V2, hV2⟩ : ∃ V, w2.alloc (.cells #[.int .i64 K, .string X, .int .i64 Z, .slice A m c] 25) = V := ⟨_, rfl⟩
  have hbt := Bx.made hr
  have hb2 := (B1.out.trans (b2.mono B1.out.size)).alloc (Nat.le_trans B1.out.size b2.size) (.cells #[.int .i64 K, .string X, .int .i64 Z, .slice A m c] 25)
  rw [hV2] at hbt hb2
  have BT := hidE hbt
  have B2 := hidE hb2
  clear b2 hr hbt hb2 HP
  go_wp2_with fail
  refine (HR.out V2).mono ?_
  rintro e w3 ⟨K3, X3, Z3, A3, m3, c3, rfl, hr, b3⟩
  obtain ⟨V3, hV3⟩ : ∃ V, w3.alloc (.cells #[.int .i64 K3, .string X3, .int .i64 Z3, .slice A3 m3 c3] 25) = V := ⟨_, rfl⟩
  have h3 := b3.alloc b3.size (.cells #[.int .i64 K3, .string X3, .int .i64 Z3, .slice A3 m3 c3] 25)
  have hbu := Bx.made hr
  rw [hV3] at h3 hbu
  have BU := hidE hbu
  have BT3 := hidE (BT.out.below h3)
  have B3 : Hid (Below w.heap.size w V3) := hidE (B2.out.trans (h3.mono B2.out.size))
  clear b3 h3 hr hbu HR BT
  go_wp2_with fail
  refine (HQ.out V3).mono ?_
  rintro e w4 ⟨K4, X4, Z4, A4, m4, c4, rfl, hr, b4⟩
  obtain ⟨V4, hV4⟩ : ∃ V, w4.alloc (.cells #[.int .i64 K4, .string X4, .int .i64 Z4, .slice A4 m4 c4] 25) = V := ⟨_, rfl⟩
  have h4 := b4.alloc b4.size (.cells #[.int .i64 K4, .string X4, .int .i64 Z4, .slice A4 m4 c4] 25)
  have hbv := Bx.made hr
  rw [hV4] at h4 hbv
  have BV := hidE hbv
  have BT4 := hidE (BT3.out.below h4)
  have BU4 := hidE (BU.out.below h4)
  have B4 : Hid (Below w.heap.size w V4) := hidE (B3.out.trans (h4.mono B3.out.size))
  obtain ⟨n1, hn1⟩ : ∃ n, u.metas.length = n := ⟨_, rfl⟩
  obtain ⟨n2, hn2⟩ : ∃ n, v.metas.length = n := ⟨_, rfl⟩
  obtain ⟨L1, hL1⟩ : ∃ L, u.metas = L := ⟨_, rfl⟩
  obtain ⟨L2, hL2⟩ : ∃ L, v.metas = L := ⟨_, rfl⟩
  have B0 : Hid (Below V4.heap.size V4 V4.drew) := hidE (Below.refl _ V4).drew
  have M1 := hidE (fun W (h : Below V4.heap.size V4 W) => by have := rn_mets (BU4.out.rn.below h) HNU.out (by have := HZU.out; omega) V4.heap.size n1 h.size hn1; rw [hL1] at this; exact this)
  have M2 := hidE (fun W (h : Below V4.heap.size V4 W) => by have := rn_mets (BV.out.rn.below h) HNV.out (by have := HZV.out; omega) V4.heap.size n2 h.size hn2; rw [hL2] at this; exact this)
  have SO7 : Hid (∀ W, Below V4.heap.size V4 W → (fun W => W.cell? ⟨w3.heap.size, 0, none⟩ = some (.int .i64 K3) ∧ W.cell? ⟨w3.heap.size, 1, none⟩ = some (.string X3) ∧ W.cell? ⟨w3.heap.size, 2, none⟩ = some (.int .i64 Z3) ∧ W.cell? ⟨w3.heap.size, 3, none⟩ = some (.slice A3 m3 c3) ∧ W.cell? ⟨w4.heap.size, 0, none⟩ = some (.int .i64 K4) ∧ W.cell? ⟨w4.heap.size, 1, none⟩ = some (.string X4) ∧ W.cell? ⟨w4.heap.size, 2, none⟩ = some (.int .i64 Z4) ∧ W.cell? ⟨w4.heap.size, 3, none⟩ = some (.slice A4 m4 c4)) W) :=
    hidE fun W h => by
      have t2 := (BU4.out.below h).cells
      have t3 := (BV.out.below h).cells
      exact ⟨t2.1, t2.2.1, t2.2.2.1, t2.2.2.2, t3.1, t3.2.1, t3.2.2.1, t3.2.2.2⟩
  obtain ⟨i0, hi0, hz0, hz1, hz2⟩ := info_parts int_info
  have HL1 := hidE hL1
  have HL2 := hidE hL2
  clear b4 h4 hr hbv HQ BT3 BU hn1 hn2 hL1 hL2
  go_upto_region 7 with fail
  go_cut [18] from 69 (fun s18 wx => ∃ A8 c8, s18 = .slice A8 (n1 + n2) c8 ∧ Hid (MetR wx (L1 ++ L2) (n1 + n2) A8 ∧ n1 + n2 ≤ 4000000 ∧ Below V4.heap.size V4 wx))
  case first =>
    go_region_held3 (fun W => W.cell? ⟨w3.heap.size, 0, none⟩ = some (.int .i64 K3) ∧ W.cell? ⟨w3.heap.size, 1, none⟩ = some (.string X3) ∧ W.cell? ⟨w3.heap.size, 2, none⟩ = some (.int .i64 Z3) ∧ W.cell? ⟨w3.heap.size, 3, none⟩ = some (.slice A3 m3 c3) ∧ W.cell? ⟨w4.heap.size, 0, none⟩ = some (.int .i64 K4) ∧ W.cell? ⟨w4.heap.size, 1, none⟩ = some (.string X4) ∧ W.cell? ⟨w4.heap.size, 2, none⟩ = some (.int .i64 Z4) ∧ W.cell? ⟨w4.heap.size, 3, none⟩ = some (.slice A4 m4 c4)) (first | (with_reducible exact SO7.out _ B0.out))
      ((first
        | ((with_reducible refine (M1.out _ B0.out).mono ?_); rintro e w9 ⟨a9, q9, rfl, hr9, b9⟩; (try replace R2 := hidE (R2.out.below b9)); have R1 := hidE hr9; replace B0 := hidE (below_tr B0.out b9); clear hr9 b9)
        | ((with_reducible refine (M2.out _ B0.out).mono ?_); rintro e w9 ⟨a9, q9, rfl, hr9, b9⟩; (try replace R1 := hidE (R1.out.below b9)); have R2 := hidE hr9; replace B0 := hidE (below_tr B0.out b9); clear hr9 b9)
        | (refine step_append_two (by rfl) _ _ _ (by rfl) V4.heap.size 3 i0 _ 8 Tryz.underlying40 hi0 hz0 hz1 hz2 rfl _ _ n1 n2 (intV L1) (intV L2) (by rfl) (by rfl) R1.out.1 R2.out.1 (one_intV L2) (by unfold maxLen; have := R1.out.2; have := R2.out.2; omega) (by have := R1.out.2; have := R2.out.2; omega) B0.out.size ?_; intro a9 q9 w9 hr9 b9; have R3 := hidE (show MetR w9 (L1 ++ L2) (n1 + n2) a9 from MetR.of_own (by rw [show intV (L1 ++ L2) = intV L1 ++ intV L2 from List.map_append]; exact hr9)); have R4 := hidE (show n1 + n2 ≤ 4000000 by have := R1.out.2; have := R2.out.2; omega); replace B0 : Hid (Below V4.heap.size V4 w9) := hidE (B0.out.trans b9); clear R1 R2 hr9 b9)))
    all_goals
      go_wp2_with fail
      go_meet
      case rel => exact ⟨_, _, rfl, hidE ⟨R3.out, R4.out, B0.out⟩⟩
  case rest =>
    obtain ⟨A8, c8, rfl, hx⟩ := hcut
    have HX := hx
    obtain ⟨N, hN⟩ : ∃ n, n1 + n2 = n := ⟨_, rfl⟩
    obtain ⟨L, hL⟩ : ∃ l, L1 ++ L2 = l := ⟨_, rfl⟩
    rw [hN, hL] at hx
    have HLL := hidE hL
    have hNN : N ≤ 4000000 := hx.out.2.1
    rw [hN]
    have HR := hidE hx.out.1
    have HB8 := hidE hx.out.2.2
    clear HX hx hN hL B0 M1 M2 SO7 hi0 hz0 hz1 hz2
    go_wp2_with fail
    go_loopg [19] N (fun gg vi wr => ∃ k : Nat, gg = N - k ∧ k ≤ N ∧ vi = .int .i64 k ∧ wr = wc ∧ Hid (Nob a (L.take k) ∧ Nob b (L.take k)))
    case atStart => exact ⟨0, rfl, Nat.zero_le _, rfl, rfl, hidE ⟨fun x hx => by simp at hx, fun x hx => by simp at hx⟩⟩
    case round =>
      obtain ⟨k, rfl, hk, rfl, rfl, ht⟩ := hrel
      by_cases hlt : k < N
      · obtain ⟨g, rfl, hc⟩ := HR.out.2 (by omega)
        have hkl : k < L.length := by rw [HR.out.1]; exact hlt
        obtain ⟨x, hx⟩ : ∃ x : Nat, L[k]? = some x := ⟨_, List.getElem?_eq_getElem hkl⟩
        have x0 := hc k x hx
        have HXX := hidE hx
        clear hc hkl hx
        by_cases h1 : (x : Int) = a
        · have e1 := iT x a h1
          clear h1
          go_wp2_with fail
          go_ret
          exact ⟨rfl, B4.out.trans (HB8.out.mono B4.out.size)⟩
        · have e1 := iF x a h1
          have H1 := hidE h1
          clear h1
          by_cases h2 : (x : Int) = b
          · have e2 := iT x b h2
            clear h2
            go_wp2_with fail
            go_ret
            exact ⟨rfl, B4.out.trans (HB8.out.mono B4.out.size)⟩
          · have e2 := iF x b h2
            have H2 := hidE h2
            clear h2
            go_wp2_with fail
            go_roundg (N - (k + 1))
            case measure => omega
            case rel => exact ⟨k + 1, rfl, by omega, by go_num, rfl, hidE ⟨ht.out.1.snoc HXX.out H1.out, ht.out.2.snoc HXX.out H2.out⟩⟩
      · have hall := ht.out
        rw [List.take_of_length_le (by rw [HR.out.1]; omega)] at hall
        obtain ⟨ha1, hb1⟩ := hall
        rw [← HLL.out, ← HL1.out, ← HL2.out] at ha1 hb1
        obtain ⟨T1, T2, T3, T4, F⟩ := fl_of t u v a b HNT.out HNU.out HNV.out HZT.out HZU.out HZV.out HAB.out ha1 hb1
        clear ha1 hb1
        obtain ⟨N9, hN9⟩ : ∃ n, T1.metas.length = n := ⟨_, rfl⟩
        obtain ⟨L9, hL9⟩ : ∃ l, T1.metas = l := ⟨_, rfl⟩
        have HNO : Hid (Nob a L9) := hidE (hL9 ▸ F.left)
        have tb : ∀ W, Below V4.heap.size V4 W → Tab W := fun W h => HT.out.below (B4.out.trans (h.mono B4.out.size))
        have B0 : Hid (Below V4.heap.size V4 wr.drew) := hidE HB8.out.drew
        have C1 : Hid (∀ W, Below V4.heap.size V4 W → Calls Tryz.prog 30 #[.agg #[.int .i64 K, .string X, .int .i64 Z, .slice A m c], .int .i64 a, .agg #[.int .i64 K3, .string X3, .int .i64 Z3, .slice A3 m3 c3]] W (PutN T1 W)) := hidE fun W h => F.c1 (BT4.out.rn.below h) (BU4.out.rn.below h) (tb W h)
        have C3 : Hid (∀ W, Below V4.heap.size V4 W → Calls Tryz.prog 30 #[.agg #[.int .i64 K, .string X, .int .i64 Z, .slice A m c], .int .i64 b, .agg #[.int .i64 K4, .string X4, .int .i64 Z4, .slice A4 m4 c4]] W (PutN T3 W)) := hidE fun W h => F.c3 (BT4.out.rn.below h) (BV.out.rn.below h) (tb W h)
        have C2 : Hid (∀ W p, Below V4.heap.size V4 W → RdN W T1 p → Calls Tryz.prog 30 #[p, .int .i64 b, .agg #[.int .i64 K4, .string X4, .int .i64 Z4, .slice A4 m4 c4]] W (PutN T2 W)) := hidE fun W p h hp => F.c2 hp (BV.out.rn.below h) (tb W h)
        have C4 : Hid (∀ W p, Below V4.heap.size V4 W → RdN W T3 p → Calls Tryz.prog 30 #[p, .int .i64 a, .agg #[.int .i64 K3, .string X3, .int .i64 Z3, .slice A3 m3 c3]] W (PutN T4 W)) := hidE fun W p h hp => F.c4 hp (BU4.out.rn.below h) (tb W h)
        have C5 : Hid (∀ W p p', RdN W T2 p → RdN W T4 p' → Calls Tryz.prog 33 #[p, p'] W fun e w' => e = .returned (.bool true) ∧ Below W.heap.size W w') := hidE fun W p p' hp hp' => rn_same hp hp' F.m2 F.m4 F.z2 F.d24
        have C6 : Hid (∀ W p, Below V4.heap.size V4 W → RdN W T1 p → Calls Tryz.prog 23 #[p] W (MetsPst V4.heap.size L9 N9 W)) := hidE fun W p h hp => hL9 ▸ rn_mets hp F.m1 F.z1 V4.heap.size N9 h.size hN9
        have SOF : Hid (∀ W, Below V4.heap.size V4 W → (fun W => W.cell? ⟨w2.heap.size, 0, none⟩ = some (.int .i64 K) ∧ W.cell? ⟨w2.heap.size, 1, none⟩ = some (.string X) ∧ W.cell? ⟨w2.heap.size, 2, none⟩ = some (.int .i64 Z) ∧ W.cell? ⟨w2.heap.size, 3, none⟩ = some (.slice A m c) ∧ W.cell? ⟨w3.heap.size, 0, none⟩ = some (.int .i64 K3) ∧ W.cell? ⟨w3.heap.size, 1, none⟩ = some (.string X3) ∧ W.cell? ⟨w3.heap.size, 2, none⟩ = some (.int .i64 Z3) ∧ W.cell? ⟨w3.heap.size, 3, none⟩ = some (.slice A3 m3 c3) ∧ W.cell? ⟨w4.heap.size, 0, none⟩ = some (.int .i64 K4) ∧ W.cell? ⟨w4.heap.size, 1, none⟩ = some (.string X4) ∧ W.cell? ⟨w4.heap.size, 2, none⟩ = some (.int .i64 Z4) ∧ W.cell? ⟨w4.heap.size, 3, none⟩ = some (.slice A4 m4 c4)) W) :=
          hidE fun W h => by
            have t1 := (BT4.out.below h).cells
            have t2 := (BU4.out.below h).cells
            have t3 := (BV.out.below h).cells
            exact ⟨t1.1, t1.2.1, t1.2.2.1, t1.2.2.2, t2.1, t2.2.1, t2.2.2.1, t2.2.2.2, t3.1, t3.2.1, t3.2.2.1, t3.2.2.2⟩
        clear F tb hN9 hL9
        go_upto_region 13 with fail
        go_cut [20] from 69 (fun s20 wx => s20 = .bool true ∧ Hid (Below V4.heap.size V4 wx))
        case first =>
          go_region_held3 (fun W => W.cell? ⟨w2.heap.size, 0, none⟩ = some (.int .i64 K) ∧ W.cell? ⟨w2.heap.size, 1, none⟩ = some (.string X) ∧ W.cell? ⟨w2.heap.size, 2, none⟩ = some (.int .i64 Z) ∧ W.cell? ⟨w2.heap.size, 3, none⟩ = some (.slice A m c) ∧ W.cell? ⟨w3.heap.size, 0, none⟩ = some (.int .i64 K3) ∧ W.cell? ⟨w3.heap.size, 1, none⟩ = some (.string X3) ∧ W.cell? ⟨w3.heap.size, 2, none⟩ = some (.int .i64 Z3) ∧ W.cell? ⟨w3.heap.size, 3, none⟩ = some (.slice A3 m3 c3) ∧ W.cell? ⟨w4.heap.size, 0, none⟩ = some (.int .i64 K4) ∧ W.cell? ⟨w4.heap.size, 1, none⟩ = some (.string X4) ∧ W.cell? ⟨w4.heap.size, 2, none⟩ = some (.int .i64 Z4) ∧ W.cell? ⟨w4.heap.size, 3, none⟩ = some (.slice A4 m4 c4)) (first | (with_reducible exact SOF.out _ B0.out))
            ((first
              | ((with_reducible refine (C1.out _ B0.out).mono ?_); rintro e w9 ⟨k9, x9, z9, a9, m9, q9, rfl, hr9, b9⟩; (try replace R2 := hidE (R2.out.below b9)); (try replace R3 := hidE (R3.out.below b9)); (try replace R4 := hidE (R4.out.below b9)); have R1 := hidE hr9; replace B0 := hidE (below_tr B0.out b9); clear hr9 b9)
              | ((with_reducible refine (C3.out _ B0.out).mono ?_); rintro e w9 ⟨k9, x9, z9, a9, m9, q9, rfl, hr9, b9⟩; (try replace R1 := hidE (R1.out.below b9)); (try replace R2 := hidE (R2.out.below b9)); (try replace R4 := hidE (R4.out.below b9)); have R3 := hidE hr9; replace B0 := hidE (below_tr B0.out b9); clear hr9 b9)
              | ((with_reducible refine (C2.out _ _ B0.out R1.out).mono ?_); rintro e w9 ⟨k9, x9, z9, a9, m9, q9, rfl, hr9, b9⟩; (try replace R1 := hidE (R1.out.below b9)); (try replace R3 := hidE (R3.out.below b9)); (try replace R4 := hidE (R4.out.below b9)); have R2 := hidE hr9; replace B0 := hidE (below_tr B0.out b9); clear hr9 b9)
              | ((with_reducible refine (C4.out _ _ B0.out R3.out).mono ?_); rintro e w9 ⟨k9, x9, z9, a9, m9, q9, rfl, hr9, b9⟩; (try replace R1 := hidE (R1.out.below b9)); (try replace R2 := hidE (R2.out.below b9)); (try replace R3 := hidE (R3.out.below b9)); have R4 := hidE hr9; replace B0 := hidE (below_tr B0.out b9); clear hr9 b9)
              | ((with_reducible refine (C5.out _ _ _ R2.out R4.out).mono ?_); rintro e w9 ⟨rfl, b9⟩; replace B0 := hidE (below_tr B0.out b9); clear b9)))
          all_goals
            go_wp2_with fail
            go_meet
            case rel => exact ⟨rfl, B0⟩
        case rest =>
          obtain ⟨rfl, b13⟩ := hcut
          have D1 := hidE (C1.out _ b13.out)
          obtain ⟨x0, x1, x2, x3, y0, y1, y2, y3, z0, z1, z2, z3⟩ := SOF.out _ b13.out
          clear C1 C2 C3 C4 C5 B0 SOF z0 z1 z2 z3
          go_wp2_with fail
          refine D1.out.mono ?_
          rintro e w9 ⟨k9, x9, z9, a9, m9, q9, rfl, hr9, b9⟩
          have B14 := hidE (below_tr b13.out b9)
          have D2 := hidE (C6.out _ _ B14.out hr9)
          clear D1 x0 x1 x2 x3 y0 y1 y2 y3 hr9 b9
          go_wp2_with fail
          refine D2.out.mono ?_
          rintro e w10 ⟨a10, q10, rfl, hr10, b10⟩
          have B15 := hidE (below_tr B14.out b10)
          have h9 : N9 ≤ 2000000 := hr10.2
          have HR9 := hidE (MetR.of_own hr10.1)
          clear D2 C6 hr10 b10
          go_wp2_with fail
          go_loopg [22] N9 (fun gg vi wr => ∃ k : Nat, gg = N9 - k ∧ k ≤ N9 ∧ vi = .int .i64 k ∧ wr = w10)
          case atStart => exact ⟨0, rfl, Nat.zero_le _, rfl, rfl⟩
          case round =>
            obtain ⟨k, rfl, hk9, rfl, rfl⟩ := hrel
            by_cases hlt9 : k < N9
            · obtain ⟨g, rfl, hc⟩ := HR9.out.2 (by omega)
              have hkl : k < L9.length := by rw [HR9.out.1]; exact hlt9
              obtain ⟨x, hx⟩ : ∃ x : Nat, L9[k]? = some x := ⟨_, List.getElem?_eq_getElem hkl⟩
              have x0 := hc k x hx
              have e1 := iF x a (HNO.out x (List.mem_of_getElem? hx))
              clear hc hkl hx
              go_wp2_with fail
              go_roundg (N9 - (k + 1))
              case measure => omega
              case rel => exact ⟨k + 1, rfl, by omega, by go_num, rfl⟩
            · go_wp2_with fail
              go_ret
              exact ⟨rfl, B4.out.trans (B15.out.mono B4.out.size)⟩

theorem walk (s r q : ByteArray) (a b : Int) (w : World) (ht : Tab w) (hs : s.size ≤ maxLen) (hr : r.size ≤ maxLen) (hq : q.size ≤ maxLen) {p1 p2 : Prop} (_ : p1) (_ : p2) :
    Calls Tryz.prog 10 #[.string s, .string r, .string q, .int .i64 a, .int .i64 b] w fun e w' => e = .returned (.bool true) ∧ Below w.heap.size w w' := by
  by_cases h : errN s.data.toList = 0 ∧ errN r.data.toList = 0 ∧ errN q.data.toList = 0 ∧ a ≠ b ∧ s.size ≤ 300 ∧ r.size ≤ 300 ∧ q.size ≤ 300
  · obtain ⟨h1, h2, h3, h4, h5, h6, h7⟩ := h
    obtain ⟨t, e1⟩ := errN_zero h1
    obtain ⟨u, e2⟩ := errN_zero h2
    obtain ⟨v, e3⟩ := errN_zero h3
    exact walk_yes s r q a b t u v e1 e2 e3 w ht hs hr hq h4 h5 h6 h7
  · exact walk_no s r q a b w ht hs hr hq h

/-! ### the row's step -/
theorem lifted (os : Os) (started : os.Started) (H : Type) (enc : TypeId × Value → H) :
    ReturnsInHanded {} Tryz.checked os 10 .any (fun w args => (Rows.typesFilledSpec.pre enc Tryz.prog Tryz.f10 Rows.typesFilledRow.domain false w args ∧ laidMetH Tryz.prog theLaid w) ∧ sizedMet enc Tryz.prog Tryz.f10 (OpenSpec.ofChange Rows.typesFilledSpec) false w args)
      (Rows.typesFilledSpec.post enc Tryz.prog Tryz.f10 false true false false) := by
  refine returnsInHanded_of_change_and (C := Tryz.checked) (X := fun w _ => laidMetH Tryz.prog theLaid w) (fun _ _ _ hh h => h.of_heap hh) ownK started (by kernel_rfl) Tryz.func10
    (ChangeSpec.witness_shaped (enc := enc) (C := Tryz.checked) (os := os) (X := fun w _ => laidMetH Tryz.prog theLaid w) false (World.laidAll Tryz.prog os theLaid) #[.string ⟨#[]⟩, .string ⟨#[]⟩, .string ⟨#[]⟩, .int .i64 0, .int .i64 0] 8 (World.laidAll_os _ _ _)
      (start_shaped os) (by kernel_rfl) (by kernel_rfl) (by kernel_rfl)
      (start_met os _)) ?_
  intro W base args ds gs before hval0 hW hc _ hL _
  have hval : ∀ (j : Nat) t v, Tryz.f10.params[j]? = some t → args[j]? = some v → Value.okWide Tryz.prog W .any base t v := hval0
  have hW' := hW
  obtain ⟨p, q, hA0, hV, rfl, _, _⟩ := hW
  have hA : DataW.TrodAll enc Tryz.prog W 0 (fun _ => true) true Tryz.f10.params.toList args.toList ds p := hA0
  rw [Tryz.params10] at hA hval
  obtain ⟨v0, vs0, d0, ds0, p0, q0, hg0, rfl, rfl, h0, r0⟩ := trodAll_cons hA
  obtain ⟨v1, vs1, d1, ds1, p1, q1, hg1, rfl, rfl, h1, r1⟩ := trodAll_cons r0
  obtain ⟨v2, vs2, d2, ds2, p2, q2, hg2, rfl, rfl, h2, r2⟩ := trodAll_cons r1
  obtain ⟨v3, vs3, d3, ds3, p3, q3, hg3, rfl, rfl, h3, r3⟩ := trodAll_cons r2
  obtain ⟨v4, vs4, d4, ds4, p4, q4, hg4, rfl, rfl, h4, r4⟩ := trodAll_cons r3
  obtain ⟨rfl, rfl, rfl⟩ := trodAll_nil r4
  subst hg4
  subst hg3
  subst hg2
  subst hg1
  obtain rfl : args = #[v0, v1, v2, v3, v4] := by cases args; simp_all
  obtain ⟨rfl, rfl⟩ := trodVars_none hV
  obtain ⟨a0, rfl, rfl, rfl, w0⟩ := open_string Tryz.underlying9 (hval 0 9 v0 rfl rfl) h0
  obtain ⟨a1, rfl, rfl, rfl, w1⟩ := open_string Tryz.underlying9 (hval 1 9 v1 rfl rfl) h1
  obtain ⟨a2, rfl, rfl, rfl, w2⟩ := open_string Tryz.underlying9 (hval 2 9 v2 rfl rfl) h2
  obtain ⟨a3, rfl, rfl, rfl, w3⟩ := open_int Tryz.underlying3 (hval 3 3 v3 rfl rfl) h3
  obtain ⟨a4, rfl, rfl, rfl, w4⟩ := open_int Tryz.underlying3 (hval 4 3 v4 rfl rfl) h4
  clear hA0 hval0
  simp only [List.append_nil] at hW'
  refine (walk a0 a1 a2 a3 a4 W (tab_of_laid hL) w0 w1 w2 w3 w4).mono fun e W' ⟨he, hg⟩ => ?_
  subst he
  exact ⟨_, rfl, _, _, _, [], [], [], hW', trodAll_cons_mk (shut_bool Tryz.underlying4 _) trodAll_mk0, (trodAll_cons_mk (shut_string Tryz.underlying9 w0) (trodAll_cons_mk (shut_string Tryz.underlying9 w1) (trodAll_cons_mk (shut_string Tryz.underlying9 w2) (trodAll_cons_mk (shut_int Tryz.underlying3 w3) (trodAll_cons_mk (shut_int Tryz.underlying3 w4) trodAll_mk0))))), rfl, hg.frame _, fun h => by cases h⟩

theorem over : Rows.typesFilledRow.holds Tryz.pinned (OpenSpec.ofChange Rows.typesFilledSpec) :=
  OpenClaim.holds_of_wide 10 Tryz.f10 rfl rfl rfl rfl rfl rfl rfl ⟨rfl, rfl, rfl, rfl, rfl⟩ rfl rfl rfl rfl rfl (by kernel_rfl) Tryz.func10 (by kernel_rfl)
    (of_decide_eq_true (by kernel_rfl)) (by unfold Func.isWrapper; first | (rw [if_pos (by decide +kernel)]; kernel_rfl) | (rw [if_neg (by decide +kernel)]; exact ⟨rfl, rfl⟩))
    (fun os started H enc _ => lifted os started H enc)

/-- the statement: the tied card -/
theorem proved : Rows.TypesFilledCardSaid :=
  Claim7.holds_tied_plain_at .later [] [.data, .data, .data, .sentinel, .sentinel] true _ true
    over (fun _ h => by cases h) (by kernel_rfl) (fun _ h => by cases h) typesFilled_row_tie rfl ⟨rfl, rfl⟩ (by kernel_rfl) rfl
    (fun f fn hf hfn => by
      obtain rfl : f = 10 := Option.some.inj ((show Tryz.prog.funcNamed "savant/savantlaw02.TypesFilled" = some 10 by kernel_rfl).symm.trans hf) |>.symm
      obtain rfl : fn = Tryz.f10 := (Option.some.inj (Tryz.func10.symm.trans hfn)).symm
      exact ⟨by kernel_rfl, fun j t ht => by
        rw [Tryz.params10] at ht
        have hm : t ∈ [9, 9, 9, 3, 3] := by
          simpa using Array.mem_of_getElem? ht
        have hall : ([9, 9, 9, 3, 3].all fun u => !Tryz.prog.wantsStandIn u) = true := by kernel_rfl
        exact (show Tryz.prog.wantsStandIn t = false by simpa using List.all_eq_true.1 hall t hm)⟩)
    (by kernel_rfl)
#print axioms proved
end Go.Proofs.YtnpklimlggffjaaGreatDoor.typesFilled
