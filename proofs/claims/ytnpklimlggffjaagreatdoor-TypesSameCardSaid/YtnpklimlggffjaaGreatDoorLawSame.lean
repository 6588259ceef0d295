/-
  savantlaw02.TypesSame, whatever the two texts: it answers true, and they are as they were. The card ties the library's tables to the program's text.
-/
import Derived.Test.YtnpklimlggffjaaGreatDoorBuX
import Derived.Test.YtnpklimlggffjaaGreatDoorCards
import Derived.Test.YtnpklimlggffjaaGreatDoorTie
import Derived.SevenTiedAt
namespace Go.Proofs.YtnpklimlggffjaaGreatDoor.typesSame
open Go.ChangeShapes Go.WideShapes Go.ChangeAt Go.RowKit Lx Tx Go.Shelf
open Go.ChangeMaps (open_string shut_string)
set_option maxRecDepth 100000

set_option maxHeartbeats 1600000 in
/-- where one of the two is no type -/
theorem walk_no (s r : ByteArray) (w : World) (ht : Tab w) (hs : s.size ≤ maxLen) (hr : r.size ≤ maxLen) (h : ¬ (errN s.data.toList = 0 ∧ errN r.data.toList = 0)) :
    Calls Tryz.prog 7 #[.string s, .string r] w fun e w' => e = .returned (.bool true) ∧ Below w.heap.size w w' := by
  have HAW := hidE (tc_awake w ht)
  have HP := hidE (fun w => tc_parseN s w hs)
  have HR := hidE (fun w => tc_parseN r w hr)
  obtain ⟨n1, hn1⟩ : ∃ n, errN s.data.toList = n := ⟨_, rfl⟩
  obtain ⟨n2, hn2⟩ : ∃ n, errN r.data.toList = n := ⟨_, rfl⟩
  rw [hn1] at HP h
  rw [hn2] at HR h
  have HH := hidE h
  clear ht hs hr hn1 hn2 h
  go_enter Tryz.func7, Tryz.ntmps7
  go_wp2_with fail
  refine HAW.out.mono ?_
  rintro e w1 ⟨rfl, b1⟩
  have B1 := hidE b1
  clear b1 HAW
  go_wp2_with fail
  refine (HP.out w1).mono ?_
  rintro e w2 ⟨K, X, Z, A, m, c, rfl, b2⟩
  have B2 := hidE ((B1.out.trans (b2.mono B1.out.size)).alloc (Nat.le_trans B1.out.size b2.size) (.cells #[.int .i64 K, .string X, .int .i64 Z, .slice A m c] 25))
  clear b2 HP
  go_wp2_with fail
  refine (HR.out _).mono ?_
  rintro e w3 ⟨K3, X3, Z3, A3, m3, c3, rfl, b3⟩
  have B3 := hidE ((B2.out.trans (b3.mono B2.out.size)).alloc (Nat.le_trans B2.out.size b3.size) (.cells #[.int .i64 K3, .string X3, .int .i64 Z3, .slice A3 m3 c3] 25))
  clear b3 HR
  by_cases h1 : n1 = 0
  · subst h1
    have h2 : ¬ n2 = 0 := fun h2 => HH.out ⟨rfl, h2⟩
    have e2 : ((n2 : Int) == 0) = false := kF n2 0 h2
    go_wp2_with fail
    go_ret
    exact ⟨rfl, B3.out⟩
  · have e1 : ((n1 : Int) == 0) = false := kF n1 0 h1
    go_wp2_with fail
    go_ret
    exact ⟨rfl, B3.out⟩

theorem metas_short (t : Ty) (h : t.size ≤ 1000000) : t.metas.length ≤ 1000000 := by
  have key : ∀ (l : List Nat) (n : Nat), (addN n l).length ≤ l.length + 1 := fun l n => by unfold addN; split <;> simp
  have hm : ∀ (n : Nat) (t : Ty), t.size ≤ n → ∀ out, (t.metasO out).length ≤ out.length + t.size := by
    intro n
    induction n with
    | zero => intro t h; rw [size_kids] at h; omega
    | succ n ih =>
      have hL : ∀ (l : List Ty), (∀ u ∈ l, u.size ≤ n) → ∀ out, (metasOL l out).length ≤ out.length + sizeL l := by
        intro l
        induction l with
        | nil => intro _ out; rw [metasOL, sizeL]; omega
        | cons a l ihl =>
          intro hl out
          rw [metasOL, sizeL]
          have h1 := ihl (fun u hu => hl u (List.mem_cons_of_mem _ hu)) (a.metasO out)
          have h2 := ih a (hl a List.mem_cons_self) out
          omega
      intro t h out
      cases t with
      | var x => rw [Ty.metasO]; omega
      | mt k => rw [Ty.metasO, size_kids]; have := key out k; omega
      | con c l =>
        rw [Ty.metasO, size_kids]
        rw [size_kids] at h
        have := hL l (fun u hu => by obtain ⟨i, hi, rfl⟩ := List.mem_iff_getElem.1 hu; have := sizeL_at l i hi; have h : sizeL l + 1 ≤ n + 1 := h; omega) out
        show _ ≤ out.length + (sizeL l + 1)
        omega
      | fn a b =>
        rw [Ty.metasO, size_kids]
        rw [size_kids] at h
        simp only [kids, sizeL] at h ⊢
        have h1 := ih a (by omega) out
        have h2 := ih b (by omega) (a.metasO out)
        omega
      | all x t =>
        rw [Ty.metasO, size_kids]
        rw [size_kids] at h
        simp only [kids, sizeL] at h ⊢
        have h1 := ih t (by omega) out
        omega
  have := hm t.size t (Nat.le_refl _) []
  unfold Ty.metas
  simp at this
  omega
theorem free_short (t : Ty) (h : t.size ≤ 1000000) : t.free.length ≤ 1000000 := by rw [← freeL_eq]; have := freeL_len t; omega

set_option maxHeartbeats 6400000 in
/-- where both are types -/
theorem walk_yes (s r : ByteArray) (t u : Ty) (hp : parse s.data.toList = .ok t) (hp2 : parse r.data.toList = .ok u) (w : World) (ht : Tab w) (hs : s.size ≤ maxLen) (hr : r.size ≤ maxLen) :
    Calls Tryz.prog 7 #[.string s, .string r] w fun e w' => e = .returned (.bool true) ∧ Below w.heap.size w w' := by
  have HT := hidE ht
  have HAW := hidE (tc_awake w ht)
  obtain ⟨hnt, -, hst, hlt⟩ := parse_nm _ _ hp
  obtain ⟨hnu, -, hsu, hlu⟩ := parse_nm _ _ hp2
  have zt : t.size ≤ 1000000 := by omega
  have zu : u.size ≤ 1000000 := by omega
  have HP := hidE (fun w => tc_parseOk s t hp w hs)
  have HR := hidE (fun w => tc_parseOk r u hp2 w hr)
  -- what the answers are
  obtain ⟨q, hq⟩ : ∃ q, decide (t.canonT.print = u.canonT.print) = q := ⟨_, rfl⟩
  have hqd : q = true ↔ db [] t = db [] u := by rw [← hq, decide_eq_true_iff]; exact canon_iff t u hnt hnu (small_db t zt) (small_db u zu)
  have hqd' : q = true ↔ db [] u = db [] t := hqd.trans eq_comm
  obtain ⟨P, hP⟩ : ∃ P : ByteArray, ⟨t.canonT.print.toArray⟩ = P := ⟨_, rfl⟩
  obtain ⟨C, hC⟩ : ∃ C : ByteArray, ⟨u.canonT.print.toArray⟩ = C := ⟨_, rfl⟩
  have hpc : (P.toList == C.toList) = q := by
    rw [Lib.toList_data, Lib.toList_data, ← hP, ← hC, ← hq]
    exact Bool.eq_iff_iff.2 (by simp)
  obtain ⟨f, hf⟩ : ∃ f, decide (t.free = u.free) = f := ⟨_, rfl⟩
  obtain ⟨g, hg⟩ : ∃ g, decide (t.metas = u.metas) = g := ⟨_, rfl⟩
  obtain ⟨d, hd⟩ : ∃ d, t.depth = d := ⟨_, rfl⟩
  obtain ⟨d', hd'⟩ : ∃ d, u.depth = d := ⟨_, rfl⟩
  have hfree : q = true → f = true ∧ g = true ∧ d = d' := fun h => by
    have e := hqd.1 h
    refine ⟨?_, ?_, ?_⟩
    · rw [← hf, decide_eq_true_iff]; unfold Ty.free; rw [free_db [] [] (fun _ => Iff.rfl), free_db [] [] (fun _ => Iff.rfl), e]
    · rw [← hg, decide_eq_true_iff]; unfold Ty.metas; rw [metas_db [] t, metas_db [] u, e]
    · rw [← hd, ← hd', depth_db [] t, depth_db [] u, e]
  have tb : ∀ (w' W : World), Below w.heap.size w w' → Below w'.heap.size w' W → Tab W := fun w' W h1 h2 => HT.out.below (h1.trans (h2.mono h1.size))
  have TB := hidE tb
  -- the contracts
  have S1 := hidE (fun W p p' (h : RdN W t p) (h' : RdN W u p') => rn_sameB h h' hnt hnu (by omega) q hqd)
  have S2 := hidE (fun W p p' (h : RdN W u p') (h' : RdN W t p) => rn_sameB h h' hnu hnt (by omega) q hqd')
  have S3 := hidE (fun W p (h : RdN W t p) => rn_same h h hnt hnt (by omega) rfl)
  obtain ⟨lf, hlf⟩ : ∃ n, t.free.length = n := ⟨_, rfl⟩
  obtain ⟨lf', hlf'⟩ : ∃ n, u.free.length = n := ⟨_, rfl⟩
  obtain ⟨lm, hlm⟩ : ∃ n, t.metas.length = n := ⟨_, rfl⟩
  obtain ⟨lm', hlm'⟩ : ∃ n, u.metas.length = n := ⟨_, rfl⟩
  have F1 := hidE (fun W p (h : RdN W t p) => by have := rn_free h hnt zt; unfold FreePst at this; rw [hlf] at this; exact this)
  have F2 := hidE (fun W p (h : RdN W u p) => by have := rn_free h hnu zu; unfold FreePst at this; rw [hlf'] at this; exact this)
  have M1 := hidE (fun W p (h : RdN W t p) => by have := rn_metas h hnt zt; unfold MetasPst at this; rw [hlm] at this; exact this)
  have M2 := hidE (fun W p (h : RdN W u p) => by have := rn_metas h hnu zu; unfold MetasPst at this; rw [hlm'] at this; exact this)
  have N1 := hidE (fun W p p' (h : RowV W p (strV t.free)) (h' : RowV W p' (strV u.free)) => by have := tc_namesEq p p' t.free u.free W h h' (free_short t zt); rw [hf] at this; exact this)
  have N2 := hidE (fun W p p' (h : RowV W p (intV t.metas)) (h' : RowV W p' (intV u.metas)) => by have := tc_numbersEq p p' t.metas u.metas W h h' (metas_short t zt); rw [hg] at this; exact this)
  have D1 := hidE (fun W p (h : RdN W t p) => by have := tc_depth 1000000 t _ p W zt (Nat.le_refl _) h (fun _ h => h); rw [hd] at this; exact this)
  have D2 := hidE (fun W p (h : RdN W u p) => by have := tc_depth 1000000 u _ p W zu (Nat.le_refl _) h (fun _ h => h); rw [hd'] at this; exact this)
  have C1 := hidE (fun W p (h : RdN W t p) ht => by have := rn_canon h hnt zt ht; rw [hP] at this; exact this)
  have C2 := hidE (fun W p (h : RdN W u p) ht => by have := rn_canon h hnu zu ht; rw [hC] at this; exact this)
  have HFREE := hidE hfree
  clear ht hp hp2 hs hr hnt hnu hst hsu hlt hlu zt zu hq hqd hqd' hP hC hf hg hd hd' hfree hlf hlf' hlm hlm' tb
  go_enter Tryz.func7, Tryz.ntmps7
  go_wp2_with fail
  refine HAW.out.mono ?_
  rintro e w1 ⟨rfl, b1⟩
  have B1 := hidE b1
  clear b1 HAW
  go_wp2_with fail
  refine (HP.out w1).mono ?_
  rintro e w2 ⟨K, X, Z, A, m, c, rfl, hr, b2⟩
  obtain ⟨V2, hV2⟩ : ∃ V, w2.alloc (.cells #[.int .i64 K, .string X, .int .i64 Z, .slice A m c] 25) = V := ⟨_, rfl⟩
  have hbt := Bx.made hr
  have hb2 := (B1.out.trans (b2.mono B1.out.size)).alloc (Nat.le_trans B1.out.size b2.size) (.cells #[.int .i64 K, .string X, .int .i64 Z, .slice A m c] 25)
  rw [hV2] at hbt hb2
  have BT := hidE hbt
  have B2 := hidE hb2
  clear b2 hr hbt hb2 HP
  go_wp2_with fail
  refine (HR.out V2).mono ?_
  rintro e w3 ⟨K3, X3, Z3, A3, m3, c3, rfl, hr, b3⟩
  obtain ⟨V3, hV3⟩ : ∃ V, w3.alloc (.cells #[.int .i64 K3, .string X3, .int .i64 Z3, .slice A3 m3 c3] 25) = V := ⟨_, rfl⟩
  have h3 := b3.alloc b3.size (.cells #[.int .i64 K3, .string X3, .int .i64 Z3, .slice A3 m3 c3] 25)
  have hbu := Bx.made hr
  rw [hV3] at h3 hbu
  have BU := hidE hbu
  have BT3 := hidE (BT.out.below h3)
  have B3 : Hid (Below w.heap.size w V3) := hidE (B2.out.trans (h3.mono B2.out.size))
  clear b3 h3 hr hbu HR BT
  obtain ⟨x0, x1, x2, x3⟩ := BT3.out.cells
  obtain ⟨y0, y1, y2, y3⟩ := BU.out.cells
  go_wp2_with fail
  refine (S1.out V3 _ _ BT3.out.rn BU.out.rn).mono ?_
  rintro e w4 ⟨rfl, b4⟩
  have BT4 := hidE (BT3.out.below b4)
  have BU4 := hidE (BU.out.below b4)
  have B4 : Hid (Below w.heap.size w w4) := hidE (below_tr B3.out b4)
  clear b4 BT3 BU S1
  obtain ⟨x0, x1, x2, x3⟩ := BT4.out.cells
  obtain ⟨y0, y1, y2, y3⟩ := BU4.out.cells
  go_wp2_with fail
  refine (S2.out w4 _ _ BU4.out.rn BT4.out.rn).mono ?_
  rintro e w5 ⟨rfl, b5⟩
  have BT5 := hidE (BT4.out.below b5)
  have BU5 := hidE (BU4.out.below b5)
  have B5 : Hid (Below w.heap.size w w5) := hidE (below_tr B4.out b5)
  clear b5 BT4 BU4 S2
  obtain ⟨x0, x1, x2, x3⟩ := BT5.out.cells
  go_wp2_with fail
  refine (S3.out w5 _ BT5.out.rn).mono ?_
  rintro e w6 ⟨rfl, b6⟩
  have BT6 := hidE (BT5.out.below b6)
  have BU6 := hidE (BU5.out.below b6)
  have B6 : Hid (Below w.heap.size w w6) := hidE (below_tr B5.out b6)
  clear b6 BT5 BU5 S3
  -- the free names
  have B0 : Hid (Below w6.heap.size w6 w6.drew) := hidE (Below.refl _ w6).drew
  have SOF : Hid (∀ W, Below w6.heap.size w6 W → (W.cell? ⟨w2.heap.size, 0, none⟩ = some (.int .i64 K) ∧ W.cell? ⟨w2.heap.size, 1, none⟩ = some (.string X) ∧ W.cell? ⟨w2.heap.size, 2, none⟩ = some (.int .i64 Z) ∧ W.cell? ⟨w2.heap.size, 3, none⟩ = some (.slice A m c) ∧
      W.cell? ⟨w3.heap.size, 0, none⟩ = some (.int .i64 K3) ∧ W.cell? ⟨w3.heap.size, 1, none⟩ = some (.string X3) ∧ W.cell? ⟨w3.heap.size, 2, none⟩ = some (.int .i64 Z3) ∧ W.cell? ⟨w3.heap.size, 3, none⟩ = some (.slice A3 m3 c3))) :=
    hidE fun W h => by
      have t1 := (BT6.out.below h).cells
      have t2 := (BU6.out.below h).cells
      exact ⟨t1.1, t1.2.1, t1.2.2.1, t1.2.2.2, t2.1, t2.2.1, t2.2.2.1, t2.2.2.2⟩
  go_wp2_with fail
  go_region_held3 (fun W => W.cell? ⟨w2.heap.size, 0, none⟩ = some (.int .i64 K) ∧ W.cell? ⟨w2.heap.size, 1, none⟩ = some (.string X) ∧ W.cell? ⟨w2.heap.size, 2, none⟩ = some (.int .i64 Z) ∧ W.cell? ⟨w2.heap.size, 3, none⟩ = some (.slice A m c) ∧
      W.cell? ⟨w3.heap.size, 0, none⟩ = some (.int .i64 K3) ∧ W.cell? ⟨w3.heap.size, 1, none⟩ = some (.string X3) ∧ W.cell? ⟨w3.heap.size, 2, none⟩ = some (.int .i64 Z3) ∧ W.cell? ⟨w3.heap.size, 3, none⟩ = some (.slice A3 m3 c3)) (first | (with_reducible exact SOF.out _ B0.out))
    ((first
      | ((with_reducible refine (F1.out _ _ (BT6.out.below B0.out).rn).mono ?_); rintro e w9 ⟨A9, c9, rfl, hr9, b9⟩; (try replace R2 := hidE (R2.out.below b9)); have R1 := hidE hr9; replace B0 := hidE (below_tr B0.out b9); clear hr9 b9)
      | ((with_reducible refine (F2.out _ _ (BU6.out.below B0.out).rn).mono ?_); rintro e w9 ⟨A9, c9, rfl, hr9, b9⟩; (try replace R1 := hidE (R1.out.below b9)); have R2 := hidE hr9; replace B0 := hidE (below_tr B0.out b9); clear hr9 b9)
      | ((with_reducible refine (N1.out _ _ _ R1.out R2.out).mono ?_); rintro e w9 ⟨rfl, b9⟩; replace B0 := hidE (below_tr B0.out b9); clear b9)))
  all_goals
    clear R1 R2 SOF
    have BT9 := hidE (BT6.out.below B0.out)
    have BU9 := hidE (BU6.out.below B0.out)
    have B9 : Hid (Below w.heap.size w w9) := hidE (below_tr B6.out B0.out)
    clear BT6 BU6 B0
    have B0 : Hid (Below w9.heap.size w9 w9.drew) := hidE (Below.refl _ w9).drew
    have SOF : Hid (∀ W, Below w9.heap.size w9 W → (W.cell? ⟨w2.heap.size, 0, none⟩ = some (.int .i64 K) ∧ W.cell? ⟨w2.heap.size, 1, none⟩ = some (.string X) ∧ W.cell? ⟨w2.heap.size, 2, none⟩ = some (.int .i64 Z) ∧ W.cell? ⟨w2.heap.size, 3, none⟩ = some (.slice A m c) ∧
        W.cell? ⟨w3.heap.size, 0, none⟩ = some (.int .i64 K3) ∧ W.cell? ⟨w3.heap.size, 1, none⟩ = some (.string X3) ∧ W.cell? ⟨w3.heap.size, 2, none⟩ = some (.int .i64 Z3) ∧ W.cell? ⟨w3.heap.size, 3, none⟩ = some (.slice A3 m3 c3))) :=
      hidE fun W h => by
        have t1 := (BT9.out.below h).cells
        have t2 := (BU9.out.below h).cells
        exact ⟨t1.1, t1.2.1, t1.2.2.1, t1.2.2.2, t2.1, t2.2.1, t2.2.2.1, t2.2.2.2⟩
    go_wp2_with fail
    go_region_held3 (fun W => W.cell? ⟨w2.heap.size, 0, none⟩ = some (.int .i64 K) ∧ W.cell? ⟨w2.heap.size, 1, none⟩ = some (.string X) ∧ W.cell? ⟨w2.heap.size, 2, none⟩ = some (.int .i64 Z) ∧ W.cell? ⟨w2.heap.size, 3, none⟩ = some (.slice A m c) ∧
        W.cell? ⟨w3.heap.size, 0, none⟩ = some (.int .i64 K3) ∧ W.cell? ⟨w3.heap.size, 1, none⟩ = some (.string X3) ∧ W.cell? ⟨w3.heap.size, 2, none⟩ = some (.int .i64 Z3) ∧ W.cell? ⟨w3.heap.size, 3, none⟩ = some (.slice A3 m3 c3)) (first | (with_reducible exact SOF.out _ B0.out))
      ((first
        | ((with_reducible refine (M1.out _ _ (BT9.out.below B0.out).rn).mono ?_); rintro e w10 ⟨A10, c10, rfl, hr10, b10⟩; (try replace R2 := hidE (R2.out.below b10)); have R1 := hidE hr10; replace B0 := hidE (below_tr B0.out b10); clear hr10 b10)
        | ((with_reducible refine (M2.out _ _ (BU9.out.below B0.out).rn).mono ?_); rintro e w10 ⟨A10, c10, rfl, hr10, b10⟩; (try replace R1 := hidE (R1.out.below b10)); have R2 := hidE hr10; replace B0 := hidE (below_tr B0.out b10); clear hr10 b10)
        | ((with_reducible refine (N2.out _ _ _ R1.out R2.out).mono ?_); rintro e w10 ⟨rfl, b10⟩; replace B0 := hidE (below_tr B0.out b10); clear b10)))
    all_goals
      clear R1 R2 SOF
      have BT10 := hidE (BT9.out.below B0.out)
      have BU10 := hidE (BU9.out.below B0.out)
      have B10 : Hid (Below w.heap.size w w10) := hidE (below_tr B9.out B0.out)
      clear BT9 BU9 B0
      obtain ⟨x0, x1, x2, x3⟩ := BT10.out.cells
      go_wp2_with fail
      refine (D1.out w10 _ BT10.out.rn).mono ?_
      rintro e w11 ⟨rfl, b11⟩
      have BT11 := hidE (BT10.out.below b11)
      have BU11 := hidE (BU10.out.below b11)
      have B11 : Hid (Below w.heap.size w w11) := hidE (below_tr B10.out b11)
      clear b11 BT10 BU10
      obtain ⟨y0, y1, y2, y3⟩ := BU11.out.cells
      go_wp2_with fail
      refine (D2.out w11 _ BU11.out.rn).mono ?_
      rintro e w12 ⟨rfl, b12⟩
      have BT12 := hidE (BT11.out.below b12)
      have BU12 := hidE (BU11.out.below b12)
      have B12 : Hid (Below w.heap.size w w12) := hidE (below_tr B11.out b12)
      clear b12 BT11 BU11
      obtain ⟨x0, x1, x2, x3⟩ := BT12.out.cells
      go_wp2_with fail
      refine (C1.out w12 _ BT12.out.rn (TB.out _ _ B12.out (Below.refl _ _))).mono ?_
      rintro e w13 ⟨rfl, b13⟩
      have BU13 := hidE (BU12.out.below b13)
      have B13 : Hid (Below w.heap.size w w13) := hidE (below_tr B12.out b13)
      clear b13 BT12 BU12
      obtain ⟨y0, y1, y2, y3⟩ := BU13.out.cells
      go_wp2_with fail
      refine (C2.out w13 _ BU13.out.rn (TB.out _ _ B13.out (Below.refl _ _))).mono ?_
      rintro e w14 ⟨rfl, b14⟩
      have B14 : Hid (Below w.heap.size w w14) := hidE (below_tr B13.out b14)
      clear b14 BU13
      cases q with
      | true =>
        obtain ⟨rfl, rfl, rfl⟩ := HFREE.out rfl
        go_wp2_with fail
        go_ret
        exact ⟨rfl, B14.out⟩
      | false =>
        go_wp2_with fail
        go_ret
        exact ⟨rfl, B14.out⟩

theorem walk (s r : ByteArray) (w : World) (ht : Tab w) (hs : s.size ≤ maxLen) (hr : r.size ≤ maxLen) :
    Calls Tryz.prog 7 #[.string s, .string r] w fun e w' => e = .returned (.bool true) ∧ Below w.heap.size w w' := by
  by_cases h : errN s.data.toList = 0 ∧ errN r.data.toList = 0
  · obtain ⟨h1, h2⟩ := h
    obtain ⟨t, e1⟩ := errN_zero h1
    obtain ⟨u, e2⟩ := errN_zero h2
    exact walk_yes s r t u e1 e2 w ht hs hr
  · exact walk_no s r w ht hs hr h

/-! ### the row's step -/
theorem lifted (os : Os) (started : os.Started) (H : Type) (enc : TypeId × Value → H) :
    ReturnsInHanded {} Tryz.checked os 7 .any (fun w args => (Rows.typesSameSpec.pre enc Tryz.prog Tryz.f7 Rows.typesSameRow.domain false w args ∧ laidMetH Tryz.prog theLaid w) ∧ sizedMet enc Tryz.prog Tryz.f7 (OpenSpec.ofChange Rows.typesSameSpec) false w args)
      (Rows.typesSameSpec.post enc Tryz.prog Tryz.f7 false true false false) := by
  refine returnsInHanded_of_change_and (C := Tryz.checked) (X := fun w _ => laidMetH Tryz.prog theLaid w) (fun _ _ _ hh h => h.of_heap hh) ownK started (by kernel_rfl) Tryz.func7
    (ChangeSpec.witness_shaped (enc := enc) (C := Tryz.checked) (os := os) (X := fun w _ => laidMetH Tryz.prog theLaid w) false (World.laidAll Tryz.prog os theLaid) #[.string ⟨#[]⟩, .string ⟨#[]⟩] 8 (World.laidAll_os _ _ _)
      (start_shaped os) (by kernel_rfl) (by kernel_rfl) (by kernel_rfl)
      (start_met os _)) ?_
  intro W base args ds gs before hval0 hW hc _ hL _
  have hval : ∀ (j : Nat) t v, Tryz.f7.params[j]? = some t → args[j]? = some v → Value.okWide Tryz.prog W .any base t v := hval0
  have hW' := hW
  obtain ⟨p, q, hA0, hV, rfl, _, _⟩ := hW
  have hA : DataW.TrodAll enc Tryz.prog W 0 (fun _ => true) true Tryz.f7.params.toList args.toList ds p := hA0
  rw [Tryz.params7] at hA hval
  obtain ⟨v0, vs0, d0, ds0, p0, q0, hg0, rfl, rfl, h0, r0⟩ := trodAll_cons hA
  obtain ⟨v1, vs1, d1, ds1, p1, q1, hg1, rfl, rfl, h1, r1⟩ := trodAll_cons r0
  obtain ⟨rfl, rfl, rfl⟩ := trodAll_nil r1
  subst hg1
  obtain rfl : args = #[v0, v1] := by cases args; simp_all
  obtain ⟨rfl, rfl⟩ := trodVars_none hV
  obtain ⟨a0, rfl, rfl, rfl, w0⟩ := open_string Tryz.underlying9 (hval 0 9 v0 rfl rfl) h0
  obtain ⟨a1, rfl, rfl, rfl, w1⟩ := open_string Tryz.underlying9 (hval 1 9 v1 rfl rfl) h1
  clear hA0 hval0
  simp only [List.append_nil] at hW'
  refine (walk a0 a1 W (tab_of_laid hL) w0 w1).mono fun e W' ⟨he, hg⟩ => ?_
  subst he
  exact ⟨_, rfl, _, _, _, [], [], [], hW', trodAll_cons_mk (shut_bool Tryz.underlying4 _) trodAll_mk0, (trodAll_cons_mk (shut_string Tryz.underlying9 w0) (trodAll_cons_mk (shut_string Tryz.underlying9 w1) trodAll_mk0)), rfl, hg.frame _, fun h => by cases h⟩

theorem over : Rows.typesSameRow.holds Tryz.pinned (OpenSpec.ofChange Rows.typesSameSpec) :=
  OpenClaim.holds_of_wide 7 Tryz.f7 rfl rfl rfl rfl rfl rfl rfl ⟨rfl, rfl, rfl, rfl, rfl⟩ rfl rfl rfl rfl rfl (by kernel_rfl) Tryz.func7 (by kernel_rfl)
    (of_decide_eq_true (by kernel_rfl)) (by unfold Func.isWrapper; first | (rw [if_pos (by decide +kernel)]; kernel_rfl) | (rw [if_neg (by decide +kernel)]; exact ⟨rfl, rfl⟩))
    (fun os started H enc _ => lifted os started H enc)

/-- the statement: the tied card -/
theorem proved : Rows.TypesSameCardSaid :=
  Claim7.holds_tied_plain_at .later [] [.data, .data, .data, .sentinel, .sentinel] true _ true
    over (fun _ h => by cases h) (by kernel_rfl) (fun _ h => by cases h) typesSame_row_tie rfl ⟨rfl, rfl⟩ (by kernel_rfl) rfl
    (fun f fn hf hfn => by
      obtain rfl : f = 7 := Option.some.inj ((show Tryz.prog.funcNamed "savant/savantlaw02.TypesSame" = some 7 by kernel_rfl).symm.trans hf) |>.symm
      obtain rfl : fn = Tryz.f7 := (Option.some.inj (Tryz.func7.symm.trans hfn)).symm
      exact ⟨by kernel_rfl, fun j t ht => by
        rw [Tryz.params7] at ht
        have hm : t ∈ [9, 9] := by
          simpa using Array.mem_of_getElem? ht
        have hall : ([9, 9].all fun u => !Tryz.prog.wantsStandIn u) = true := by kernel_rfl
        exact (show Tryz.prog.wantsStandIn t = false by simpa using List.all_eq_true.1 hall t hm)⟩)
    (by kernel_rfl)
#print axioms proved
end Go.Proofs.YtnpklimlggffjaaGreatDoor.typesSame
