/-
  savantlaw03.MatchNone, whatever the texts and the names: without names those alone match that are the same; with them a type matches itself.
-/
import Derived.Test.YtaomnlcplmkokaaGreatDoorBuAF
import Derived.Test.YtaomnlcplmkokaaGreatDoorCards
import Derived.Test.YtaomnlcplmkokaaGreatDoorTie
import Derived.SevenTiedAt
import Derived.Deep.Cut
import Derived.SliceStrings
namespace Go.Proofs.YtaomnlcplmkokaaGreatDoor.matchNone
open Go.ChangeShapes Go.WideShapes Go.ChangeAt Go.RowKit Lx Tx Go.Shelf
open Go.ChangeMaps (open_string shut_string)
set_option maxRecDepth 100000

theorem room_self (vars : List Name) (p t : Ty) (hnt : Nm t) (hp : p.size ≤ 1000) (ht : t.size ≤ 1000) : (freeIn (placeM (foundM vars p t)) p).length ≤ 90000000 := by
  have h1 := freeIn_placeM (foundM vars p t) p 1000 (fun t' u h => (place_sub (found_sub vars 1000 p t hnt ht) t' u h).2)
  omega
theorem own_all (vars : List Name) (p : Ty) (hn : Nm p) (h : p.size ≤ 1000) : matchB vars p p :=
  (match_iff vars p p (by omega) (room_self vars p p hn h h)).2 (match_self vars p)
theorem none_iff (p t : Ty) (hnt : Nm t) (hp : p.size ≤ 1000) (ht : t.size ≤ 1000) : matchB [] p t ↔ (smT [] [] p t 0).1 = true :=
  ((match_iff [] p t (by omega) (room_self [] p t hnt hp ht)).trans (match_none p t)).trans (same_iff p t).symm
theorem self_list (vars : List Name) (p : Ty) : ∀ e ∈ listM (foundM vars p p) (freeL p), e.2 = .var e.1 := fun e he => found_self vars p _ _ (listM_mem _ _ e he).2
theorem var_cells {S : Nat → Prop} {w : World} {x : Name} {k : Int} {x5 : ByteArray} {z : Int} {a : Option Addr} {m p : Nat} (h : RdV S w (.var x) (.agg #[.int .i64 k, .string x5, .int .i64 z, .slice a m p])) : k = 1 ∧ x5 = ⟨x.toArray⟩ := by
  obtain ⟨A, c, h, -⟩ := h
  simp [kd, nmB] at h
  exact ⟨h.1, h.2.1⟩

/-- Match with no names: no bindings, and whether the types are the same -/
theorem tc_none (p t : Ty) (v u : Value) (w : World) (ht : Tab w) (hv : RdN w p v) (hu : RdN w t u) (hnp : Nm p) (hnt : Nm t) (hp : p.size ≤ 1000) (hst : t.size ≤ 1000) :
    Calls Tryz.prog 11 #[v, u, .slice none 0 0] w fun e w' => (∃ Al cl, e = .returned (.tuple #[.slice Al 0 cl, .bool (smT [] [] p t 0).1])) ∧ Below w.heap.size w w' := by
  refine (tc_MatchA p t [] _ _ v u none 0 0 w ht hv hu (fun _ h => h) (fun _ h => h) ⟨none, 0, rfl, fun h => by cases h⟩ rfl (fun x hx => by cases hx) (by decide) hnp hnt hp hst).mono ?_
  rintro e w' ⟨hb, hor⟩
  refine ⟨?_, hb⟩
  rcases hor with ⟨hm, Al, n, cl, rfl, q, hrel, hq, -⟩ | ⟨hm, rfl⟩
  · rw [found_nil, listM_nil] at hrel
    have h0 := RelV.len _ q hrel
    have hn : n = 0 := by rw [← hq, ← h0]; rfl
    subst hn
    exact ⟨Al, cl, by rw [(none_iff p t hnt hp hst).1 hm]⟩
  · cases hs : (smT [] [] p t 0).1 with
    | true => exact absurd ((none_iff p t hnt hp hst).2 hs) hm
    | false => exact ⟨none, 0, rfl⟩
/-- Match of a type with itself -/
theorem tc_own (p : Ty) (vars : List Name) (v : Value) (A1 : Option Addr) (nv cv : Nat) (w : World) (ht : Tab w) (hv : RdN w p v) (hvs : RowA w (.slice A1 nv cv) (strV vars)) (hnv : vars.length = nv) (hl : ∀ x ∈ vars, x.length ≤ maxLen) (hvl : nv ≤ 20) (hn : Nm p) (hp : p.size ≤ 1000) :
    Calls Tryz.prog 11 #[v, v, .slice A1 nv cv] w fun e w' => (∃ Al n cl, e = .returned (.tuple #[.slice Al n cl, .bool true]) ∧ BindR (fun g => g < w.heap.size) w.heap.size w' (.slice Al n cl) n (listM (foundM vars p p) (freeL p))) ∧ Below w.heap.size w w' := by
  refine (tc_MatchA p p vars _ _ v v A1 nv cv w ht hv hv (fun _ h => h) (fun _ h => h) hvs hnv hl (by omega) hn hn hp hp).mono ?_
  rintro e w' ⟨hb, hor⟩
  refine ⟨?_, hb⟩
  obtain ⟨-, Al, n, cl, rfl, hbr⟩ := hor.resolve_right (fun h => h.1 (own_all vars p hn hp))
  exact ⟨Al, n, cl, rfl, hbr⟩
theorem listM_len (r : List (Name × Ty)) : (l : List Name) → (listM r l).length ≤ l.length
  | [] => by rw [listM]; exact Nat.le_refl _
  | x :: l => by
    have h := listM_len r l
    rw [listM]
    cases look x r with
    | none => exact Nat.le_succ_of_le h
    | some u => exact Nat.succ_le_succ h
/-- at the head of each round -/
def HeadN (n : Nat) (w0 : World) (gg : Nat) (vi : Value) (wr : World) : Prop := ∃ i : Nat, gg = n - i ∧ vi = .int .i64 (i : Nat) ∧ i ≤ n ∧ Below w0.heap.size w0 wr

set_option maxHeartbeats 12800000 in
theorem walk (s1 s2 : ByteArray) (A9 : Option Addr) (nv cv : Nat) (vars : List Name) (w : World) (ht : Tab w) (hs1 : s1.size ≤ maxLen) (hs2 : s2.size ≤ maxLen) (hvs : RowA w (.slice A9 nv cv) (strV vars)) (hnv : vars.length = nv) (hl : ∀ x ∈ vars, x.length ≤ maxLen) (hmx : nv ≤ maxLen) :
    Calls Tryz.prog 7 #[.string s1, .string s2, .slice A9 nv cv] w fun e w' => e = .returned (.bool true) ∧ Below w.heap.size w w' := by
  have HT := hidE ht
  have HAW := hidE (tc_awake w ht)
  have HP1 := hidE (fun w => tc_readAny s1 w hs1)
  have HP2 := hidE (fun w => tc_readAny s2 w hs2)
  have HVS := hidE hvs
  have HNV := hidE hnv
  have HL := hidE hl
  clear ht hs1 hs2 hvs hnv hl
  go_enter Tryz.func7, Tryz.ntmps7
  go_wp2_with fail
  refine HAW.out.mono ?_
  rintro e wa ⟨rfl, hbb⟩
  have BW : Hid (Below w.heap.size w wa) := hidE hbb
  clear hbb HAW
  go_wp2_with fail
  refine (HP1.out _).mono ?_
  rintro e w1 ⟨K1, X1, Z1, A1, m1, c1, Kr1, Xr1, Zr1, Ar1, mr1, cr1, q1, rfl, b1, hy⟩
  obtain ⟨V1, hV1⟩ : ∃ V, (w1.alloc (.cells #[.int .i64 K1, .string X1, .int .i64 Z1, .slice A1 m1 c1] 26)).alloc (.cells #[.int .i64 Kr1, .string Xr1, .int .i64 Zr1, .slice Ar1 mr1 cr1] 29) = V := ⟨_, rfl⟩
  have hbk : Blk ((w1.alloc (.cells #[.int .i64 K1, .string X1, .int .i64 Z1, .slice A1 m1 c1] 26)).alloc (.cells #[.int .i64 Kr1, .string Xr1, .int .i64 Zr1, .slice Ar1 mr1 cr1] 29)) w1.heap.size 26 #[.int .i64 K1, .string X1, .int .i64 Z1, .slice A1 m1 c1] := Blk.below (heap_alloc_new w1 _) ((Below.refl _ _).alloc (Nat.le_refl _) _) (by simp)
  have hba : Below w1.heap.size w1 ((w1.alloc (.cells #[.int .i64 K1, .string X1, .int .i64 Z1, .slice A1 m1 c1] 26)).alloc (.cells #[.int .i64 Kr1, .string Xr1, .int .i64 Zr1, .slice Ar1 mr1 cr1] 29)) := ((Below.refl _ w1).alloc (Nat.le_refl _) _).alloc (by rw [size_alloc]; exact Nat.le_succ _) _
  have hri : RdIf s1 q1 ((w1.alloc (.cells #[.int .i64 K1, .string X1, .int .i64 Z1, .slice A1 m1 c1] 26)).alloc (.cells #[.int .i64 Kr1, .string Xr1, .int .i64 Zr1, .slice Ar1 mr1 cr1] 29)) (.agg #[.int .i64 K1, .string X1, .int .i64 Z1, .slice A1 m1 c1]) := fun hq => by
    obtain ⟨t, h1, h2, -⟩ := hy hq
    exact ⟨t, h1, h2.below hba⟩
  have hbb : Below wa.heap.size wa ((w1.alloc (.cells #[.int .i64 K1, .string X1, .int .i64 Z1, .slice A1 m1 c1] 26)).alloc (.cells #[.int .i64 Kr1, .string Xr1, .int .i64 Zr1, .slice Ar1 mr1 cr1] 29)) := b1.trans (hba.mono b1.size)
  rw [hV1] at hbk hri hbb
  replace BW : Hid (Below w.heap.size w V1) := hidE (BW.out.trans (hbb.mono BW.out.size))
  have BK1 := hidE hbk
  have RI1 := hidE hri
  have HV := hidE hV1
  clear hbk hba hri hbb hy b1 hV1 HP1
  go_upto_region 3 with fail
  rw [HV.out]
  clear HV
  go_wp2_with fail
  refine (HP2.out _).mono ?_
  rintro e w2 ⟨K2, X2, Z2, A2, m2, c2, Kr2, Xr2, Zr2, Ar2, mr2, cr2, q2, rfl, b2, hy⟩
  obtain ⟨V2, hV2⟩ : ∃ V, (w2.alloc (.cells #[.int .i64 K2, .string X2, .int .i64 Z2, .slice A2 m2 c2] 26)).alloc (.cells #[.int .i64 Kr2, .string Xr2, .int .i64 Zr2, .slice Ar2 mr2 cr2] 29) = V := ⟨_, rfl⟩
  have hbk : Blk ((w2.alloc (.cells #[.int .i64 K2, .string X2, .int .i64 Z2, .slice A2 m2 c2] 26)).alloc (.cells #[.int .i64 Kr2, .string Xr2, .int .i64 Zr2, .slice Ar2 mr2 cr2] 29)) w2.heap.size 26 #[.int .i64 K2, .string X2, .int .i64 Z2, .slice A2 m2 c2] := Blk.below (heap_alloc_new w2 _) ((Below.refl _ _).alloc (Nat.le_refl _) _) (by simp)
  have hba : Below w2.heap.size w2 ((w2.alloc (.cells #[.int .i64 K2, .string X2, .int .i64 Z2, .slice A2 m2 c2] 26)).alloc (.cells #[.int .i64 Kr2, .string Xr2, .int .i64 Zr2, .slice Ar2 mr2 cr2] 29)) := ((Below.refl _ w2).alloc (Nat.le_refl _) _).alloc (by rw [size_alloc]; exact Nat.le_succ _) _
  have hri : RdIf s2 q2 ((w2.alloc (.cells #[.int .i64 K2, .string X2, .int .i64 Z2, .slice A2 m2 c2] 26)).alloc (.cells #[.int .i64 Kr2, .string Xr2, .int .i64 Zr2, .slice Ar2 mr2 cr2] 29)) (.agg #[.int .i64 K2, .string X2, .int .i64 Z2, .slice A2 m2 c2]) := fun hq => by
    obtain ⟨t, h1, h2, -⟩ := hy hq
    exact ⟨t, h1, h2.below hba⟩
  have hbb : Below V1.heap.size V1 ((w2.alloc (.cells #[.int .i64 K2, .string X2, .int .i64 Z2, .slice A2 m2 c2] 26)).alloc (.cells #[.int .i64 Kr2, .string Xr2, .int .i64 Zr2, .slice Ar2 mr2 cr2] 29)) := b2.trans (hba.mono b2.size)
  rw [hV2] at hbk hri hbb
  replace BW : Hid (Below w.heap.size w V2) := hidE (BW.out.trans (hbb.mono BW.out.size))
  replace BK1 := hidE (BK1.out.below hbb BK1.out.lt)
  replace RI1 := hidE (RI1.out.below hbb)
  have BK2 := hidE hbk
  have RI2 := hidE hri
  have HV := hidE hV2
  clear hbk hba hri hbb hy b2 hV2 HP2
  go_upto_region 4 with fail
  rw [HV.out]
  clear HV
  unfold maxLen at hmx
  by_cases hall : (q1 = true ∧ q2 = true) ∧ nv ≤ 20
  · obtain ⟨⟨rfl, rfl⟩, hv20⟩ := hall
    obtain ⟨t1, hrt1, hrd1⟩ := RI1.out rfl
    obtain ⟨t2, hrt2, hrd2⟩ := RI2.out rfl
    obtain ⟨hn1, hz1⟩ := readsTo_facts hrt1
    obtain ⟨hn2, hz2⟩ := readsTo_facts hrt2
    have RD1 := hidE hrd1
    have RD2 := hidE hrd2
    have HN1 := hidE hn1
    have HN2 := hidE hn2
    have hz1' : t1.size ≤ 1000 := by omega
    have hz2' : t2.size ≤ 1000 := by omega
    clear RI1 RI2 hrt1 hrt2 hrd1 hrd2 hn1 hn2 hz1 hz2
    obtain ⟨x0, x1, x2, x3⟩ := blk4 BK1.out
    obtain ⟨y0, y1, y2, y3⟩ := blk4 BK2.out
    have hmt := tc_none t1 t2 _ _ V2 (HT.out.below BW.out) RD1.out RD2.out HN1.out HN2.out hz1' hz2'
    obtain ⟨qs, hqs⟩ : ∃ qs, (smT [] [] t1 t2 0).1 = qs := ⟨_, rfl⟩
    rw [hqs] at hmt
    have HI := hidE hmt
    have HQS := hidE hqs
    clear hmt hqs
    go_wp2_with fail
    refine HI.out.mono ?_
    rintro e w21 ⟨⟨Al, cl, rfl⟩, hbb⟩
    replace BW : Hid (Below w.heap.size w w21) := hidE (BW.out.trans (hbb.mono BW.out.size))
    replace BK1 := hidE (BK1.out.below hbb BK1.out.lt)
    replace BK2 := hidE (BK2.out.below hbb BK2.out.lt)
    replace RD1 := hidE (RD1.out.below hbb)
    replace RD2 := hidE (RD2.out.below hbb)
    clear hbb HI x0 x1 x2 x3 y0 y1 y2 y3
    obtain ⟨x0, x1, x2, x3⟩ := blk4 BK1.out
    obtain ⟨y0, y1, y2, y3⟩ := blk4 BK2.out
    have hsm := tc_Same t1 t2 _ _ _ _ w21 RD1.out RD2.out (fun _ h => h) (fun _ h => h) HN1.out HN2.out (by omega)
    rw [HQS.out] at hsm
    have HI := hidE hsm
    clear hsm
    go_wp2_with fail
    refine HI.out.mono ?_
    rintro e w22 ⟨rfl, hbb⟩
    replace BW : Hid (Below w.heap.size w w22) := hidE (BW.out.trans (hbb.mono BW.out.size))
    replace BK1 := hidE (BK1.out.below hbb BK1.out.lt)
    replace RD1 := hidE (RD1.out.below hbb)
    clear hbb HI x0 x1 x2 x3 y0 y1 y2 y3 BK2 RD2
    obtain ⟨x0, x1, x2, x3⟩ := blk4 BK1.out
    have HI := hidE (tc_own t1 vars _ A9 nv cv w22 (HT.out.below BW.out) RD1.out (HVS.out.below BW.out) HNV.out HL.out hv20 HN1.out hz1')
    go_wp2_with fail
    refine HI.out.mono ?_
    rintro e w23 ⟨⟨Am, n, cm, rfl, hbr⟩, hbb⟩
    replace BW : Hid (Below w.heap.size w w23) := hidE (BW.out.trans (hbb.mono BW.out.size))
    have SZ : Hid (w22.heap.size ≤ w23.heap.size) := hidE hbb.size
    obtain ⟨q, hrel, hq, hown⟩ := hbr
    have hln : (listM (foundM vars t1 t1) (freeL t1)).length = n := by rw [RelV.len _ q hrel, hq]
    have hn6 : n ≤ 1000000 := by
      have h1 := freeL_len t1
      have h2 := listM_len (foundM vars t1 t1) (freeL t1)
      omega
    have HREL := hidE hrel
    have HQ := hidE hq
    have HOWN := hidE hown
    have HLN := hidE hln
    clear hrel hq hown hln hbb HI x0 x1 x2 x3 BK1 RD1
    go_wp2_with fail
    go_loopg [19] n (fun gg vi wr => HeadN n w23 gg vi wr)
    case atStart => exact ⟨0, rfl, rfl, Nat.zero_le _, Below.refl _ _⟩
    case round =>
      obtain ⟨i, rfl, rfl, hin, hbw⟩ := hrel
      have HBW := hidE hbw
      clear hbw
      by_cases hlt : i < n
      · have hil : i < (listM (foundM vars t1 t1) (freeL t1)).length := by rw [HLN.out]; exact hlt
        have hiq : i < q.length := by rw [HQ.out]; exact hlt
        obtain ⟨g, rfl, hg1, hg2⟩ := bind_cell HOWN.out hlt
        obtain ⟨c0, c1, c2, -, -⟩ := bindV_at q i hiq
        obtain ⟨hx, hrd⟩ := RelV.at _ q i hil hiq HREL.out
        have hself := self_list vars t1 _ (List.getElem_mem hil)
        rw [← hx] at c0
        obtain ⟨⟨x, t⟩, he⟩ : ∃ e, (listM (foundM vars t1 t1) (freeL t1))[i] = e := ⟨_, rfl⟩
        obtain ⟨⟨y, k5, x5, z5, a5, m5, p5⟩, hq'⟩ : ∃ e, q[i] = e := ⟨_, rfl⟩
        rw [he] at hself c0 hrd
        rw [hq'] at c1 c2 hrd
        replace hself : t = .var x := hself
        subst hself
        obtain ⟨rfl, rfl⟩ := var_cells (show RdV _ w23 (.var x) (.agg #[.int .i64 k5, .string x5, .int .i64 z5, .slice a5 m5 p5]) from hrd)
        obtain ⟨PX, hPX⟩ : ∃ PX : ByteArray, (⟨x.toArray⟩ : ByteArray) = PX := ⟨_, rfl⟩
        have hk := HBW.out.block g hg1
        have d0 := hg2 wr hk _ _ c0
        have d1 := hg2 wr hk _ _ c1
        have d2 := hg2 wr hk _ _ c2
        replace d0 : wr.cell? ⟨g, i * 5, none⟩ = some (.string ⟨x.toArray⟩) := d0
        replace d1 : wr.cell? ⟨g, i * 5 + 1, none⟩ = some (.int .i64 1) := d1
        replace d2 : wr.cell? ⟨g, i * 5 + 2, none⟩ = some (.string ⟨x.toArray⟩) := d2
        rw [hPX] at d0 d2
        clear hil hiq hg2 c0 c1 c2 hx hrd he hq' hPX hk
        go_upto_region 12 with fail
        go_region_held3 (fun W : World => W.cell? ⟨g, i * 5, none⟩ = some (.string PX) ∧ W.cell? ⟨g, i * 5 + 1, none⟩ = some (.int .i64 1) ∧ W.cell? ⟨g, i * 5 + 1 + 1, none⟩ = some (.string PX)) (first | (exact ⟨d0, d1, d2⟩))
          (fail)
        all_goals
          go_wp2_with fail
          go_roundg (n - (i + 1))
          case measure => omega
          case rel => exact ⟨i + 1, rfl, by go_num, by omega, HBW.out.drew⟩
      · go_wp2_with fail
        cases qs <;> (go_wp2_with fail; go_ret; exact ⟨rfl, BW.out.trans (HBW.out.mono BW.out.size)⟩)
  · cases q1 with
    | false =>
      go_wp2_with fail
      go_ret
      exact ⟨rfl, BW.out⟩
    | true =>
      cases q2 with
      | false =>
        go_wp2_with fail
        go_ret
        exact ⟨rfl, BW.out⟩
      | true =>
        have h20 : 20 < nv := by
          rcases Nat.lt_or_ge 20 nv with h | h
          · exact h
          · exact absurd ⟨⟨rfl, rfl⟩, h⟩ hall
        clear hall
        go_wp2_with fail
        go_ret
        exact ⟨rfl, BW.out⟩

/-! ### the row's step -/
theorem laidK : laidOutB Tryz.prog = true := by kernel_rfl
theorem und_strs : Tryz.prog.underlying 22 = some (.slice 9) := by kernel_rfl
theorem cells_str : Tryz.prog.cellsOf 9 = 1 := by kernel_rfl
theorem open_vars {H : Type} {enc : TypeId × Value → H} {w : World} {A9 : Option Addr} {nv cv : Nat} {d : DataW H} {p : List MemPlace} (h : DataW.Trod enc Tryz.prog w 0 (fun _ => true) true 22 (.slice A9 nv cv) d p) :
    ∃ vars : List Name, RowA w (.slice A9 nv cv) (strV vars) ∧ vars.length = nv ∧ (∀ x ∈ vars, x.length ≤ maxLen) ∧ nv ≤ maxLen := by
  obtain ⟨fuel, hf⟩ := h
  rcases open_strings und_strs Tryz.underlying9 cells_str hf with ⟨hcs, -⟩ | ⟨a, len, cap, ss, hcs, -, hlc, hm, hz, -, hcell, hsz⟩
  · simp [Value.cells] at hcs
    obtain ⟨rfl, rfl, rfl⟩ := hcs
    exact ⟨[], ⟨none, 0, rfl, fun h => by cases h⟩, rfl, (fun x hx => by cases hx), Nat.zero_le _⟩
  · simp [Value.cells] at hcs
    obtain ⟨rfl, rfl, rfl⟩ := hcs
    have hss : ss.length = cv := by simpa using hz
    have hvl : ((ss.take nv).map fun s => s.data.toList).length = nv := by rw [List.length_map, List.length_take]; omega
    refine ⟨(ss.take nv).map fun s => s.data.toList, ⟨some a, cv, by rw [strV_len, hvl], fun hp => ⟨a, rfl, ?_, fun j u hu => ?_⟩⟩, hvl, fun x hx => ?_, by omega⟩
    · rw [strV_len, hvl] at hp
      have h0 := hcell 0 (by omega)
      rw [← addr_add_block a 0]
      exact World.block_lt_of_cell? _ _ h0
    · have hj : j < nv := by
        have := (List.getElem?_eq_some_iff.1 hu).1
        rwa [strV_len, hvl] at this
      rw [strV_get _ j (by rw [hvl]; exact hj)] at hu
      rw [hcell j (by omega), ← hu]
      simp [List.getD_eq_getElem?_getD, List.getElem?_eq_getElem (show j < ss.length by omega)]
    · obtain ⟨s, hs, rfl⟩ := List.mem_map.1 hx
      have := hsz s (List.mem_of_mem_take hs)
      simpa [Array.length_toList] using this

theorem lifted (os : Os) (started : os.Started) (H : Type) (enc : TypeId × Value → H) :
    ReturnsInHanded {} Tryz.checked os 7 .any (fun w args => (Rows.matchNoneSpec.pre enc Tryz.prog Tryz.f7 Rows.matchNoneRow.domain false w args ∧ laidMetH Tryz.prog theLaid w) ∧ sizedMet enc Tryz.prog Tryz.f7 (OpenSpec.ofChange Rows.matchNoneSpec) false w args)
      (Rows.matchNoneSpec.post enc Tryz.prog Tryz.f7 false true false false) := by
  refine returnsInHanded_of_change_and (C := Tryz.checked) (X := fun w _ => laidMetH Tryz.prog theLaid w) (fun _ _ _ hh h => h.of_heap hh) ownK started (by kernel_rfl) Tryz.func7
    (ChangeSpec.witness_shaped (enc := enc) (C := Tryz.checked) (os := os) (X := fun w _ => laidMetH Tryz.prog theLaid w) false (World.laidAll Tryz.prog os theLaid) #[.string ⟨#[]⟩, .string ⟨#[]⟩, .slice none 0 0] 8 (World.laidAll_os _ _ _)
      (start_shaped os) (by kernel_rfl) (by kernel_rfl) (by kernel_rfl)
      (start_met os _)) ?_
  intro W base args ds gs before hval0 hW hc _ hL _
  have hval : ∀ (j : Nat) t v, Tryz.f7.params[j]? = some t → args[j]? = some v → Value.okWide Tryz.prog W .any base t v := hval0
  have hW' := hW
  obtain ⟨p, q, hA0, hV, rfl, _, _⟩ := hW
  have hA : DataW.TrodAll enc Tryz.prog W 0 (fun _ => true) true Tryz.f7.params.toList args.toList ds p := hA0
  rw [Tryz.params7] at hA hval
  obtain ⟨v0, vs0, d0, ds0, p0, q0, hg0, rfl, rfl, h0, r0⟩ := trodAll_cons hA
  obtain ⟨v1, vs1, d1, ds1, p1, q1, hg1, rfl, rfl, h1, r1⟩ := trodAll_cons r0
  obtain ⟨v2, vs2, d2, ds2, p2, q2, hg2, rfl, rfl, h2, r2⟩ := trodAll_cons r1
  obtain ⟨rfl, rfl, rfl⟩ := trodAll_nil r2
  subst hg2
  subst hg1
  obtain rfl : args = #[v0, v1, v2] := by cases args; simp_all
  obtain ⟨rfl, rfl⟩ := trodVars_none hV
  obtain ⟨a0, rfl, rfl, rfl, w0⟩ := open_string Tryz.underlying9 (hval 0 9 v0 rfl rfl) h0
  obtain ⟨a1, rfl, rfl, rfl, w1⟩ := open_string Tryz.underlying9 (hval 1 9 v1 rfl rfl) h1
  obtain ⟨A9, nv, cv, rfl⟩ := okWide_slice und_strs (hval 2 22 v2 rfl rfl)
  obtain ⟨vars, hvs, hnv, hl, hmx⟩ := open_vars h2
  clear hA0 hval0
  simp only [List.nil_append, List.append_nil] at hW'
  have hlt : ∀ x ∈ p2, x.block < W.heap.size := fun x hx => by simpa using hW'.lt x (by simpa using hx)
  refine (walk a0 a1 A9 nv cv vars W (tab_of_laid hL) w0 w1 hvs hnv hl hmx).mono fun e W' ⟨he, hg⟩ => ?_
  subst he
  have ha := (trodAll_cons_mk (shut_string Tryz.underlying9 w0) (trodAll_cons_mk (shut_string Tryz.underlying9 w1) (trodAll_cons_mk (Below.trod laidK (by kernel_rfl) (of_decide_eq_true (by kernel_rfl)) h2 hg hlt) trodAll_mk0)))
  simp only [List.nil_append, List.append_nil] at ha
  exact ⟨_, rfl, _, _, _, [], p2, [], hW', trodAll_cons_mk (shut_bool Tryz.underlying4 _) trodAll_mk0, ha, rfl, hg.frame _, fun h => by cases h⟩

theorem over : Rows.matchNoneRow.holds Tryz.pinned (OpenSpec.ofChange Rows.matchNoneSpec) :=
  OpenClaim.holds_of_wide 7 Tryz.f7 rfl rfl rfl rfl rfl rfl rfl ⟨rfl, rfl, rfl, rfl, rfl⟩ rfl rfl rfl rfl rfl (by kernel_rfl) Tryz.func7 (by kernel_rfl)
    (of_decide_eq_true (by kernel_rfl)) (by unfold Func.isWrapper; first | (rw [if_pos (by decide +kernel)]; kernel_rfl) | (rw [if_neg (by decide +kernel)]; exact ⟨rfl, rfl⟩))
    (fun os started H enc _ => lifted os started H enc)

/-- the statement: the tied card -/
theorem proved : Rows.MatchNoneCardSaid :=
  Claim7.holds_tied_plain_at .later [] [.data, .data, .data, .sentinel, .sentinel] true _ true
    over (fun _ h => by cases h) (by kernel_rfl) (fun _ h => by cases h) matchNone_row_tie rfl ⟨rfl, rfl⟩ (by kernel_rfl) rfl
    (fun f fn hf hfn => by
      obtain rfl : f = 7 := Option.some.inj ((show Tryz.prog.funcNamed "savant/savantlaw03.MatchNone" = some 7 by kernel_rfl).symm.trans hf) |>.symm
      obtain rfl : fn = Tryz.f7 := (Option.some.inj (Tryz.func7.symm.trans hfn)).symm
      exact ⟨by kernel_rfl, fun j t ht => by
        rw [Tryz.params7] at ht
        have hm : t ∈ [9, 9, 22] := by
          simpa using Array.mem_of_getElem? ht
        have hall : ([9, 9, 22].all fun u => !Tryz.prog.wantsStandIn u) = true := by kernel_rfl
        exact (show Tryz.prog.wantsStandIn t = false by simpa using List.all_eq_true.1 hall t hm)⟩)
    (by kernel_rfl)
#print axioms proved
end Go.Proofs.YtaomnlcplmkokaaGreatDoor.matchNone
