/-
  Contracts of the code's functions, part 8.
-/
import Derived.Test.YtefldbbiajkbnaaGreatDoorDaE
import Derived.Deep.LoopGhost
import Derived.Deep.DeepFit
/-
  The walk over Scan of package lex: its contract.
-/
namespace Go.Proofs.YtefldbbiajkbnaaGreatDoor
open Go.RowKit Lx
set_option maxRecDepth 100000

theorem new_cells (w : World) (cs : Array Value) (t : TypeId) : ∀ j u, cs.toList[j]? = some u → (w.alloc (.cells cs t)).cell? ((⟨w.heap.size, 0, none⟩ : Addr).add j) = some u := by
  intro j u hu
  have hadd : (⟨w.heap.size, 0, none⟩ : Addr).add j = ⟨w.heap.size, j, none⟩ := by unfold Addr.add; split <;> simp_all
  rw [hadd, cell_of_row _ _ _ cs t (0, 0) (heap_alloc_new _ _)]
  simpa using hu

theorem tok_info : (Tryz.prog.info? 147).map (fun i => (i.zero, i.size, i.bytes)) = some (some (.agg #[.int .i64 0, .string ⟨#[]⟩, .int .i64 0]), 3, 32) := by kernel_rfl

/-- what holds at the head of each round: v, the tokens so far; pt, where the token in hand lies -/
def Head (s : ByteArray) (N g : Nat) (w : World) (v pt : Value) (wr : World) : Prop :=
  ∃ i p q k ts bt, g = s.size - i ∧ Step s i p q k ∧ Known s i ts ∧ pt = .pointer (some ⟨bt, 0, none⟩) ∧ Blk wr bt 147 #[.int .i64 (k : Nat), .string (s.extract p q), .int .i64 (p : Nat)] ∧
    Blk wr N 9 #[.string s] ∧ Blk wr (N + 1) 3 #[.int .i64 (q : Nat)] ∧ wr.ownsRow N 147 3 v ts.length (toksV ts) ∧ some bt ≠ v.ownBlock ∧ Below N w wr

theorem head_start (s : ByteArray) (w w1 : World) (p q k : Nat) (st : Step s 0 p q k)
    (hg : ((w.alloc (.cells #[.string s] 9)).alloc (.cells #[.int .i64 0] 3)).grownBy w1 (some (w.heap.size + 1))) (hh : w1.heap[w.heap.size + 1]? = some (.cells #[.int .i64 (q : Nat)] 3 (0, 0))) :
    Head s w.heap.size s.size w (.slice none 0 0) (.pointer (some ⟨w1.heap.size, 0, none⟩)) (w1.alloc (.cells #[.int .i64 (k : Nat), .string (s.extract p q), .int .i64 (p : Nat)] 147)) := by
  have hN : Blk w1 w.heap.size 9 #[.string s] := Blk.grown (w := (w.alloc (.cells #[.string s] 9)).alloc (.cells #[.int .i64 0] 3)) (heap_alloc2_old _ _ _) hg (by simp)
  have hb : Below w.heap.size w w1 := (((Below.refl _ w).alloc (Nat.le_refl _) _).alloc (by simp) _).grown hg (by simp; omega) (fun k hk => by injection hk; omega)
  refine ⟨0, p, q, k, [], w1.heap.size, by omega, st, known_start s, rfl, heap_alloc_new _ _, hN.alloc _, Blk.alloc hh _, World.ownsRow_nil _ _ _ _, by simp [Value.ownBlock], hb.alloc hb.size _⟩

theorem head_next (s : ByteArray) (w wr w2 w3 : World) (u2 v' : Value) (q p2 q2 k2 k p : Nat) (ts : List Tok) (x0 x1 x2 : Value)
    (ST2 : Step s q p2 q2 k2) (KN2 : Known s q (ts ++ [⟨k, (s.data.toList.drop p).take (q - p), p⟩])) (HBEL : Below w.heap.size w wr)
    (HOWN : wr.ownsRow w.heap.size 147 3 u2 ts.length (toksV ts))
    (HGR : (wr.alloc (.cells #[.int .i64 (k : Nat), .string (s.extract p q), .int .i64 (p : Nat)] 147)).grownBy w2 u2.ownBlock)
    (HOW2 : w2.ownsRow w.heap.size 147 3 v' (ts.length + 1) (toksV ts ++ [.int .i64 (k : Nat), .string (s.extract p q), .int .i64 (p : Nat)]))
    (N1 : Blk w2 w.heap.size 9 #[.string s]) (A1 : Blk w2 (w.heap.size + 1) 3 #[.int .i64 (q : Nat)])
    (HG3 : (w2.alloc (.cells #[x0, x1, x2] 147)).grownBy w3 (some (w.heap.size + 1)))
    (HH3 : w3.heap[w.heap.size + 1]? = some (.cells #[.int .i64 (q2 : Nat)] 3 (0, 0))) :
    Head s w.heap.size (s.size - q) w v' (.pointer (some ⟨w2.heap.size, 0, none⟩))
      (((w3.setCell ⟨w2.heap.size, 0, none⟩ (.int .i64 (k2 : Nat))).setCell ⟨w2.heap.size, 1, none⟩ (.string (s.extract p2 q2))).setCell ⟨w2.heap.size, 2, none⟩ (.int .i64 (p2 : Nat))) := by
  have hA := A1.lt
  have hN := N1.lt
  have b0 : Blk w3 w2.heap.size 147 #[x0, x1, x2] := Blk.grown (w := w2.alloc (.cells #[x0, x1, x2] 147)) (heap_alloc_new _ _) HG3 (by simp; omega)
  have b1 := heap_setCell_same _ w2.heap.size 0 _ 147 (.int .i64 (k2 : Nat)) b0
  have b2 := heap_setCell_same _ w2.heap.size 1 _ 147 (.string (s.extract p2 q2)) b1
  have b3 := heap_setCell_same _ w2.heap.size 2 _ 147 (.int .i64 (p2 : Nat)) b2
  have n0 : Blk w3 w.heap.size 9 #[.string s] := (N1.alloc _).grown HG3 (by simp)
  have hlt := HOW2.lt
  have hne : v'.ownBlock ≠ some w2.heap.size := fun e => by have := (hlt _ e).2; omega
  have o1 := (HOW2.alloc (.cells #[x0, x1, x2] 147)).kept HG3 (.inr (fun e => own_blk_ne HOW2 A1 (by decide) e.symm))
  have bl : Below w.heap.size w w2 := (HBEL.alloc HBEL.size _).grown HGR (by have := HBEL.size; simp; omega) (fun m hm => (HOWN.lt m hm).1)
  have bl3 : Below w.heap.size w w3 := (bl.alloc bl.size _).grown HG3 (by have := bl.size; simp; omega) (fun m hm => by injection hm; omega)
  refine ⟨q, p2, q2, k2, ts ++ [⟨k, (s.data.toList.drop p).take (q - p), p⟩], w2.heap.size, rfl, ST2, KN2, rfl, b3, ?_, ?_, ?_, fun e => hne e.symm, ?_⟩
  · exact ((n0.far (p := ⟨w2.heap.size, 0, none⟩) (by simp; omega) _).far (p := ⟨w2.heap.size, 1, none⟩) (by simp; omega) _).far (p := ⟨w2.heap.size, 2, none⟩) (by simp; omega) _
  · exact ((Blk.far (p := ⟨w2.heap.size, 0, none⟩) HH3 (by simp; omega) _).far (p := ⟨w2.heap.size, 1, none⟩) (by simp; omega) _).far (p := ⟨w2.heap.size, 2, none⟩) (by simp; omega) _
  · have o2 := ownsRow_setCell_other (a := ⟨w2.heap.size, 2, none⟩) (ownsRow_setCell_other (a := ⟨w2.heap.size, 1, none⟩) (ownsRow_setCell_other (a := ⟨w2.heap.size, 0, none⟩) o1 hne (.int .i64 (k2 : Nat))) hne (.string (s.extract p2 q2))) hne (.int .i64 (p2 : Nat))
    rw [toksV_snoc, tokV_extract, List.length_append]
    exact o2
  · exact ((bl3.setCell (p := ⟨w2.heap.size, 0, none⟩) (by simp; omega) _).setCell (p := ⟨w2.heap.size, 1, none⟩) (by simp; omega) _).setCell (p := ⟨w2.heap.size, 2, none⟩) (by simp; omega) _

theorem below_drewN' {B : Nat} {a w : World} (h : Below B a w) (n : Nat) : Below B a (w.drewN n) := ⟨h.os, h.tape, h.output, h.size, h.block⟩

theorem scan_ok (s : ByteArray) (ts : List Tok) (hl : s.size ≤ 4000) (h : lex s.data.toList = .ok ts) : scanS s.data.toList = (ts, 0, 0) := by
  unfold scanS
  rw [if_neg (by rw [← Lib.size_eq]; omega), h]
theorem scan_bad (s : ByteArray) (p : Nat) (hl : s.size ≤ 4000) (h : lex s.data.toList = .error p) : scanS s.data.toList = ([], p, 10) := by
  unfold scanS
  rw [if_neg (by rw [← Lib.size_eq]; omega), h]

/-- WHAT Scan LEAVES: the tokens as a row of the call's own, the place, the error. -/
def ScanPost (s : ByteArray) (w : World) (e : Ending) (w' : World) : Prop :=
  Below w.heap.size w w' ∧ ∃ v ts at_ er, scanS s.data.toList = (ts, at_, er) ∧ e = .returned (.tuple #[v, .int .i64 (at_ : Nat), .int .i64 (er : Nat)]) ∧ w'.ownsRow w.heap.size 147 3 v ts.length (toksV ts)

theorem scan_long (s : ByteArray) (w : World) (hs : s.size ≤ maxLen) (hl : 4000 < s.size) : Calls Tryz.prog 85 #[.string s] w (ScanPost s w) := by
  have HS : Hid (scanS s.data.toList = ([], 0, 2)) := by
    refine hidE ?_
    unfold scanS
    rw [if_pos (by rw [← Lib.size_eq]; exact hl)]
  unfold maxLen at hs
  go_enter Tryz.func85, Tryz.ntmps85
  go_wp2
  go_ret3
  exact ⟨Below.refl _ _, _, [], 0, 2, HS.out, rfl, World.ownsRow_nil _ _ _ _⟩

set_option maxHeartbeats 800000 in
theorem scan_short (s : ByteArray) (w : World) (hl : s.size ≤ 4000) : Calls Tryz.prog 85 #[.string s] w (ScanPost s w) := by
  have hm : s.size ≤ maxLen := by unfold maxLen; omega
  obtain ⟨i0, hi0, hz0, hz1, hz2⟩ := info_parts tok_info
  obtain ⟨p0, q0, k0, hst0⟩ := step_of s 0 (Nat.zero_le _)
  have ST0 := hidE hst0
  clear hst0
  go_enter Tryz.func85, Tryz.ntmps85
  go_wp2_with (first
    | (go_at_call 132; refine (reader_any _ _).mono ?_; rintro e w' ⟨rfl, rfl⟩)
    | (go_at_call 163; refine (next_step s 0 p0 q0 k0 (w.heap.size + 1) w.heap.size _ hm ST0.out (by omega) (heap_alloc2_new _ _ _) (heap_alloc2_old _ _ _)).mono ?_; rintro e w1 ⟨rfl, hg1, hh1⟩))
  have hst := head_start s w w1 p0 q0 k0 ST0.out hg1 hh1
  clear hg1 hh1 ST0
  go_loopg [2, 6] s.size (fun g v pt wr => Head s w.heap.size g w v pt wr)
  case atStart => exact hst
  case round =>
    clear hst
    obtain ⟨i, p, q, k, ts, bt, rfl, st, kn, rfl, hbt, hbN, hbA, hown, hne, hbel⟩ := hrel
    have ST := hidE st
    have KN := hidE kn
    have c0 := hbt.cell 0
    have c1 := hbt.cell 1
    have c2 := hbt.cell 2
    simp at c0 c1 c2
    have hps : p ≤ s.size := by have := st.2.1; have := st.2.2.1; omega
    clear st kn
    have HBT := hidE hbt
    have HBN := hidE hbN
    have HBA := hidE hbA
    have HOWN := hidE hown
    have HNE := hidE hne
    have HBEL := hidE hbel
    clear hbt hbN hbA hown hne hbel
    by_cases hlt : p < s.size
    · by_cases hk : k = 0
      · have hkb : ((k : Int) == 0) = true := by rw [hk]; rfl
        have HK := hidE hk
        clear hk
        go_wp2_with fail
        go_quiet (fail)
        go_wp2_with fail
        go_ret3
        exact ⟨below_drewN' HBEL.out _, _, [], p, 10, scan_bad s p hl (known_bad s i p q ts KN.out (HK.out ▸ ST.out) hlt), rfl, World.ownsRow_nil _ _ _ _⟩
      · have hkb : ((k : Int) == 0) = false := by rw [Bool.eq_false_iff]; intro h; simp at h; omega
        obtain ⟨hiq, kn'⟩ := known_next s i p q k ts KN.out ST.out hlt hk
        have hqs := ST.out.2.2.1
        obtain ⟨p2, q2, k2, st2⟩ := step_of s q hqs
        have ST2 := hidE st2
        have KN2 := hidE kn'
        have htl := KN.out.2
        clear hk st2 kn' ST KN
        go_wp2_with (first
          | (at_builtin; refine wpList_append_own _ rfl (.tmp 26) (.tmp 28) 85 rfl w.heap.size 147 i0 _ 3 32 Tryz.underlying85 hi0 hz0 hz1 hz2 rfl (by decide) u2 ts.length (toksV ts) rfl (HOWN.out.alloc _) ⟨wr.heap.size, 0, none⟩ 1 1 [.int .i64 (k : Nat), .string (s.extract p q), .int .i64 (p : Nat)] rfl rfl (new_cells wr #[.int .i64 (k : Nat), .string (s.extract p q), .int .i64 (p : Nat)] _) (by intro u hu; simp at hu; rcases hu with rfl | rfl | rfl <;> rfl) (by unfold maxLen; omega) (by omega) (by have := HBEL.out.size; simp; omega) ?_; intro v' w2 hown' hgrow _; have B1 := (HBT.out.alloc _).grown hgrow HNE.out; have d0 := B1.cell 0; have d1 := B1.cell 1; have d2 := B1.cell 2; have HB1 := hidE B1; clear B1; simp at d0 d1 d2; have HGR := hidE hgrow; have HOW2 := hidE hown'; clear hown' hgrow; have N1 := hidE ((HBN.out.alloc _).grown HGR.out (own_blk_ne HOWN.out HBN.out (by decide))); have A1 := hidE ((HBA.out.alloc _).grown HGR.out (own_blk_ne HOWN.out HBA.out (by decide))))
          | (go_at_call 163; refine (next_step s q p2 q2 k2 (w.heap.size + 1) w.heap.size _ hm ST2.out (by omega) (A1.out.alloc _) (N1.out.alloc _)).mono ?_; rintro e w3 ⟨rfl, hg3, hh3⟩; have HG3 := hidE hg3; have HH3 := hidE hh3; clear hg3 hh3; have hAl := A1.out.lt; have B3 : Blk w3 w2.heap.size 147 #[.int .i64 (k : Nat), .string (s.extract p q), .int .i64 (p : Nat)] := Blk.grown (heap_alloc_new _ _) HG3.out (by simp; omega); have e0 := B3.cell 0; have e1 := B3.cell 1; have e2 := B3.cell 2; have f0 := B3.frozen 0; have f1 := B3.frozen 1; have f2 := B3.frozen 2; clear B3; simp at e0 e1 e2))
        go_roundg (s.size - q)
        case measure => omega
        case rel => exact head_next s w wr w2 w3 u2 v' q p2 q2 k2 k p ts _ _ _ ST2.out KN2.out HBEL.out HOWN.out HGR.out HOW2.out N1.out A1.out HG3.out HH3.out
    · go_wp2_with fail
      go_ret3
      exact ⟨HBEL.out, _, ts, 0, 0, scan_ok s ts hl (known_done s i p q k ts KN.out ST.out hlt), rfl, HOWN.out⟩

theorem scan_any (s : ByteArray) (w : World) (hs : s.size ≤ maxLen) : Calls Tryz.prog 85 #[.string s] w (ScanPost s w) := by
  by_cases h : 4000 < s.size
  · exact scan_long s w hs h
  · exact scan_short s w (by omega)

end Go.Proofs.YtefldbbiajkbnaaGreatDoor
