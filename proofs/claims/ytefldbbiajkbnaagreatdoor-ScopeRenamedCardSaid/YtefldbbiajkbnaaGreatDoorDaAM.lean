/-
  Contracts of the code's functions, part 39.
-/
import Derived.Test.YtefldbbiajkbnaaGreatDoorDaAL
import Derived.Test.YtefldbbiajkbnaaGreatDoorDaAG
import Derived.Test.YtefldbbiajkbnaaGreatDoorDaAK
import Derived.Deep.RegionHeld3
/-
  Package scope: what Free, Cons and Bound ask of a name.
-/
namespace Go.Proofs.YtefldbbiajkbnaaGreatDoor
open Go.RowKit Lx Tx Sx Go.Maps Go.WideMaps Go.Shelf
set_option maxRecDepth 100000

/-- a closure that is asked of a name -/
def VisN {τ : Type} (k : Nat) (caps : Array Value) (B : Nat) (J : Nat → τ → (Nat → Prop) → World → Prop) (yes : Int → Nm → τ → Bool) (tr : Int → Nm → τ → τ) : Prop :=
  ∀ (c : Nat) (s : τ) (M : Nat → Prop) (what : Int) (X : ByteArray) (w : World), J c s M w → X.size ≤ 24 → c + 1 ≤ B →
    Calls Tryz.prog k (#[.int .i64 what, .string X] ++ caps) w fun e w' => e = .returned (.bool (yes what X.data.toList s)) ∧ Sta J M w (c + 1) (tr what X.data.toList s) w'

/-- a closure that has no blocks -/
def JNone (_ : Nat) (_ : Unit) (M : Nat → Prop) (_ : World) : Prop := ∀ g, ¬ M g
theorem JNone.inv : InvS JNone := ⟨fun _ _ _ _ h g hg => absurd hg (h g), fun _ _ _ _ _ h _ _ => h, fun _ _ _ _ h => h⟩

set_option maxHeartbeats 1600000 in
theorem sc_Cons1 (B : Nat) : VisN 75 #[] B JNone (fun what _ _ => what == 1) (fun _ _ _ => ()) := by
  intro c s M what X w hj hX hB
  show Calls Tryz.prog 75 #[.int .i64 what, .string X] w _
  have HS := hidE (show Sta JNone M w (c + 1) () w from Sta.init hj)
  clear hj hX hB
  go_enter Tryz.func75, Tryz.ntmps75
  go_wp2_with fail
  go_ret
  exact ⟨rfl, HS.out⟩
set_option maxHeartbeats 1600000 in
theorem sc_Bound1 (B : Nat) : VisN 77 #[] B JNone (fun what _ _ => what == 2) (fun _ _ _ => ()) := by
  intro c s M what X w hj hX hB
  show Calls Tryz.prog 77 #[.int .i64 what, .string X] w _
  have HS := hidE (show Sta JNone M w (c + 1) () w from Sta.init hj)
  clear hj hX hB
  go_enter Tryz.func77, Tryz.ntmps77
  go_wp2_with fail
  go_ret
  exact ⟨rfl, HS.out⟩

/-- how often names are bound -/
def mkCnt : MK Int where
  t := 123
  e := 3
  R := intElem
  enc v := .lit (.int .i64 v)
  val v := .int .i64 v
  ok _ := True
  z := .int .i64 0
  zd := .lit (.int .i64 0)
  hT := Tryz.underlying123
  hz _ := by kernel_rfl
  hR _ _ := rfl
  hzd := rfl
  inv _ _ _ h := intElem_inv h
  invz _ _ h := intElem_inv h
def cnt (x : Nm) (r : List (Nm × Int)) : Int := (look x r).getD 0
theorem cnt_look {w : World} {b : Nat} {r : List (Nm × Int)} (h : MapE mkCnt w b r) (X : ByteArray) (hX : X.size ≤ 24) :
    (Instr.lookup 123 (.map (some b)) (.string X) false).run Tryz.prog w = .ok (.int .i64 (cnt X.data.toList r)) w := by
  have := h.get X (by unfold maxLen; omega)
  unfold cnt
  cases hl : look X.data.toList r with
  | none => rw [hl] at this; exact this
  | some v => rw [hl] at this; exact this
/-- the closure of Free: the cell pb holds the map in block cb -/
structure JFree (pb cb : Nat) (c : Nat) (r : List (Nm × Int)) (M : Nat → Prop) (w : World) : Prop where
  ptr : Blk w pb 123 #[.map (some cb)]
  map : MapE mkCnt w cb r
  len : r.length ≤ c
  num : ∀ x, -(c : Int) ≤ cnt x r ∧ cnt x r ≤ c
  low : M pb ∧ M cb
  ne : pb ≠ cb
  all : ∀ g, M g → g < w.heap.size
theorem JFree.up {pb cb c : Nat} {r : List (Nm × Int)} {M : Nat → Prop} {w : World} (h : JFree pb cb c r M w) : JFree pb cb (c + 1) r M w :=
  { h with len := by have := h.len; omega, num := fun x => by have := h.num x; omega }
theorem JFree.inv (pb cb : Nat) : InvS (JFree pb cb) where
  lt _ _ _ _ h := h.all
  keep _ _ _ _ _ h hs hk := { h with ptr := h.ptr.same (hk _ h.low.1), map := h.map.keep (hk _ h.low.2), all := fun g hg => Nat.lt_of_lt_of_le (h.all g hg) hs }
  up _ _ _ _ h := h.up
theorem JFree.put {pb cb c : Nat} {r : List (Nm × Int)} {M : Nat → Prop} {w w' : World} (h : JFree pb cb c r M w) (x : Nm) (v : Int) (hv : v = cnt x r + 1 ∨ v = cnt x r - 1) (hm : MapE mkCnt w' cb ((x, v) :: r)) (hg : w.grownBy w' (some cb)) : Sta (JFree pb cb) M w (c + 1) ((x, v) :: r) w' := by
  refine ⟨M, { h with ptr := h.ptr.grown hg (fun e => by injection e with e; exact h.ne e), map := hm, len := by have := h.len; simp; omega, num := fun y => ?_, all := fun g hg2 => Nat.lt_of_lt_of_le (h.all g hg2) hg.size }, fun _ h => .inl h, (Chg.refl M w).grown hg (fun e hh => by injection hh with hh; exact .inr (hh ▸ h.low.2))⟩
  have h1 := h.num x
  have h2 := h.num y
  by_cases hy : x = y
  · have e : cnt y ((x, v) :: r) = v := by unfold cnt; rw [look, if_pos hy]; rfl
    rw [e]
    rcases hv with rfl | rfl <;> omega
  · have e : cnt y ((x, v) :: r) = cnt y r := by unfold cnt; rw [look, if_neg hy]
    rw [e]
    omega
def yesF (what : Int) (x : Nm) (r : List (Nm × Int)) : Bool := what == 0 && cnt x r == 0
def trF (what : Int) (x : Nm) (r : List (Nm × Int)) : List (Nm × Int) := if what = 3 then (x, cnt x r + 1) :: r else if what = 4 then (x, cnt x r - 1) :: r else r

set_option maxHeartbeats 3200000 in
theorem sc_Free1 (pb cb B : Nat) (hB9 : B ≤ 100000000) : VisN 73 #[.pointer (some ⟨pb, 0, none⟩)] B (JFree pb cb) yesF trF := by
  intro c s M what X w hj hX hB
  show Calls Tryz.prog 73 #[.int .i64 what, .string X, .pointer (some ⟨pb, 0, none⟩)] w _
  have hlk := cnt_look hj.map X hX
  obtain ⟨z0, z1, z2⟩ := blk_facts1 hj.ptr
  have hn := hj.num X.data.toList
  have HJ := hidE hj
  have HM := hidE hj.map
  have HX := hidE (show X.size ≤ maxLen by unfold maxLen; omega)
  have HLEN : Hid (s.length < 100000000000000) := hidE (by have := hj.len; omega)
  obtain ⟨q, hq⟩ : ∃ q, cnt X.data.toList s = q := ⟨_, rfl⟩
  rw [hq] at hlk hn
  have hn1 : -100000000 ≤ q := by omega
  have hn2 : q ≤ 100000000 := by omega
  have HQ := hidE hq
  clear hj hX hn hq hB hB9
  by_cases h3 : what = 3
  · subst h3
    go_enter Tryz.func73, Tryz.ntmps73
    go_wp2_with (at_mapUpdate; refine wpList_put mkCnt _ rfl _ _ _ rfl cb s rfl HM.out HLEN.out X HX.out rfl (q + 1) trivial rfl ?_; intro w2 hm2 hg2; have HM2 := hidE hm2; have HG2 := hidE hg2; clear hm2 hg2)
    go_ret
    refine ⟨rfl, ?_⟩
    have := HJ.out.put X.data.toList (q + 1) (.inl (by rw [HQ.out])) HM2.out HG2.out
    unfold trF
    rw [if_pos rfl, HQ.out]
    exact this
  · by_cases h4 : what = 4
    · subst h4
      go_enter Tryz.func73, Tryz.ntmps73
      go_wp2_with (at_mapUpdate; refine wpList_put mkCnt _ rfl _ _ _ rfl cb s rfl HM.out HLEN.out X HX.out rfl (q - 1) trivial rfl ?_; intro w2 hm2 hg2; have HM2 := hidE hm2; have HG2 := hidE hg2; clear hm2 hg2)
      go_ret
      refine ⟨rfl, ?_⟩
      have := HJ.out.put X.data.toList (q - 1) (.inr (by rw [HQ.out])) HM2.out HG2.out
      unfold trF
      rw [if_neg (by decide), if_pos rfl, HQ.out]
      exact this
    · have HT : Hid (Sta (JFree pb cb) M w (c + 1) (trF what X.data.toList s) w) := hidE (by unfold trF; rw [if_neg h3, if_neg h4]; exact Sta.init HJ.out.up)
      have d3 : (what == 3) = false := by simpa using h3
      have d4 : (what == 4) = false := by simpa using h4
      clear h3 h4
      by_cases h0 : what = 0
      · subst h0
        go_enter Tryz.func73, Tryz.ntmps73
        go_wp2_with fail
        go_ret
        exact ⟨by unfold yesF; rw [HQ.out]; rfl, HT.out⟩
      · have d0 : (what == 0) = false := by simpa using h0
        go_enter Tryz.func73, Tryz.ntmps73
        go_wp2_with fail
        go_ret
        exact ⟨by unfold yesF; rw [d0]; rfl, HT.out⟩
end Go.Proofs.YtefldbbiajkbnaaGreatDoor

/-
  Package scope: the names that are kept, each once: what lies in memory.
-/
namespace Go.Proofs.YtefldbbiajkbnaaGreatDoor
open Go.RowKit Lx Tx Sx Go.Maps Go.WideMaps Go.Shelf
set_option maxRecDepth 100000

theorem addA_in {L : List Nm} {x : Nm} (h : x ∈ L) : addA [] (L ++ [x]) = addA [] L := by
  rw [addA_append, addA_cons, addA_nil]
  exact if_pos (mem_addA.2 (.inr h))
theorem addA_out {L : List Nm} {x : Nm} (h : x ∉ L) : addA [] (L ++ [x]) = addA [] L ++ [x] := by
  rw [addA_append, addA_cons, addA_nil]
  exact if_neg (fun e => by rcases mem_addA.1 e with e | e; cases e; exact h e)

/-- what namesOf's closure has: block b, what it asks; b + 1, the list; b + 2, the set; b + 3, the set's cell; the list's row; and what the closure that it asks has -/
structure NOf {τ : Type} (b : Nat) (fv : Value) (J : Nat → τ → (Nat → Prop) → World → Prop) (c : Nat) (s : τ) (L : List Nm) (M MJ : Nat → Prop) (w : World) : Prop where
  fn : Blk w b 129 #[fv]
  met : Blk w (b + 3) 134 #[.map (some (b + 2))]
  set : MapE mkMet w (b + 2) (units L)
  len : L.length ≤ c
  j : J c s MJ w
  jm : ∀ g, MJ g → M g ∧ (g < b ∨ b + 4 ≤ g)
  low : M b ∧ M (b + 1) ∧ M (b + 2) ∧ M (b + 3)
  all : ∀ g, M g → g < w.heap.size
  row : ∃ A cp, Blk w (b + 1) 56 #[.slice A (addA [] L).length cp] ∧ w.ownsRow (b + 4) 9 1 (.slice A (addA [] L).length cp) (addA [] L).length ((addA [] L).map Sx.strV) ∧ ∀ a, A = some a → M a.block ∧ ¬ MJ a.block
def INo {τ : Type} (b : Nat) (fv : Value) (J : Nat → τ → (Nat → Prop) → World → Prop) (c : Nat) (st : τ × List Nm) (M : Nat → Prop) (w : World) : Prop := ∃ MJ, NOf b fv J c st.1 st.2 M MJ w
section
variable {τ : Type} {b : Nat} {fv : Value} {J : Nat → τ → (Nat → Prop) → World → Prop} {c : Nat} {s : τ} {L : List Nm} {M MJ : Nat → Prop} {w : World}
theorem NOf.keep (hJ : InvS J) (h : NOf b fv J c s L M MJ w) {w' : World} (hs : w.heap.size ≤ w'.heap.size) (hk : ∀ g, M g → w'.heap[g]? = w.heap[g]?) : NOf b fv J c s L M MJ w' where
  fn := h.fn.same (hk _ h.low.1)
  met := h.met.same (hk _ h.low.2.2.2)
  set := h.set.keep (hk _ h.low.2.2.1)
  len := h.len
  j := hJ.keep _ _ _ _ _ h.j hs (fun g hg => hk g (h.jm g hg).1)
  jm := h.jm
  low := h.low
  all := fun g hg => Nat.lt_of_lt_of_le (h.all g hg) hs
  row := by
    obtain ⟨A, cp, h1, h2, h3⟩ := h.row
    exact ⟨A, cp, h1.same (hk _ h.low.2.1), own_keepb h2 (fun a ha => hk _ (h3 a ha).1), h3⟩
theorem INo.inv (hJ : InvS J) : InvS (INo b fv J) where
  lt := fun _ _ _ _ ⟨_, h⟩ => h.all
  keep := fun _ _ _ _ _ ⟨MJ, h⟩ hs hk => ⟨MJ, h.keep hJ hs hk⟩
  up := fun _ _ _ _ ⟨MJ, h⟩ => ⟨MJ, { h with len := Nat.le_succ_of_le h.len, j := hJ.up _ _ _ _ h.j }⟩
/-- the closure was asked -/
theorem NOf.ask (hJ : InvS J) (h : NOf b fv J c s L M MJ w) {c' : Nat} {s' : τ} {w1 : World} (hs : Sta J MJ w c' s' w1) (hc : c ≤ c') :
    ∃ M' MJ', NOf b fv J c' s' L M' MJ' w1 ∧ (∀ g, M' g → M g ∨ w.heap.size ≤ g) ∧ Chg M w w1 := by
  obtain ⟨MJ', j1, hm, hch⟩ := hs
  have h3 := h.all _ h.low.2.2.2
  have hb : ∀ k, M k → ¬ MJ k → w1.heap[k]? = w.heap[k]? := fun k hk hn => hch.block k (h.all k hk) hn
  have hn : ∀ k, b ≤ k → k < b + 4 → ¬ MJ k := fun k h1 h2 e => by have := (h.jm k e).2; omega
  refine ⟨fun g => M g ∨ MJ' g, MJ', ⟨h.fn.same (hb _ h.low.1 (hn _ (by omega) (by omega))), h.met.same (hb _ h.low.2.2.2 (hn _ (by omega) (by omega))), h.set.keep (hb _ h.low.2.2.1 (hn _ (by omega) (by omega))), Nat.le_trans h.len hc, j1, fun g hg => ⟨.inr hg, ?_⟩, ⟨.inl h.low.1, .inl h.low.2.1, .inl h.low.2.2.1, .inl h.low.2.2.2⟩, fun g hg => ?_, ?_⟩, fun g hg => ?_, hch.mono (fun k _ hk => (h.jm k hk).1)⟩
  · rcases hm g hg with e | e
    · exact (h.jm g e).2
    · omega
  · rcases hg with e | e
    · exact Nat.lt_of_lt_of_le (h.all g e) hch.size
    · exact hJ.lt _ _ _ _ j1 g e
  · obtain ⟨A, cp, k1, k2, k3⟩ := h.row
    refine ⟨A, cp, k1.same (hb _ h.low.2.1 (hn _ (by omega) (by omega))), own_keepb k2 (fun a ha => hb _ (k3 a ha).1 (k3 a ha).2), fun a ha => ⟨.inl (k3 a ha).1, fun e => ?_⟩⟩
    rcases hm _ e with e | e
    · exact (k3 a ha).2 e
    · have := h.all _ (k3 a ha).1; omega
  · rcases hg with e | e
    · exact .inl e
    · rcases hm g e with e | e
      · exact .inl (h.jm g e).1
      · exact .inr e
/-- a name that is kept already -/
theorem NOf.old (hJ : InvS J) (h : NOf b fv J c s L M MJ w) {x : Nm} (hx : x ∈ L) {w1 : World} (hm : MapE mkMet w1 (b + 2) (units (L ++ [x]))) (hc : Chg (only (b + 2)) w w1) (hl : L.length + 1 ≤ c) : NOf b fv J c s (L ++ [x]) M MJ w1 := by
  have hk : ∀ k, M k → k ≠ b + 2 → w1.heap[k]? = w.heap[k]? := fun k hk hn => hc.block k (h.all k hk) hn
  refine ⟨h.fn.same (hk _ h.low.1 (by omega)), h.met.same (hk _ h.low.2.2.2 (by omega)), hm, by simpa using hl, hJ.keep _ _ _ _ _ h.j hc.size (fun g hg => hk g (h.jm g hg).1 (by have := (h.jm g hg).2; omega)), h.jm, h.low, fun g hg => Nat.lt_of_lt_of_le (h.all g hg) hc.size, ?_⟩
  rw [addA_in hx]
  obtain ⟨A, cp, k1, k2, k3⟩ := h.row
  exact ⟨A, cp, k1.same (hk _ h.low.2.1 (by omega)), own_keepb k2 (fun a ha => hk _ (k3 a ha).1 (by have := (k2.lt a.block (by rw [ha]; rfl)).1; omega)), k3⟩
/-- a name that is none of these yet -/
theorem NOf.fresh (hJ : InvS J) (h : NOf b fv J c s L M MJ w) {X : ByteArray} (hx : X.data.toList ∉ L) {w1 W w5 : World} {A : Option Addr} {cp g3 c3 : Nat} (hm : MapE mkMet w1 (b + 2) (units (L ++ [X.data.toList]))) (hc : Chg (only (b + 2)) w w1) (hl : L.length + 1 ≤ c)
    (hA : ∀ a, A = some a → M a.block ∧ ¬ MJ a.block) (hown : w.ownsRow (b + 4) 9 1 (.slice A (addA [] L).length cp) (addA [] L).length ((addA [] L).map Sx.strV))
    (hW : ∀ k, k < w1.heap.size → W.heap[k]? = w1.heap[k]?) (hWs : W.heap.size = w1.heap.size + 1) (hCW : Chg M w W) (ho3 : w5.ownsRow (b + 4) 9 1 (.slice (some ⟨g3, 0, none⟩) ((addA [] L).length + 1) c3) ((addA [] L).length + 1) ((addA [] L).map Sx.strV ++ [.string X]))
    (hg3 : W.grownBy w5 (Value.slice A (addA [] L).length cp).ownBlock) (hat : (Value.slice A (addA [] L).length cp).ownBlock = some g3 ∨ g3 = W.heap.size) (hb5 : Blk w5 (b + 1) 56 #[.slice A (addA [] L).length cp]) (hlt : g3 < w5.heap.size) :
    ∃ M', NOf b fv J c s (L ++ [X.data.toList]) M' MJ (w5.setCell ⟨b + 1, 0, none⟩ (.slice (some ⟨g3, 0, none⟩) ((addA [] L).length + 1) c3)) ∧ (∀ g, M' g → M g ∨ w.heap.size ≤ g) ∧ Chg M w (w5.setCell ⟨b + 1, 0, none⟩ (.slice (some ⟨g3, 0, none⟩) ((addA [] L).length + 1) c3)) := by
  have hrow : ∀ k, some k = (Value.slice A (addA [] L).length cp).ownBlock → b + 4 ≤ k ∧ M k ∧ ¬ MJ k := fun k hk => by
    refine ⟨(hown.lt k hk.symm).1, ?_⟩
    cases A with
    | none => cases hk
    | some a => injection hk with hk; rw [hk]; exact hA a rfl
  have hg3b : b + 4 ≤ g3 := (ho3.lt g3 rfl).1
  have h3 := h.all _ h.low.2.2.2
  have hs1 := hc.size
  have hs5 := hg3.size
  obtain ⟨V, hV⟩ : ∃ V, (w5.setCell ⟨b + 1, 0, none⟩ (.slice (some ⟨g3, 0, none⟩) ((addA [] L).length + 1) c3)) = V := ⟨_, rfl⟩
  have hVs : V.heap.size = w5.heap.size := by rw [← hV]; simp
  have hf : ∀ k, M k → k ≠ b + 1 → (b + 4 ≤ k → MJ k) → V.heap[k]? = w1.heap[k]? := fun k hk hne hj => by
    have hkl := h.all k hk
    rw [← hV]
    exact (Below.heap_setCell w5 ⟨b + 1, 0, none⟩ _ k hne).trans ((hg3.block k (by omega) (fun e => by have := hrow k e; exact this.2.2 (hj this.1))).trans (hW k (by omega)))
  have hf1 : ∀ k, M k → k ≠ b + 1 → k ≠ b + 2 → (b + 4 ≤ k → MJ k) → V.heap[k]? = w.heap[k]? := fun k hk hne hn2 hj => (hf k hk hne hj).trans (hc.block k (h.all k hk) hn2)
  have hg3J : ¬ MJ g3 := fun e => by
    rcases hat with a | a
    · exact (hrow g3 a.symm).2.2 e
    · have := h.all _ (h.jm _ e).1; omega
  rw [hV]
  refine ⟨fun g => M g ∨ g = g3, ⟨h.fn.same (hf1 _ h.low.1 (by omega) (by omega) (by omega)), h.met.same (hf1 _ h.low.2.2.2 (by omega) (by omega) (by omega)), hm.keep (hf _ h.low.2.2.1 (by omega) (by omega)), by simpa using hl,
    hJ.keep _ _ _ _ _ h.j (by omega) (fun g hg => hf1 g (h.jm g hg).1 (by have := (h.jm g hg).2; omega) (by have := (h.jm g hg).2; omega) (fun _ => hg)), fun g hg => ⟨.inl (h.jm g hg).1, (h.jm g hg).2⟩, ⟨.inl h.low.1, .inl h.low.2.1, .inl h.low.2.2.1, .inl h.low.2.2.2⟩, fun g hg => ?_, some ⟨g3, 0, none⟩, c3, ?_, ?_, fun a ha => by injection ha with ha; rw [← ha]; exact ⟨.inr rfl, hg3J⟩⟩, fun g hg => ?_, ?_⟩
  · rcases hg with hg | rfl
    · have := h.all g hg; omega
    · omega
  · rw [addA_out hx, List.length_append, List.length_singleton, ← hV]
    exact one_setCell (u := .slice (some ⟨g3, 0, none⟩) ((addA [] L).length + 1) c3) hb5
  · rw [addA_out hx, List.length_append, List.length_singleton, List.map_append, show [X.data.toList].map Sx.strV = [.string X] from rfl]
    exact own_keepb ho3 (fun a ha => by injection ha with ha; rw [← ha, ← hV]; exact Below.heap_setCell w5 ⟨b + 1, 0, none⟩ _ g3 (by show g3 ≠ b + 1; omega))
  · rcases hg with hg | rfl
    · exact .inl hg
    · rcases hat with h | h
      · exact .inl (hrow _ h.symm).2.1
      · exact .inr (by omega)
  · rw [← hV]
    exact (hCW.grown hg3 (fun k hk => .inr (hrow k hk.symm).2.1)).setCell (p := ⟨b + 1, 0, none⟩) (.inr h.low.2.1) _
end
end Go.Proofs.YtefldbbiajkbnaaGreatDoor

/-
  Package scope: the closure of namesOf.
-/
namespace Go.Proofs.YtefldbbiajkbnaaGreatDoor
open Go.RowKit Lx Tx Sx Go.Maps Go.WideMaps Go.Shelf
set_option maxRecDepth 100000

def nstep {τ : Type} (yes : Int → Nm → τ → Bool) (tr : Int → Nm → τ → τ) (what : Int) (st : τ × List Nm) (x : Nm) : τ × List Nm := (tr what x st.1, if yes what x st.1 = true then st.2 ++ [x] else st.2)
def stN {τ : Type} (yes : Int → Nm → τ → Bool) (tr : Int → Nm → τ → τ) (ev : Ev) (st : τ × List Nm) : τ × List Nm := (evN ev).foldl (nstep yes tr (evW ev)) st

set_option maxHeartbeats 6400000 in
theorem sc_namesOf1 {τ : Type} (b kk : Nat) (kcaps : Array Value) (B : Nat) (J : Nat → τ → (Nat → Prop) → World → Prop) (yes : Int → Nm → τ → Bool) (tr : Int → Nm → τ → τ) (hJ : InvS J) (ek : ∀ args w, (callFunc kk args).run Tryz.prog w = .ok (.enter kk args) w) (HV : VisN kk kcaps B J yes tr) (hB9 : B ≤ 1000000) :
    VisE 123 #[.pointer (some ⟨b, 0, none⟩), .pointer (some ⟨b + 3, 0, none⟩), .pointer (some ⟨b + 1, 0, none⟩)] B (INo b (.func (.func kk) #[] kcaps) J) (stN yes tr) := by
  intro c st M ev S V v w hi hx hS hxs hB
  unfold stN
  obtain ⟨what, hwh⟩ : ∃ y, evW ev = y := ⟨_, rfl⟩
  obtain ⟨xs, hxe⟩ : ∃ y, evN ev = y := ⟨_, rfl⟩
  rw [hwh]
  have hel := evL_or ev
  obtain ⟨el, hev⟩ : ∃ y, evL ev = y := ⟨_, rfl⟩
  rw [hev] at hB hel ⊢
  rw [hxe] at hx hxs hel ⊢
  obtain ⟨N, hN⟩ : ∃ n, xs.length = n := ⟨_, rfl⟩
  rw [hN] at hel ⊢
  show Calls Tryz.prog 123 #[.int .i64 what, .slice V N v, .pointer (some ⟨b, 0, none⟩), .pointer (some ⟨b + 3, 0, none⟩), .pointer (some ⟨b + 1, 0, none⟩)] w _
  have H0 := hidE (Sta.init hi)
  have HN := hidE hN
  have HX := hidE hx
  have HS := hidE hS
  have HXS := hidE hxs
  have HVV := hidE HV
  have HJ := hidE hJ
  have hN9 : N ≤ 1000000 := by omega
  obtain ⟨i0, hi0, hz0, hz1, hz2⟩ := info_parts str_info
  have HIV := hidE (INo.inv (b := b) (fv := .func (.func kk) #[] kcaps) hJ)
  clear hi hx hS hxs HV hN hxe hwh hJ hev
  go_enter Tryz.func123, Tryz.ntmps123
  go_wp2_with fail
  go_loopg [11] N (fun gg vi wr => ∃ i : Nat, gg = N - i ∧ vi = .int .i64 (i : Nat) ∧ i ≤ N ∧ Hid (Sta (INo b (.func (.func kk) #[] kcaps) J) M w (c + i) ((xs.take i).foldl (nstep yes tr what) st) wr))
  case atStart => exact ⟨0, rfl, rfl, by omega, H0⟩
  case round =>
    obtain ⟨i, rfl, rfl, hi, hst⟩ := hrel
    clear H0
    by_cases hlt : i < N
    · obtain ⟨x, hx⟩ : ∃ x, xs[i]? = some x := ⟨_, List.getElem?_eq_getElem (by rw [HN.out]; exact hlt)⟩
      have hxm := HXS.out x (List.mem_iff_getElem?.2 ⟨i, hx⟩)
      obtain ⟨g, rfl, hSg, hlie⟩ := HX.out (fun e => by rw [e] at hx; simp at hx)
      obtain ⟨X, hX⟩ : ∃ X : ByteArray, ⟨x.toArray⟩ = X := ⟨_, rfl⟩
      have hXx : X.data.toList = x := by rw [← hX]
      have f0 : wr.cell? ⟨g, i, none⟩ = some (.string X) := by
        have h1 := hlie i (Sx.strV x) (by rw [List.getElem?_map, hx]; rfl)
        rw [Nat.zero_add] at h1
        rw [← hX]
        exact cell_keep h1 (hst.out.block g (HS.out g hSg).1 (HS.out g hSg).2)
      obtain ⟨M1, ⟨MJ, hn⟩, hm1, hch⟩ := hst.out
      obtain ⟨⟨s, L⟩, hsl⟩ : ∃ p, (xs.take i).foldl (nstep yes tr what) st = p := ⟨_, rfl⟩
      rw [hsl] at hn
      replace hn : NOf b (.func (.func kk) #[] kcaps) J (c + i) s L M1 MJ wr := hn
      have hX24 : X.size ≤ 24 := by rw [← hX]; show x.toArray.size ≤ 24; simpa using hxm
      have HEND := hidE (fun s' L' M3 MJ3 w3 (h : NOf b (.func (.func kk) #[] kcaps) J (c + (i + 1)) s' L' M3 MJ3 w3) (h2 : ∀ g, M3 g → M1 g ∨ wr.heap.size ≤ g) (h3 : Chg M1 wr w3) (h4 : (s', L') = nstep yes tr what (s, L) x) => show Sta (INo b (.func (.func kk) #[] kcaps) J) M w (c + (i + 1)) ((xs.take (i + 1)).foldl (nstep yes tr what) st) w3 by
        rw [List.take_add_one, hx, List.foldl_append, hsl]
        refine ⟨M3, ⟨MJ3, ?_⟩, fun g hg => ?_, hch.trans' h3 (fun j hj hm => ?_)⟩
        · show NOf b (.func (.func kk) #[] kcaps) J (c + (i + 1)) (nstep yes tr what (s, L) x).1 (nstep yes tr what (s, L) x).2 M3 MJ3 w3
          rw [← h4]
          exact h
        · rcases h2 g hg with e | e
          · exact hm1 g e
          · exact .inr (Nat.le_trans hch.size e)
        · rcases hm1 j hm with e | e
          · exact e
          · omega)
      have HASK := hidE (HVV.out (c + i) s MJ what X wr hn.j hX24 (by omega))
      have HNN := hidE hn
      have hln := hn.len
      obtain ⟨z0, -, zl⟩ := blk_facts1 hn.fn
      have HXX := hidE hXx
      have hgl := lt_cell f0
      obtain ⟨q, hq⟩ : ∃ q, yes what X.data.toList s = q := ⟨_, rfl⟩
      rw [hq] at HASK
      have HQ := hidE hq
      clear hx hxm hSg hlie hX hXx hm1 hch hsl hn hq hst
      go_wp2_with fail
      refine HASK.out.mono ?_
      rintro e w1 ⟨rfl, s1⟩
      obtain ⟨M2, MJ2, hn2, hm2, hc2⟩ := HNN.out.ask HJ.out s1 (by omega)
      cases q with
      | false =>
        have HE := hidE (HEND.out _ _ _ _ w1 hn2 hm2 hc2 (by unfold nstep; rw [← HXX.out, HQ.out]; rfl))
        clear HEND HASK s1 hn2 hm2 hc2 z0
        go_wp2_with fail
        go_roundg (N - (i + 1))
        case measure => omega
        case rel => exact ⟨i + 1, rfl, by go_num, by omega, HE⟩
      | true =>
        obtain ⟨m0, -, ml⟩ := blk_facts1 hn2.met
        have HAG := hidE (sc_again (b + 2) L X w1 hn2.set hX24 (by omega))
        have HN2 := hidE hn2
        have HM2 := hidE hm2
        have HC2 := hidE hc2
        have HCN := hidE (fun w2 (h : Chg (only (b + 2)) w1 w2) => hc2.trans' h (fun j hj hm => show M1 j by have e : j = b + 2 := hm; rw [e]; exact HNN.out.low.2.2.1))
        obtain ⟨p, hp⟩ : ∃ p, decide (X.data.toList ∈ L) = p := ⟨_, rfl⟩
        rw [hp] at HAG
        have HP := hidE hp
        clear HASK s1 hn2 hm2 hc2 z0 hp
        go_wp2_with fail
        refine HAG.out.mono ?_
        rintro e w2 ⟨rfl, hm, hch⟩
        cases p with
        | true =>
          have hin : X.data.toList ∈ L := of_decide_eq_true HP.out
          have HE := hidE (HEND.out _ _ _ _ w2 (HN2.out.old HJ.out hin hm hch (by omega)) HM2.out (HCN.out w2 hch) (by unfold nstep; rw [← HXX.out]; simp only [HQ.out, if_true]))
          clear HEND HAG hm hch m0 hin
          go_wp2_with fail
          go_roundg (N - (i + 1))
          case measure => omega
          case rel => exact ⟨i + 1, rfl, by go_num, by omega, HE⟩
        | false =>
          have hout : X.data.toList ∉ L := of_decide_eq_false HP.out
          obtain ⟨A, cp, k1, k2, k3⟩ := HN2.out.row
          have hw12 := hch.size
          have k1' : Blk w2 (b + 1) 56 #[.slice A (addA [] L).length cp] := k1.same (hch.block _ (HN2.out.all _ HN2.out.low.2.1) (by unfold only; omega))
          have k2' : w2.ownsRow (b + 4) 9 1 (.slice A (addA [] L).length cp) (addA [] L).length ((addA [] L).map Sx.strV) := own_keepb k2 (fun a ha => hch.block _ (HN2.out.all _ (k3 a ha).1) (by have := (k2.lt a.block (by rw [ha]; rfl)).1; unfold only; omega))
          obtain ⟨n, hnn⟩ : ∃ n, (addA [] L).length = n := ⟨_, rfl⟩
          have hnb : n ≤ L.length := by have := addA_len (o := []) (l := L); simp at this; omega
          have hb4 : b + 4 ≤ w2.heap.size := by have := HN2.out.all _ HN2.out.low.2.2.2; omega
          rw [hnn] at k1' k2'
          obtain ⟨r0, r1, r2⟩ := blk_facts1 k1'
          have K1 := hidE k1'
          have K2 := hidE k2'
          have HO3 := hidE (k2'.alloc (.cells #[.string X] 9))
          have HF := hidE (fun w5 g3 c3 => (HN2.out.fresh HJ.out hout (w1 := w2) (W := w2.alloc (.cells #[.string X] 9)) (w5 := w5) (g3 := g3) (c3 := c3) hm hch (by omega) k3 k2 (fun k hk => Below.heap_alloc _ _ _ hk) (by simp) ((HCN.out w2 hch |> fun _ => (hch.mono (fun j _ hj => by have e : j = b + 2 := hj; rw [e]; exact HN2.out.low.2.2.1)).alloc _))))
          simp only [hnn] at HF
          have HNN2 := hidE hnn
          clear HAG hm hch m0 k1 k2 k3 k1' k2' hnn
          go_wp2_with (at_builtin; refine wpList_append_lies _ rfl (.tmp 25) (.tmp 27) 56 rfl (b + 4) 9 i0 _ 1 16 Tryz.underlying56 hi0 hz0 hz1 hz2 rfl (by decide) _ n ((addA [] L).map Sx.strV) rfl HO3.out ⟨w2.heap.size, 0, none⟩ 1 1 [.string X] rfl rfl (new_cells' _ _ _ _ rfl) (by intro u hu; simp at hu; subst hu; rfl) (by omega) (by unfold maxLen; omega) (by omega) (by simp; omega) _ rfl ?_; intro g3 c3 w5 hown3 hgrow hat hlt3; have hb5 : Blk w5 (b + 1) 56 #[.slice A n cp] := (K1.out.alloc _).grown hgrow (fun e => by have := (K2.out.lt (b + 1) e.symm).1; omega); obtain ⟨d0, d1, d2⟩ := blk_facts1 hb5; have HO5 := hidE hown3; have HG5 := hidE hgrow; have HAT := hidE hat; have HB5 := hidE hb5; clear hown3 hgrow hat hb5)
          go_roundg (N - (i + 1))
          case measure => omega
          case rel =>
            refine ⟨i + 1, rfl, by go_num, by omega, hidE ?_⟩
            obtain ⟨M3, e1, e2, e3⟩ := HF.out w5 g3 c3 HO5.out HG5.out HAT.out HB5.out hlt3
            refine HEND.out _ _ _ _ _ e1 (fun g hg => ?_) (HC2.out.trans' e3 (fun j hj hm => ?_)) (by unfold nstep; rw [← HXX.out]; simp only [HQ.out, if_true])
            · rcases e2 g hg with e | e
              · exact HM2.out g e
              · exact .inr (Nat.le_trans HC2.out.size e)
            · rcases HM2.out j hm with e | e
              · exact e
              · omega
    · obtain rfl : i = N := by omega
      go_wp2_with fail
      first | go_end0 | refine bodyPost_ret (results_none rfl _ _ _) rfl ?_
      refine ⟨rfl, ?_⟩
      have := hst.out
      rw [show xs.take i = xs from List.take_of_length_le (by rw [HN.out]; exact Nat.le_refl _)] at this
      rcases hel with rfl | rfl
      · exact this
      · exact this.up HIV.out
end Go.Proofs.YtefldbbiajkbnaaGreatDoor

/-
  Package scope: namesOf; Free, Cons, Bound.
-/
namespace Go.Proofs.YtefldbbiajkbnaaGreatDoor
open Go.RowKit Lx Tx Sx Go.Maps Go.WideMaps Go.Shelf
set_option maxRecDepth 100000

/-- the names that are kept, with repeats -/
def keptL {τ : Type} (yes : Int → Nm → τ → Bool) (tr : Int → Nm → τ → τ) (s0 : τ) (e : Ex) : List Nm := (runS (stN yes tr) (evs e) (s0, [])).2
/-- names, each once, are answered; the closure's blocks may have changed -/
def NmsPost (M0 : Nat → Prop) (w : World) (L : List Nm) (e : Ending) (w' : World) : Prop :=
  ∃ A n cp, e = .returned (.slice A n cp) ∧ n = (addA [] L).length ∧ w'.ownsRow (w.heap.size + 1 + 4) 9 1 (.slice A n cp) n ((addA [] L).map Sx.strV) ∧ Chg M0 w w'

set_option maxHeartbeats 6400000 in
theorem sc_namesOf {τ : Type} (kk : Nat) (kcaps : Array Value) (B : Nat) (J : Nat → τ → (Nat → Prop) → World → Prop) (yes : Int → Nm → τ → Bool) (tr : Int → Nm → τ → τ) (hJ : InvS J) (ek : ∀ args w, (callFunc kk args).run Tryz.prog w = .ok (.enter kk args) w) (HV : VisN kk kcaps B J yes tr) (hB9 : B ≤ 1000000)
    (e : Ex) (s0 : τ) (M0 S : Nat → Prop) (v : Value) (w : World) (hj : J 0 s0 M0 w) (hv : RdX S w e v) (hS : ∀ g, S g → g < w.heap.size ∧ ¬ M0 g) (hok : e.Ok) (hsz : e.size ≤ 90001) (hB : cost (evs e) ≤ B) :
    Calls Tryz.prog 72 #[v, .func (.func kk) #[] kcaps] w (NmsPost M0 w (keptL yes tr s0 e)) := by
  have hM0 := hJ.lt _ _ _ _ hj
  have e1 : ∀ args w, (callFunc 123 args).run Tryz.prog w = .ok (.enter 123 args) w := enters_of Tryz.func123 (by kernel_rfl) rfl
  have hmm : ∀ w, (Instr.makeMap 134 none).run Tryz.prog w = .ok (.map (some w.heap.size)) (w.alloc (.map #[] 0)) := fun _ => rfl
  obtain ⟨K, X, Z, A0, m, q, KA, kc, LA, lc, rfl, hin⟩ := hv.shape
  obtain ⟨E, hE⟩ : ∃ E : Obj, (.cells #[.int .i64 (kdE e : Nat), .string ⟨(nmE e).toArray⟩, .bool (toE e), .int .i64 K, .string X, .int .i64 Z, .slice A0 m q, .slice KA (kidsE e).length kc, .slice LA (altsE e).length lc] 39) = E := ⟨_, rfl⟩
  obtain ⟨w1, h1⟩ : ∃ x, w.alloc E = x := ⟨_, rfl⟩
  have z1 : w1.heap.size = w.heap.size + 1 := by rw [← h1]; simp
  have c1 : Below w.heap.size w w1 := h1 ▸ (Below.refl _ w).alloc (Nat.le_refl _) _
  have b1 : Blk w1 w.heap.size 39 #[.int .i64 (kdE e : Nat), .string ⟨(nmE e).toArray⟩, .bool (toE e), .int .i64 K, .string X, .int .i64 Z, .slice A0 m q, .slice KA (kidsE e).length kc, .slice LA (altsE e).length lc] := h1 ▸ hE ▸ heap_alloc_new w _
  obtain ⟨w2, h2⟩ : ∃ x, w1.alloc (.cells #[.func (.func kk) #[] kcaps] 129) = x := ⟨_, rfl⟩
  have z2 : w2.heap.size = w.heap.size + 1 + 1 := by rw [← h2]; simp [z1]
  have c2 : Below w.heap.size w w2 := h2 ▸ c1.alloc (by omega) _
  have b2 : Blk w2 (w.heap.size + 1) 129 #[.func (.func kk) #[] kcaps] := z1 ▸ h2 ▸ heap_alloc_new w1 _
  obtain ⟨w3, h3⟩ : ∃ x, w2.alloc (.cells #[.slice none 0 0] 56) = x := ⟨_, rfl⟩
  have z3 : w3.heap.size = w.heap.size + 1 + 2 := by rw [← h3]; simp [z2]
  have c3 : Below w.heap.size w w3 := h3 ▸ c2.alloc (by omega) _
  have b3 : Blk w3 (w.heap.size + 1 + 1) 56 #[.slice none 0 0] := z2 ▸ h3 ▸ heap_alloc_new w2 _
  obtain ⟨w4, h4⟩ : ∃ x, w3.alloc (.map #[] 0) = x := ⟨_, rfl⟩
  have z4 : w4.heap.size = w.heap.size + 1 + 3 := by rw [← h4]; simp [z3]
  have c4 : Below w.heap.size w w4 := h4 ▸ c3.alloc (by omega) _
  have m4 : MapE mkMet w4 (w.heap.size + 1 + 2) (units []) := z3 ▸ h4 ▸ MapE.made mkMet w3
  obtain ⟨W, h5⟩ : ∃ x, w4.alloc (.cells #[.map (some (w.heap.size + 1 + 1 + 1))] 134) = x := ⟨_, rfl⟩
  have z5 : W.heap.size = w.heap.size + 1 + 4 := by rw [← h5]; simp [z4]
  have c5 : Below w.heap.size w W := h5 ▸ c4.alloc (by omega) _
  have b5 : Blk W (w.heap.size + 1 + 3) 134 #[.map (some (w.heap.size + 1 + 2))] := z4 ▸ h5 ▸ heap_alloc_new w4 _
  have bW : Blk W w.heap.size 39 #[.int .i64 (kdE e : Nat), .string ⟨(nmE e).toArray⟩, .bool (toE e), .int .i64 K, .string X, .int .i64 Z, .slice A0 m q, .slice KA (kidsE e).length kc, .slice LA (altsE e).length lc] := h5 ▸ (h4 ▸ (h3 ▸ (h2 ▸ b1.alloc _ : Blk w2 _ _ _).alloc _ : Blk w3 _ _ _).alloc _ : Blk w4 _ _ _).alloc _
  obtain ⟨⟨g0, g1, g2, g3, g4, g5, g6, g7, g8⟩, -, -⟩ := blk_facts9 bW
  have hn : NOf (w.heap.size + 1) (.func (.func kk) #[] kcaps) J 0 s0 [] (fun g => M0 g ∨ (w.heap.size + 1 ≤ g ∧ g < w.heap.size + 1 + 4)) M0 W := by
    refine ⟨h5 ▸ (h4 ▸ (h3 ▸ b2.alloc _ : Blk w3 _ _ _).alloc _ : Blk w4 _ _ _).alloc _, b5, m4.keep (h5 ▸ Below.heap_alloc _ _ _ (by omega)), Nat.le_refl _, hJ.keep _ _ _ _ W hj c5.size (fun g hg => c5.block g (hM0 g hg)), fun g hg => ⟨.inl hg, .inl (by have := hM0 g hg; omega)⟩, ⟨.inr ⟨by omega, by omega⟩, .inr ⟨by omega, by omega⟩, .inr ⟨by omega, by omega⟩, .inr ⟨by omega, by omega⟩⟩, fun g hg => ?_, none, 0, h5 ▸ (h4 ▸ b3.alloc _ : Blk w4 _ _ _).alloc _, World.ownsRow_nil _ _ _ _, fun a ha => by cases ha⟩
    rcases hg with h | h
    · have := hM0 g h; omega
    · omega
  have HW := hidE (sc_walkOK 123 #[.pointer (some ⟨w.heap.size + 1, 0, none⟩), .pointer (some ⟨w.heap.size + 1 + 3, 0, none⟩), .pointer (some ⟨w.heap.size + 1 + 1, 0, none⟩)] B (INo (w.heap.size + 1) (.func (.func kk) #[] kcaps) J) (stN yes tr) (INo.inv hJ).toB e1 (sc_namesOf1 (w.heap.size + 1) kk kcaps B J yes tr hJ ek HV hB9) 90001 (Nat.le_refl _) 0 (s0, []) _ e S _ W hsz ⟨M0, hn⟩
      (hv.keep (fun _ h => h) (fun g hg => c5.block g (hS g hg).1)) (fun g hg => ⟨by have := (hS g hg).1; omega, fun h => by
        rcases h with h | h
        · exact (hS g hg).2 h
        · have := (hS g hg).1; omega⟩) hok (by omega))
  have HC := hidE c5
  clear hv hin hS hok hsz hB HV hJ hj hM0 ek e1 hn b1 bW b2 b3 m4 b5 c1 c2 c3 c4 c5
  go_enter Tryz.func72, Tryz.ntmps72
  go_wp2_with fail
  refine HW.out.mono ?_
  rintro e' w' ⟨rfl, M', ⟨MJ', hn⟩, hm, hch⟩
  obtain ⟨A, cp, k1, k2, -⟩ := hn.row
  obtain ⟨r0, r1, r2⟩ := blk_facts1 k1
  have HR : Hid (NmsPost M0 w (keptL yes tr s0 e) (.returned (.slice A (addA [] (runS (stN yes tr) (evs e) (s0, [])).2).length cp)) w') := hidE ⟨A, _, cp, rfl, rfl, k2, (Chg.of_below HC.out).trans' hch (fun i hi hm => by
    rcases hm with h | h
    · exact h
    · omega)⟩
  obtain ⟨n, hnn⟩ : ∃ n, (addA [] (runS (stN yes tr) (evs e) (s0, [])).2).length = n := ⟨_, rfl⟩
  rw [hnn] at r0 HR
  clear hn hm hch k1 k2 HW
  go_wp2_with fail
  go_ret
  exact HR.out
end Go.Proofs.YtefldbbiajkbnaaGreatDoor

/-
  Package scope: what is kept is what is free, what the constructors are, what is bound.
-/
namespace Go.Proofs.YtefldbbiajkbnaaGreatDoor
open Go.RowKit Lx Tx Sx Go.Maps Go.WideMaps Go.Shelf
set_option maxRecDepth 100000

/-- a closure that looks at the kind alone -/
theorem nstep_kind (p : Int → Bool) (what : Int) (xs o : List Nm) : xs.foldl (nstep (fun k _ _ => p k) (fun _ _ _ => ()) what) ((), o) = ((), if p what = true then o ++ xs else o) := by
  induction xs generalizing o with
  | nil => cases p what <;> simp
  | cons x r ih =>
    rw [List.foldl_cons]
    show r.foldl _ ((), if p what = true then o ++ [x] else o) = _
    rw [ih]
    cases p what <;> simp
theorem runS_kind (p : Int → Bool) (f : Ev → List Nm) (hf : ∀ ev, (if p (evW ev) = true then evN ev else []) = f ev) (l : List Ev) (o : List Nm) : runS (stN (fun k _ _ => p k) (fun _ _ _ => ())) l ((), o) = ((), o ++ l.flatMap f) := by
  induction l generalizing o with
  | nil => simp [runS]
  | cons ev r ih =>
    rw [runS_cons]
    unfold stN
    rw [nstep_kind, show (if p (evW ev) = true then o ++ evN ev else o) = o ++ f ev by rw [← hf]; cases p (evW ev) <;> simp]
    have := ih (o ++ f ev)
    unfold stN at this
    rw [this, List.flatMap_cons, List.append_assoc]
theorem kept_cons (e : Ex) : keptL (fun k _ _ => k == 1) (fun _ _ _ => ()) () e = cns e := by
  unfold keptL
  rw [runS_kind (fun k => k == 1) cnOf (fun ev => by cases ev <;> rfl), List.nil_append, cns_evs]
theorem kept_bound (e : Ex) : keptL (fun k _ _ => k == 2) (fun _ _ _ => ()) () e = bis e := by
  unfold keptL
  rw [runS_kind (fun k => k == 2) biOf (fun ev => by cases ev <;> rfl), List.nil_append, bis_evs]

theorem cnt_cons (x y : Nm) (v : Int) (r : List (Nm × Int)) : cnt y ((x, v) :: r) = if x = y then v else cnt y r := by
  unfold cnt
  rw [look]
  by_cases h : x = y
  · rw [if_pos h, if_pos h]; rfl
  · rw [if_neg h, if_neg h]
/-- the counts go on -/
theorem nstep_count (what d : Int) (hw : (what = 3 ∧ d = 1) ∨ (what = 4 ∧ d = -1)) (xs : List Nm) : ∀ (r : List (Nm × Int)) (o : List Nm), ∃ r', xs.foldl (nstep yesF trF what) (r, o) = (r', o) ∧ (fun y => cnt y r') = bump (fun y => cnt y r) d xs := by
  induction xs with
  | nil => exact fun r o => ⟨r, rfl, (bump_nil _ _).symm⟩
  | cons x l ih =>
    intro r o
    have hy : yesF what x r = false := by unfold yesF; rcases hw with ⟨rfl, _⟩ | ⟨rfl, _⟩ <;> rfl
    have ht : trF what x r = (x, cnt x r + d) :: r := by
      unfold trF
      rcases hw with ⟨rfl, rfl⟩ | ⟨rfl, rfl⟩
      · rw [if_pos rfl]
      · rw [if_neg (by decide), if_pos rfl]; rfl
    obtain ⟨r', h1, h2⟩ := ih ((x, cnt x r + d) :: r) o
    refine ⟨r', ?_, ?_⟩
    · rw [List.foldl_cons, ← h1]
      unfold nstep
      simp only [hy, ht]
      rfl
    · rw [h2]
      funext y
      unfold bump
      simp only [cnt_cons, List.count_cons]
      by_cases h : x = y
      · subst h; simp; rw [Int.mul_add]; omega
      · rw [if_neg h]; simp [h]
theorem nstep_other (what : Int) (h3 : what ≠ 3) (h4 : what ≠ 4) (h0 : what ≠ 0) (xs : List Nm) : ∀ (r : List (Nm × Int)) (o : List Nm), xs.foldl (nstep yesF trF what) (r, o) = (r, o) := by
  induction xs with
  | nil => exact fun _ _ => rfl
  | cons x l ih =>
    intro r o
    have hy : yesF what x r = false := by unfold yesF; rw [show (what == 0) = false by simpa using h0]; rfl
    have ht : trF what x r = r := by unfold trF; rw [if_neg h3, if_neg h4]
    rw [List.foldl_cons, show nstep yesF trF what (r, o) x = (r, o) by unfold nstep; simp only [hy, ht]; rfl]
    exact ih r o
theorem run_free (l : List Ev) : ∀ (r : List (Nm × Int)) (o : List Nm), (runS (stN yesF trF) l (r, o)).2 = o ++ runF (fun y => cnt y r) l := by
  induction l with
  | nil => intro r o; simp [runS, runF]
  | cons ev t ih =>
    intro r o
    rw [runS_cons, runF]
    cases ev with
    | use x =>
      have : stN yesF trF (.use x) (r, o) = (r, o ++ tellF (fun y => cnt y r) (.use x)) := by
        show nstep yesF trF 0 (r, o) x = _
        unfold nstep yesF trF tellF
        rw [if_neg (by decide), if_neg (by decide)]
        by_cases h : cnt x r = 0
        · simp [h]
        · simp [h]
      rw [this, ih, List.append_assoc]
      rfl
    | cn x =>
      rw [show stN yesF trF (.cn x) (r, o) = (r, o) from nstep_other 1 (by decide) (by decide) (by decide) [x] r o, ih]
      rfl
    | bi xs =>
      rw [show stN yesF trF (.bi xs) (r, o) = (r, o) from nstep_other 2 (by decide) (by decide) (by decide) xs r o, ih]
      rfl
    | beg xs =>
      obtain ⟨r', h1, h2⟩ := nstep_count 3 1 (.inl ⟨rfl, rfl⟩) xs r o
      rw [show stN yesF trF (.beg xs) (r, o) = (r', o) from h1, ih, h2]
      rfl
    | fin xs =>
      obtain ⟨r', h1, h2⟩ := nstep_count 4 (-1) (.inr ⟨rfl, rfl⟩) xs r o
      rw [show stN yesF trF (.fin xs) (r, o) = (r', o) from h1, ih, h2]
      rfl
theorem kept_free (e : Ex) : keptL yesF trF [] e = fr e := by
  unfold keptL
  rw [run_free, List.nil_append]
  exact runF_free e
end Go.Proofs.YtefldbbiajkbnaaGreatDoor

/-
  Package scope: Free, Cons, Bound.
-/
namespace Go.Proofs.YtefldbbiajkbnaaGreatDoor
open Go.RowKit Lx Tx Sx Go.Maps Go.WideMaps Go.Shelf
set_option maxRecDepth 100000

/-- a list of names is answered, in a row of its own; nothing that was there has changed -/
def LPostN (w : World) (L : List Nm) (e : Ending) (w' : World) : Prop :=
  ∃ A n cp, e = .returned (.slice A n cp) ∧ n = L.length ∧ w'.ownsRow w.heap.size 9 1 (.slice A n cp) n (L.map Sx.strV) ∧ Below w.heap.size w w'
theorem Value.ownsLow {w : World} {B B' : Nat} {e : TypeId} {size n : Nat} {v : Value} {xs : List Value} (h : w.ownsRow B e size v n xs) (hB : B' ≤ B) : w.ownsRow B' e size v n xs := by
  obtain ⟨h0, h⟩ := h
  refine ⟨h0, ?_⟩
  rcases h with h | ⟨g, cap, cur, hv, hg, h⟩
  · exact .inl h
  · exact .inr ⟨g, cap, cur, hv, by omega, h⟩

set_option maxHeartbeats 3200000 in
theorem sc_Cons (e : Ex) (S : Nat → Prop) (v : Value) (w : World) (hv : RdX S w e v) (hS : ∀ g, S g → g < w.heap.size) (hok : e.Ok) (hsz : e.size ≤ 90001) (hB : cost (evs e) ≤ 1000000) :
    Calls Tryz.prog 31 #[v] w (LPostN w (consE e)) := by
  obtain ⟨K, X, Z, A0, m, q, KA, kc, LA, lc, rfl, hin⟩ := hv.shape
  have ek : ∀ args w, (callFunc 75 args).run Tryz.prog w = .ok (.enter 75 args) w := enters_of Tryz.func75 (by kernel_rfl) rfl
  have HC := hidE (sc_namesOf 75 #[] 1000000 JNone (fun what _ _ => what == 1) (fun _ _ _ => ()) JNone.inv ek (sc_Cons1 1000000) (Nat.le_refl _) e () (fun _ => False) S _ (w.alloc (.cells #[.int .i64 (kdE e : Nat), .string ⟨(nmE e).toArray⟩, .bool (toE e), .int .i64 K, .string X, .int .i64 Z, .slice A0 m q, .slice KA (kidsE e).length kc, .slice LA (altsE e).length lc] 39)) (fun _ h => h) (hv.keep (fun _ h => h) (fun g hg => Below.heap_alloc _ _ _ (hS g hg))) (fun g hg => ⟨by have := hS g hg; simp; omega, fun h => h⟩) hok hsz hB)
  rw [kept_cons] at HC
  have HP := hidE (fun A n cp w' (hn : n = (addA [] (cns e)).length) (hr : w'.ownsRow ((w.alloc (.cells #[.int .i64 (kdE e : Nat), .string ⟨(nmE e).toArray⟩, .bool (toE e), .int .i64 K, .string X, .int .i64 Z, .slice A0 m q, .slice KA (kidsE e).length kc, .slice LA (altsE e).length lc] 39)).heap.size + 1 + 4) 9 1 (.slice A n cp) n ((addA [] (cns e)).map Sx.strV)) (hc : Chg (fun _ => False) (w.alloc (.cells #[.int .i64 (kdE e : Nat), .string ⟨(nmE e).toArray⟩, .bool (toE e), .int .i64 K, .string X, .int .i64 Z, .slice A0 m q, .slice KA (kidsE e).length kc, .slice LA (altsE e).length lc] 39)) w') => show LPostN w (consE e) (.returned (.slice A n cp)) w' from
    ⟨A, n, cp, rfl, hn, Value.ownsLow hr (by simp; omega), ((Below.refl _ w).alloc (Nat.le_refl _) _).trans ⟨hc.os, hc.tape, hc.output, hc.size, fun j hj => hc.block j (by simp; omega) (fun h => h)⟩⟩)
  clear hv hin hS hok hsz hB ek
  go_enter Tryz.func31, Tryz.ntmps31
  go_wp2_with fail
  refine HC.out.mono ?_
  rintro e' w' ⟨A, n, cp, rfl, hn, hr, hc⟩
  have HR : Hid (LPostN w (consE e) (.returned (.slice A n cp)) w') := hidE (HP.out A n cp w' hn hr hc)
  clear hn hr hc HC HP
  go_wp2_with fail
  go_ret
  exact HR.out

set_option maxHeartbeats 3200000 in
theorem sc_Bound (e : Ex) (S : Nat → Prop) (v : Value) (w : World) (hv : RdX S w e v) (hS : ∀ g, S g → g < w.heap.size) (hok : e.Ok) (hsz : e.size ≤ 90001) (hB : cost (evs e) ≤ 1000000) :
    Calls Tryz.prog 33 #[v] w (LPostN w (boundE e)) := by
  obtain ⟨K, X, Z, A0, m, q, KA, kc, LA, lc, rfl, hin⟩ := hv.shape
  have ek : ∀ args w, (callFunc 77 args).run Tryz.prog w = .ok (.enter 77 args) w := enters_of Tryz.func77 (by kernel_rfl) rfl
  have HC := hidE (sc_namesOf 77 #[] 1000000 JNone (fun what _ _ => what == 2) (fun _ _ _ => ()) JNone.inv ek (sc_Bound1 1000000) (Nat.le_refl _) e () (fun _ => False) S _ (w.alloc (.cells #[.int .i64 (kdE e : Nat), .string ⟨(nmE e).toArray⟩, .bool (toE e), .int .i64 K, .string X, .int .i64 Z, .slice A0 m q, .slice KA (kidsE e).length kc, .slice LA (altsE e).length lc] 39)) (fun _ h => h) (hv.keep (fun _ h => h) (fun g hg => Below.heap_alloc _ _ _ (hS g hg))) (fun g hg => ⟨by have := hS g hg; simp; omega, fun h => h⟩) hok hsz hB)
  rw [kept_bound] at HC
  have HP := hidE (fun A n cp w' (hn : n = (addA [] (bis e)).length) (hr : w'.ownsRow ((w.alloc (.cells #[.int .i64 (kdE e : Nat), .string ⟨(nmE e).toArray⟩, .bool (toE e), .int .i64 K, .string X, .int .i64 Z, .slice A0 m q, .slice KA (kidsE e).length kc, .slice LA (altsE e).length lc] 39)).heap.size + 1 + 4) 9 1 (.slice A n cp) n ((addA [] (bis e)).map Sx.strV)) (hc : Chg (fun _ => False) (w.alloc (.cells #[.int .i64 (kdE e : Nat), .string ⟨(nmE e).toArray⟩, .bool (toE e), .int .i64 K, .string X, .int .i64 Z, .slice A0 m q, .slice KA (kidsE e).length kc, .slice LA (altsE e).length lc] 39)) w') => show LPostN w (boundE e) (.returned (.slice A n cp)) w' from
    ⟨A, n, cp, rfl, hn, Value.ownsLow hr (by simp; omega), ((Below.refl _ w).alloc (Nat.le_refl _) _).trans ⟨hc.os, hc.tape, hc.output, hc.size, fun j hj => hc.block j (by simp; omega) (fun h => h)⟩⟩)
  clear hv hin hS hok hsz hB ek
  go_enter Tryz.func33, Tryz.ntmps33
  go_wp2_with fail
  refine HC.out.mono ?_
  rintro e' w' ⟨A, n, cp, rfl, hn, hr, hc⟩
  have HR : Hid (LPostN w (boundE e) (.returned (.slice A n cp)) w') := hidE (HP.out A n cp w' hn hr hc)
  clear hn hr hc HC HP
  go_wp2_with fail
  go_ret
  exact HR.out

set_option maxHeartbeats 3200000 in
theorem sc_Free (e : Ex) (S : Nat → Prop) (v : Value) (w : World) (hv : RdX S w e v) (hS : ∀ g, S g → g < w.heap.size) (hok : e.Ok) (hsz : e.size ≤ 90001) (hB : cost (evs e) ≤ 1000000) :
    Calls Tryz.prog 29 #[v] w (LPostN w (freeE e)) := by
  obtain ⟨K, X, Z, A0, m, q, KA, kc, LA, lc, rfl, hin⟩ := hv.shape
  have ek : ∀ args w, (callFunc 73 args).run Tryz.prog w = .ok (.enter 73 args) w := enters_of Tryz.func73 (by kernel_rfl) rfl
  have hmm : ∀ w, (Instr.makeMap 123 none).run Tryz.prog w = .ok (.map (some w.heap.size)) (w.alloc (.map #[] 0)) := fun _ => rfl
  obtain ⟨w1, h1⟩ : ∃ x, w.alloc (.cells #[.int .i64 (kdE e : Nat), .string ⟨(nmE e).toArray⟩, .bool (toE e), .int .i64 K, .string X, .int .i64 Z, .slice A0 m q, .slice KA (kidsE e).length kc, .slice LA (altsE e).length lc] 39) = x := ⟨_, rfl⟩
  have z1 : w1.heap.size = w.heap.size + 1 := by rw [← h1]; simp
  have c1 : Below w.heap.size w w1 := h1 ▸ (Below.refl _ w).alloc (Nat.le_refl _) _
  have b1 : Blk w1 w.heap.size 39 #[.int .i64 (kdE e : Nat), .string ⟨(nmE e).toArray⟩, .bool (toE e), .int .i64 K, .string X, .int .i64 Z, .slice A0 m q, .slice KA (kidsE e).length kc, .slice LA (altsE e).length lc] := h1 ▸ heap_alloc_new w _
  obtain ⟨w2, h2⟩ : ∃ x, w1.alloc (.map #[] 0) = x := ⟨_, rfl⟩
  have z2 : w2.heap.size = w.heap.size + 1 + 1 := by rw [← h2]; simp [z1]
  have c2 : Below w.heap.size w w2 := h2 ▸ c1.alloc (by omega) _
  have m2 : MapE mkCnt w2 (w.heap.size + 1) [] := z1 ▸ h2 ▸ MapE.made mkCnt w1
  obtain ⟨W, h3⟩ : ∃ x, w2.alloc (.cells #[.map (some (w.heap.size + 1))] 123) = x := ⟨_, rfl⟩
  have z3 : W.heap.size = w.heap.size + 1 + 2 := by rw [← h3]; simp [z2]
  have c3 : Below w.heap.size w W := h3 ▸ c2.alloc (by omega) _
  have b3 : Blk W (w.heap.size + 1 + 1) 123 #[.map (some (w.heap.size + 1))] := z2 ▸ h3 ▸ heap_alloc_new w2 _
  have bW : Blk W w.heap.size 39 #[.int .i64 (kdE e : Nat), .string ⟨(nmE e).toArray⟩, .bool (toE e), .int .i64 K, .string X, .int .i64 Z, .slice A0 m q, .slice KA (kidsE e).length kc, .slice LA (altsE e).length lc] := h3 ▸ (h2 ▸ b1.alloc _ : Blk w2 _ _ _).alloc _
  obtain ⟨⟨g0, g1, g2, g3, g4, g5, g6, g7, g8⟩, -, -⟩ := blk_facts9 bW
  have hj : JFree (w.heap.size + 1 + 1) (w.heap.size + 1) 0 [] (fun g => g = w.heap.size + 1 + 1 ∨ g = w.heap.size + 1) W :=
    ⟨b3, m2.keep (h3 ▸ Below.heap_alloc _ _ _ (by omega)), Nat.le_refl _, fun x => ⟨Int.le_refl _, Int.le_refl _⟩, ⟨.inl rfl, .inr rfl⟩, by omega, fun g hg => by rcases hg with h | h <;> omega⟩
  have HC := hidE (sc_namesOf 73 #[.pointer (some ⟨w.heap.size + 1 + 1, 0, none⟩)] 1000000 (JFree (w.heap.size + 1 + 1) (w.heap.size + 1)) yesF trF (JFree.inv _ _) ek (sc_Free1 _ _ 1000000 (by decide)) (Nat.le_refl _) e [] _ S _ W hj (hv.keep (fun _ h => h) (fun g hg => c3.block g (hS g hg))) (fun g hg => ⟨by have := hS g hg; omega, fun h => by have := hS g hg; rcases h with h | h <;> omega⟩) hok hsz hB)
  rw [kept_free] at HC
  have HP := hidE (fun A n cp w' (hn : n = (addA [] (fr e)).length) (hr : w'.ownsRow (W.heap.size + 1 + 4) 9 1 (.slice A n cp) n ((addA [] (fr e)).map Sx.strV)) (hc : Chg (fun g => g = w.heap.size + 1 + 1 ∨ g = w.heap.size + 1) W w') => show LPostN w (freeE e) (.returned (.slice A n cp)) w' from
    ⟨A, n, cp, rfl, hn, Value.ownsLow hr (by omega), c3.trans ⟨hc.os, hc.tape, hc.output, by have := hc.size; omega, fun j hj => hc.block j (by omega) (fun h => by rcases h with h | h <;> omega)⟩⟩)
  clear hv hin hS hok hsz hB ek hj b1 bW b3 m2 c1 c2 c3
  go_enter Tryz.func29, Tryz.ntmps29
  go_wp2_with fail
  refine HC.out.mono ?_
  rintro e' w' ⟨A, n, cp, rfl, hn, hr, hc⟩
  have HR : Hid (LPostN w (freeE e) (.returned (.slice A n cp)) w') := hidE (HP.out A n cp w' hn hr hc)
  clear hn hr hc HC HP
  go_wp2_with fail
  go_ret
  exact HR.out
end Go.Proofs.YtefldbbiajkbnaaGreatDoor

/-
  The laws of package scope: whether two lists of names are one.
-/
namespace Go.Proofs.YtefldbbiajkbnaaGreatDoor
open Go.RowKit Lx Tx Sx Go.Maps Go.WideMaps Go.Shelf
set_option maxRecDepth 100000

/-- names in a row of its own, where they lie -/
theorem own_nms {w : World} {B n cp : Nat} {A : Option Addr} {L : List Nm} (hn : n = L.length) (h : w.ownsRow B 9 1 (.slice A n cp) n (L.map Sx.strV)) : NmsIn (fun g => B ≤ g ∧ g < w.heap.size) w L A := fun hl => by
  have hp : 0 < n := by rw [hn]; exact List.length_pos_iff.2 hl
  obtain ⟨g, cap, hv, hb, hg⟩ := h.form hp
  injection hv with hv _ _
  refine ⟨g, hv, ⟨hb, hg⟩, fun j v hj => ?_⟩
  have hjn : j < n := by
    rw [hn]
    have := (List.getElem?_eq_some_iff.1 hj).1
    simpa using this
  obtain ⟨g', hg', -, -, hc⟩ := own_cell h hjn hj
  rw [hv] at hg'
  injection hg' with hg'
  injection hg' with hg'
  rw [Nat.zero_add, hg']
  exact hc w rfl

set_option maxHeartbeats 3200000 in
theorem sc_names (L R : List Nm) (S S' : Nat → Prop) (A C : Option Addr) (p q : Nat) (w : World) (hA : NmsIn S w L A) (hC : NmsIn S' w R C) (hl : L.length ≤ 1000000) :
    Calls Tryz.prog 28 #[.slice A L.length p, .slice C R.length q] w fun e w' => e = .returned (.bool (decide (L = R))) ∧ Below w.heap.size w w' := by
  obtain ⟨n, hn⟩ : ∃ n, L.length = n := ⟨_, rfl⟩
  obtain ⟨m, hm⟩ : ∃ n, R.length = n := ⟨_, rfl⟩
  rw [hn, hm]
  rw [hn] at hl
  by_cases he : n = m
  · subst he
    have HN := hidE hn
    have HM := hidE hm
    have HA := hidE hA
    have HC := hidE hC
    clear hn hm hA hC
    go_enter Tryz.func28, Tryz.ntmps28
    go_wp2_with fail
    go_loopg [5] n (fun gg vi wr => ∃ i : Nat, gg = n - i ∧ vi = .int .i64 (i : Nat) ∧ i ≤ n ∧ Hid (L.take i = R.take i) ∧ Hid (Below w.heap.size w wr))
    case atStart => exact ⟨0, rfl, rfl, by omega, hidE rfl, hidE (Below.refl _ _)⟩
    case round =>
      obtain ⟨i, rfl, rfl, hi, hT, hB⟩ := hrel
      by_cases hlt : i < n
      · obtain ⟨x, hx⟩ : ∃ x, L[i]? = some x := ⟨_, List.getElem?_eq_getElem (by rw [HN.out]; exact hlt)⟩
        obtain ⟨y, hy⟩ : ∃ x, R[i]? = some x := ⟨_, List.getElem?_eq_getElem (by rw [HM.out]; exact hlt)⟩
        obtain ⟨g, rfl, hSg, hlie⟩ := HA.out (fun e => by rw [e] at hx; simp at hx)
        obtain ⟨k, rfl, hSk, hlik⟩ := HC.out (fun e => by rw [e] at hy; simp at hy)
        have f0 := hlie i (Sx.strV x) (by rw [List.getElem?_map, hx]; rfl)
        have f1 := hlik i (Sx.strV y) (by rw [List.getElem?_map, hy]; rfl)
        rw [Nat.zero_add] at f0 f1
        replace f0 := (hB.out.cell (p := ⟨g, i, none⟩) (lt_cell f0)).trans f0
        replace f1 := (hB.out.cell (p := ⟨k, i, none⟩) (lt_cell f1)).trans f1
        simp only [Sx.strV] at f0 f1
        have i0 : (0 : Int) ≤ (i : Int) := by omega
        have i1 : (i : Int) < n := by omega
        obtain ⟨X, hX⟩ : ∃ X : ByteArray, ⟨x.toArray⟩ = X := ⟨_, rfl⟩
        obtain ⟨Y, hY⟩ : ∃ X : ByteArray, ⟨y.toArray⟩ = X := ⟨_, rfl⟩
        rw [hX] at f0
        rw [hY] at f1
        have HSN : Hid (∀ (l : List Nm) z, l[i]? = some z → l.take (i + 1) = l.take i ++ [z]) := hidE (fun (l : List Nm) z h => by rw [List.take_add_one, h]; rfl)
        have HXY := hidE (And.intro hx hy)
        by_cases hxy : x = y
        · have HEQ : Hid (L.take (i + 1) = R.take (i + 1)) := hidE (by rw [HSN.out L x hx, HSN.out R y hy, hT.out, hxy])
          have d : (X.toList == Y.toList) = true := by rw [← hX, ← hY, hxy]; exact beq_self_eq_true _
          clear hx hy hSg hSk hlie hlik hxy
          go_wp2_with fail
          go_region_held3 (fun W : World => W.cell? ⟨g, i, none⟩ = some (.string X) ∧ W.cell? ⟨k, i, none⟩ = some (.string Y)) (first | exact ⟨f0, f1⟩) (fail)
          all_goals
            go_wp2_with fail
            go_roundg (n - (i + 1))
            case measure => omega
            case rel => exact ⟨i + 1, rfl, by go_num, by omega, HEQ, hidE hB.out.drew⟩
        · have HE : Hid (decide (L = R) = false) := hidE (decide_eq_false (fun e => hxy (by rw [e, hy] at hx; injection hx with hx; exact hx.symm)))
          have d : (X.toList == Y.toList) = false := by rw [Lib.toList_data, Lib.toList_data, ← hX, ← hY]; exact beq_eq_false_iff_ne.2 hxy
          clear hx hy hSg hSk hlie hlik hxy
          go_wp2_with fail
          go_region_held3 (fun W : World => W.cell? ⟨g, i, none⟩ = some (.string X) ∧ W.cell? ⟨k, i, none⟩ = some (.string Y)) (first | exact ⟨f0, f1⟩) (fail)
          all_goals
            go_wp2_with fail
            go_ret
            refine ⟨?_, hB.out.drew⟩
            rw [HE.out]
            rfl
      · obtain rfl : i = n := by omega
        have HE : Hid (decide (L = R) = true) := hidE (decide_eq_true (by
          have := hT.out
          rw [List.take_of_length_le (by rw [HN.out]; exact Nat.le_refl _), List.take_of_length_le (by rw [HM.out]; exact Nat.le_refl _)] at this
          exact this))
        go_wp2_with fail
        go_ret
        refine ⟨?_, hB.out⟩
        rw [HE.out]
        rfl
  · clear hA hC
    have HE : Hid (decide (L = R) = false) := hidE (decide_eq_false (fun e => he (by rw [← hn, ← hm, e])))
    have d : ((n : Int) != (m : Int)) = true := by simpa using fun e => he (by omega)
    clear hn hm hl
    go_enter Tryz.func28, Tryz.ntmps28
    go_wp2_with fail
    go_ret
    refine ⟨?_, Below.refl _ _⟩
    rw [HE.out]
    rfl
end Go.Proofs.YtefldbbiajkbnaaGreatDoor

/-
  Package scope: the names of constructors.
-/
namespace Go.Proofs.YtefldbbiajkbnaaGreatDoor
open Go.RowKit Lx Tx Sx Go.Maps Go.WideMaps Go.Shelf
set_option maxRecDepth 100000

set_option maxHeartbeats 3200000 in
theorem sc_namesOfCons (l : List (Nm × Ty)) (S : Nat → Prop) (A : Option Addr) (m d : Nat) (w : World) (hl : LstG pcC S w l A) (hm : m = l.length) (hS : ∀ g, S g → g < w.heap.size) (hn : l.length ≤ 100000) :
    Calls Tryz.prog 126 #[.slice A m d] w (LPostN w (l.map Prod.fst)) := by
  subst hm
  obtain ⟨n, hn'⟩ : ∃ n, l.length = n := ⟨_, rfl⟩
  rw [hn'] at hn ⊢
  obtain ⟨i0, hi0, hz0, hz1, hz2⟩ := info_parts str_info
  have HN := hidE hn'
  have HL := hidE hl
  have HS := hidE hS
  clear hl hS hn'
  go_enter Tryz.func126, Tryz.ntmps126
  go_wp2_with fail
  go_loopg [3, 8] n (fun gg v3 vi wr => ∃ (i : Nat) (C : Option Addr) (cp : Nat), gg = n - i ∧ vi = .int .i64 (i : Nat) ∧ v3 = .slice C i cp ∧ i ≤ n ∧ Hid (Chg (fun _ => False) w wr) ∧ Hid (wr.ownsRow w.heap.size 9 1 (.slice C i cp) i (((l.take i).map Prod.fst).map Sx.strV)))
  case atStart => exact ⟨0, none, 0, rfl, rfl, rfl, by omega, hidE (Chg.refl _ _), hidE (World.ownsRow_nil _ _ _ _)⟩
  case round =>
    obtain ⟨i, C, cp, rfl, rfl, rfl, hi, hB, hO⟩ := hrel
    have hsr := hB.out.size
    by_cases hlt : i < n
    · obtain ⟨x, hx⟩ : ∃ x, l[i]? = some x := ⟨_, List.getElem?_eq_getElem (by rw [HN.out]; exact hlt)⟩
      obtain ⟨g, cs, rfl, hSg, hcs, hrow⟩ := HL.out.row i x hx
      have hkS : ∀ k, S k → wr.heap[k]? = w.heap[k]? := fun k hk => hB.out.block k (HS.out k hk) (fun h => h)
      have hrow2 := Lie.keep (w := w) hrow (hkS g hSg)
      obtain ⟨c, t⟩ := x
      obtain ⟨X, hX⟩ : ∃ X : ByteArray, ⟨c.toArray⟩ = X := ⟨_, rfl⟩
      obtain ⟨k0, X0, Z0, B0, m0, q0, rfl⟩ : ∃ k0 X0 Z0 B0 m0 q0, cs = [.string X, .int .i64 k0, .string X0, .int .i64 Z0, .slice B0 m0 q0] := by
        obtain ⟨TA, ta, rfl, -⟩ := hcs
        obtain ⟨K, Y, Z, B, m, q, hs⟩ := tyC_shape (some t) TA ta
        exact ⟨K, Y, Z, B, m, q, by rw [show tyV t TA ta = tyC (some t) TA ta from rfl, hs, Sx.strV, hX]⟩
      have f0 : wr.cell? ⟨g, i * 5, none⟩ = some (.string X) := hrow2 0 _ rfl
      have f1 : wr.cell? ⟨g, i * 5 + 1, none⟩ = some (.int .i64 k0) := hrow2 1 _ rfl
      have f2 : wr.cell? ⟨g, i * 5 + 2, none⟩ = some (.string X0) := hrow2 2 _ rfl
      have f3 : wr.cell? ⟨g, i * 5 + 3, none⟩ = some (.int .i64 Z0) := hrow2 3 _ rfl
      have f4 : wr.cell? ⟨g, i * 5 + 4, none⟩ = some (.slice B0 m0 q0) := hrow2 4 _ rfl
      have hgl := lt_cell f0
      have hX2 : X.data.toList = c := by rw [← hX]
      have HO3 := hidE ((hO.out.alloc (.cells #[.string X, .int .i64 k0, .string X0, .int .i64 Z0, .slice B0 m0 q0] 61)).alloc (.cells #[.string X] 9))
      have HSN : Hid (((l.take (i + 1)).map Prod.fst).map Sx.strV = ((l.take i).map Prod.fst).map Sx.strV ++ [.string X]) := hidE (by rw [List.take_add_one, hx, ← hX]; simp [Sx.strV])
      clear hx hSg hcs hrow hkS hrow2 hX
      go_wp2_with (at_builtin; refine wpList_append_lies _ rfl (.tmp 12) (.tmp 15) 56 rfl w.heap.size 9 i0 _ 1 16 Tryz.underlying56 hi0 hz0 hz1 hz2 rfl (by decide) _ i (((l.take i).map Prod.fst).map Sx.strV) rfl HO3.out ⟨wr.heap.size + 1, 0, none⟩ 1 1 [.string X] rfl rfl (new_cells' _ _ _ _ (by simp)) (by intro u hu; simp at hu; subst hu; rfl) (by omega) (by unfold maxLen; omega) (by omega) (by simp; omega) _ rfl ?_; intro g3 c3 w5 hown3 hgrow hat hlt3; have HO5 := hidE hown3; have HG5 := hidE hgrow; clear hown3 hgrow hat)
      go_roundg (n - (i + 1))
      case measure => omega
      case rel =>
        refine ⟨i + 1, some ⟨g3, 0, none⟩, c3, rfl, by go_num, rfl, by omega, hidE (((hB.out.alloc _).alloc _).grown HG5.out (fun k hk => .inl (hO.out.lt k hk).1)), hidE (HSN.out ▸ HO5.out)⟩
    · obtain rfl : i = n := by omega
      have HR : Hid (LPostN w (l.map Prod.fst) (.returned (.slice C i cp)) wr) := hidE ⟨C, i, cp, rfl, by rw [List.length_map, HN.out], by
        have := hO.out
        rw [List.take_of_length_le (by rw [HN.out]; exact Nat.le_refl _)] at this
        exact this, ⟨hB.out.os, hB.out.tape, hB.out.output, hB.out.size, fun j hj => hB.out.block j hj (fun h => h)⟩⟩
      go_wp2_with fail
      go_ret
      exact HR.out
end Go.Proofs.YtefldbbiajkbnaaGreatDoor
