/-
  Package types and what it stands on: contracts of the code's functions, part 20.
-/
import Derived.Test.YthgkpmgcikopnaaGreatDoorBuS
import Derived.Test.YthgkpmgcikopnaaGreatDoorBuP
import Derived.Laws.EntriesVeiled
/-
  Package types: Free.
-/
namespace Go.Proofs.YthgkpmgcikopnaaGreatDoor
open Go.RowKit Lx Tx Go.Maps Go.WideMaps Go.Shelf
set_option maxRecDepth 100000

/-- the closure that notes a name -/
def noteV (b : Nat) : Value := .func (.func 98) #[] #[.pointer (some ⟨b + 3, 0, none⟩), .pointer (some ⟨b + 1, 0, none⟩)]

set_option maxHeartbeats 800000 in
theorem tc_onceNew (b : Nat) (w : World) (hb : w.heap.size = b + 1) (h : Blk w b 41 #[.slice none 0 0]) :
    Calls Tryz.prog 70 #[.pointer (some ⟨b, 0, none⟩)] w fun e w' => e = .returned (noteV b) ∧ OnceI b 0 [] (fun g => b ≤ g ∧ g ≤ b + 3) w' ∧ w'.heap.size = b + 4 ∧ Below w.heap.size w w' := by
  have hmf : ∀ (fn : Fn) (first cap : Array Value) (w : World), (Instr.makeFunc fn first cap).run Tryz.prog w = .ok (.func fn first cap) w := fun _ _ _ _ => rfl
  have hmm : ∀ w, (Instr.makeMap 84 none).run Tryz.prog w = .ok (.map (some w.heap.size)) (w.alloc (.map #[] 0)) := fun _ => rfl
  have H := hidE h
  have HB := hidE hb
  clear h hb
  go_enter Tryz.func70, Tryz.ntmps70
  go_wp2_with fail
  go_ret
  obtain ⟨h1, h2, h3, hs, hbl⟩ := laid3 w (.cells #[.pointer (some ⟨b, 0, none⟩)] 111) (.map #[] 0) (.cells #[.map (some (w.heap.size + 1))] 84)
  have hb := HB.out
  refine ⟨by rw [hb]; rfl, ⟨?_, ?_, ?_, Nat.le_refl _, by omega, fun g hg => by omega, none, 0, ?_, ⟨rfl, .inl ⟨rfl, rfl⟩⟩, fun a ha => by cases ha⟩, by omega, hbl⟩
  · rw [show b + 3 = w.heap.size + 1 + 1 by omega, show b + 2 = w.heap.size + 1 by omega]; exact h3
  · rw [show b + 1 = w.heap.size by omega]; exact h1
  · rw [show b + 2 = w.heap.size + 1 by omega]; exact MapE.laid mkSet h2
  · exact H.out.below hbl (by omega)

/-- a list that gets nothing a second time, and, behind it, a cell with the closure -/
def NoteI (b : Nat) (c : Nat) (s : List Name) (M : Nat → Prop) (w : World) : Prop :=
  ∃ M0, (∀ g, M g ↔ M0 g ∨ g = b + 4) ∧ OnceI b c s M0 w ∧ ¬ M0 (b + 4) ∧ Blk w (b + 4) 109 #[noteV b]
theorem NoteI.inv (b : Nat) : Inv (NoteI b) where
  mono c c' s M w := fun ⟨M0, h1, h2, h3⟩ hc => ⟨M0, h1, (OnceI.inv b).mono _ _ _ _ _ h2 hc, h3⟩
  lt c s M w := fun ⟨M0, h1, h2, h3, h4⟩ g hg => by
    rcases (h1 g).1 hg with h | h
    · exact h2.all g h
    · rw [h]; exact h4.lt
  keep c s M w w' := fun ⟨M0, h1, h2, h3, h4⟩ hs hk =>
    ⟨M0, h1, (OnceI.inv b).keep _ _ _ _ _ h2 hs (fun g hg => hk g ((h1 g).2 (.inl hg))), h3, h4.same (hk _ ((h1 _).2 (.inr rfl)))⟩
/-- what noting leaves -/
theorem NoteI.next {b c : Nat} {s' : List Name} {M M0 M' : Nat → Prop} {w w1 w' : World} (h1 : ∀ g, M g ↔ M0 g ∨ g = b + 4) (h3 : ¬ M0 (b + 4)) (h4 : Blk w1 (b + 4) 109 #[noteV b]) (hi : OnceI b c s' M' w') (hM : ∀ g, M' g → M0 g ∨ w1.heap.size ≤ g) (hc : Chg M0 w1 w') (hb : Below w.heap.size w w1) :
    ∃ M2, NoteI b c s' M2 w' ∧ (∀ g, M2 g → M g ∨ w.heap.size ≤ g) ∧ Chg M w w' := by
  have hs := hb.size
  have hl := h4.lt
  refine ⟨fun g => M' g ∨ g = b + 4, ⟨M', fun g => Iff.rfl, hi, fun h => ?_, h4.chg hc h3⟩, fun g hg => ?_, (Chg.of_below hb).trans' hc (fun g _ h => (h1 g).2 (.inl h))⟩
  · rcases hM _ h with h | h
    · exact h3 h
    · omega
  · rcases hg with h | h
    · rcases hM _ h with h | h
      · exact .inl ((h1 g).2 (.inl h))
      · exact .inr (by omega)
    · exact .inl ((h1 g).2 (.inr h))

def noteVar : Ty → List Name → List Name
  | .var x, s => addN x s
  | _, s => s
theorem noteVar_ways (t : Ty) (s : List Name) : ((kd t : Int) == 1) = true ∧ noteVar t s = addN (nmB t).data.toList s ∨ ((kd t : Int) == 1) = false ∧ noteVar t s = s := by
  cases t with
  | var x => exact .inl ⟨rfl, rfl⟩
  | mt n => exact .inr ⟨rfl, rfl⟩
  | con c l => exact .inr ⟨rfl, rfl⟩
  | fn a b => exact .inr ⟨rfl, rfl⟩
  | all x t => exact .inr ⟨rfl, rfl⟩

set_option maxHeartbeats 1600000 in
theorem tc_free1 (b : Nat) : Doer 72 #[.pointer (some ⟨b + 4, 0, none⟩)] (NoteI b) noteVar := by
  intro c s M t S v w hi hv hS hnm hc
  obtain ⟨M0, hM, hi0, hne, hbk⟩ := hi
  obtain ⟨K, X, Z, A, m, cp, rfl, hK, hX, -, -, -⟩ := hv.parts
  have hw := noteVar_ways t s
  rw [← hK, ← hX] at hw
  have hX24 : X.size ≤ 24 := by have := nm_len hnm; rw [← hX] at this; exact this
  have hal : Hid (Below w.heap.size w (w.alloc (.cells #[.int .i64 K, .string X, .int .i64 Z, .slice A m cp] 25))) := hidE ((Below.refl _ w).alloc (Nat.le_refl _) _)
  obtain ⟨y0, -, l0⟩ := blk_facts1 hbk
  have H1 := hidE ((OnceI.inv b).keep _ _ _ _ (w.alloc (.cells #[.int .i64 K, .string X, .int .i64 Z, .slice A m cp] 25)) hi0 (by simp) (fun g hg => Below.heap_alloc _ _ _ (hi0.all g hg)))
  have ek : ∀ args w, (callFunc 98 args).run Tryz.prog w = .ok (.enter 98 args) w := enters_of Tryz.func98 (by kernel_rfl) rfl
  have HM := hidE hM
  have HNE := hidE hne
  have HBK := hidE (hbk.below hal.out l0)
  obtain ⟨s', hs'⟩ : ∃ s', noteVar t s = s' := ⟨_, rfl⟩
  rw [hs'] at hw ⊢
  clear hK hX hv hnm hi0 hM hne hbk hs' hS
  unfold noteV at y0
  rcases hw with ⟨d1, hr⟩ | ⟨d1, rfl⟩
  · have HR := hidE hr
    clear hr
    go_enter Tryz.func72, Tryz.ntmps72
    go_wp2_with fail
    refine (tc_once b c s M0 X _ H1.out hX24 hc).mono ?_
    rintro e w' ⟨rfl, M', i', hM', c'⟩
    have HF := hidE (NoteI.next HM.out HNE.out HBK.out i' hM' c' hal.out)
    clear i' hM' c'
    go_wp2_with fail
    first | go_end0 | refine bodyPost_ret (results_none rfl _ _ _) rfl ?_
    rw [HR.out]
    exact ⟨rfl, HF.out⟩
  · go_enter Tryz.func72, Tryz.ntmps72
    go_wp2_with fail
    first | go_end0 | refine bodyPost_ret (results_none rfl _ _ _) rfl ?_
    exact ⟨rfl, NoteI.next HM.out HNE.out HBK.out ((OnceI.inv b).mono _ _ _ _ _ H1.out (by omega)) (fun g hg => .inl hg) (Chg.refl M0 _) hal.out⟩

theorem own_base {w : World} {B B' : Nat} {e : TypeId} {size n : Nat} {v : Value} {xs : List Value} (h : w.ownsRow B e size v n xs) (hb : B' ≤ B) : w.ownsRow B' e size v n xs := by
  obtain ⟨h0, h⟩ := h
  refine ⟨h0, ?_⟩
  rcases h with h | ⟨g, cap, cur, hv, hg, h⟩
  · exact .inl h
  · exact .inr ⟨g, cap, cur, hv, by omega, h⟩

/-- the names in the order in which they are met first -/
def freeL (t : Ty) : List Name := thr (atLeaf noteVar) (fun _ _ s => s) [] t []

set_option maxHeartbeats 1600000 in
theorem tc_free (t : Ty) (S : Nat → Prop) (v : Value) (w : World) (hv : RdV S w t v) (hS : ∀ g, S g → g < w.heap.size) (hnm : Nm t) (hsz : t.size ≤ 1000000) :
    Calls Tryz.prog 36 #[v] w fun e w' => ∃ A cp, e = .returned (.slice A (freeL t).length cp) ∧ w'.ownsRow w.heap.size 9 1 (.slice A (freeL t).length cp) (freeL t).length (strV (freeL t)) ∧ (freeL t).length ≤ 2000000 ∧ Below w.heap.size w w' := by
  obtain ⟨K, X, Z, A, m, cp, rfl, -, -, -, -, -⟩ := hv.parts
  have hmf : ∀ (fn : Fn) (first cap : Array Value) (w : World), (Instr.makeFunc fn first cap).run Tryz.prog w = .ok (.func fn first cap) w := fun _ _ _ _ => rfl
  have HV := hidE hv
  have HS := hidE hS
  have HNM := hidE hnm
  clear hv hS hnm
  go_enter Tryz.func36, Tryz.ntmps36
  go_wp2_with fail
  obtain ⟨h1, h2, hs2, hbl⟩ := laid2 w (.cells #[.int .i64 K, .string X, .int .i64 Z, .slice A m cp] 25) (.cells #[.slice none 0 0] 41)
  refine (tc_onceNew (w.heap.size + 1) _ hs2 h2).mono ?_
  rintro e w1 ⟨rfl, ho, hs1, b1⟩
  have hl1 := hbl.trans (b1.mono (by omega))
  have ht1 : Blk w1 w.heap.size 25 #[.int .i64 K, .string X, .int .i64 Z, .slice A m cp] := Blk.below h1 b1 (by omega)
  obtain ⟨p0, p1, p2, p3, s0, s1, s2, s3, hlx⟩ := blk_facts4 ht1
  have HO := hidE ho
  have HS1 := hidE hs1
  have HL1 := hidE hl1
  clear h1 h2 hs2 hbl ho hs1 b1 hl1 ht1
  unfold noteV
  go_wp2_with fail
  have hs1 := HS1.out
  have hl2 : Below w.heap.size w (w1.alloc (.cells #[noteV (w.heap.size + 1)] 109)) := HL1.out.alloc (by have := HL1.out.size; omega) _
  have hb4 : Blk (w1.alloc (.cells #[noteV (w.heap.size + 1)] 109)) (w.heap.size + 1 + 4) 109 #[noteV (w.heap.size + 1)] := by rw [← hs1]; exact heap_alloc_new w1 _
  have hle := tc_leaves 72 #[.pointer (some ⟨w.heap.size + 1 + 4, 0, none⟩)] (NoteI (w.heap.size + 1)) noteVar (NoteI.inv _) (enters_of Tryz.func72 (by kernel_rfl) rfl) (tc_free1 _)
    0 [] (fun g => (w.heap.size + 1 ≤ g ∧ g ≤ w.heap.size + 1 + 3) ∨ g = w.heap.size + 1 + 4) t S _ _
    ⟨_, fun g => Iff.rfl, (OnceI.inv _).keep _ _ _ _ _ HO.out (by simp) (fun g hg => Below.heap_alloc _ _ _ (by omega)), by omega, hb4⟩
    (HV.out.keep (fun _ h => h) (fun g hg => hl2.block g (HS.out g hg))) (fun g hg => ⟨by have := HS.out g hg; have := hl2.size; omega, by have := HS.out g hg; omega⟩) HNM.out hsz (by omega)
  rw [← hs1] at hle
  refine hle.mono ?_
  rintro e w3 ⟨rfl, M', ⟨M0, -, hi3, -, -⟩, hM', c3⟩
  obtain ⟨A3, cp3, hbk3, hown3, -⟩ := hi3.row
  obtain ⟨q0, q1, q2⟩ := blk_facts1 hbk3
  have hlen := hi3.len
  have HB := hidE (hl2.trans (c3.toBelow (B := w.heap.size) (by have := hl2.size; omega) (fun k hk h => by omega)))
  have HOWN := hidE (own_base hown3 (show w.heap.size ≤ w.heap.size + 1 + 4 by omega))
  have HLEN := hidE (show (freeL t).length ≤ 2000000 by unfold freeL; omega)
  clear hle hl2 hb4 hs1 hi3 hbk3 hM' c3 hown3 hlen HO
  replace q0 : w3.cell? ⟨w.heap.size + 1, 0, none⟩ = some (.slice A3 (freeL t).length cp3) := q0
  go_wp2_with fail
  go_ret
  exact ⟨A3, cp3, rfl, HOWN.out, HLEN.out, HB.out⟩

end Go.Proofs.YthgkpmgcikopnaaGreatDoor

/-
  Package types: a list that gets nothing a second time (numbers); Metas.
-/
namespace Go.Proofs.YthgkpmgcikopnaaGreatDoor
open Go.RowKit Lx Tx Go.Maps Go.WideMaps Go.Shelf
set_option maxRecDepth 100000

theorem int_info : (Tryz.prog.info? 3).map (fun i => (i.zero, i.size, i.bytes)) = some (some (.int .i64 0), 1, 8) := by kernel_rfl
theorem intKeyed : Keyed Tryz.prog 3 := int_keyed Tryz.underlying3
theorem intKey (n : Nat) (h : n ≤ 999999) : keyOf Tryz.prog 3 (.int .i64 n) = some (.int .i64 n) := keyOf_int_mk Tryz.underlying3 (by simp [Lit.wf, IntKind.min, IntKind.max, IntKind.signed, IntKind.bits]; omega)
theorem klI (x : Int) : WideAt.IsKeyLit (.int .i64 x) := trivial


/-- a set of numbers -/
def envZ : List Nat → DataW Unit
  | [] => .map []
  | n :: r => (envZ r).put (.int .i64 n) .nil
theorem tidy_envZ : ∀ r, Tidy (envZ r)
  | [] => tidy_empty
  | _ :: r => (tidy_envZ r).put (klI _) _
theorem size_envZ : ∀ r, Maps.size (envZ r) ≤ r.length
  | [] => by simp [envZ, Maps.size]
  | _ :: r => by
    have := size_envZ r
    rw [envZ, size_put (tidy_envZ r), List.length_cons]
    split <;> omega
theorem has_envZ (x : Nat) : ∀ r, Maps.has (envZ r) (.int .i64 x) = decide (x ∈ r)
  | [] => rfl
  | p :: r => by
    rw [envZ]
    by_cases h : p = x
    · rw [← h, has_put_same (tidy_envZ r).isMap (klI _)]; simp
    · rw [has_put_other (fun e => h (by injection e with _ e; omega)), has_envZ x r]
      simp [show x ≠ p from fun e => h e.symm]
theorem at_envZ (x : Nat) : ∀ r, (envZ r).atKey (.int .i64 x) .nil = .nil
  | [] => rfl
  | p :: r => by
    rw [envZ]
    by_cases h : p = x
    · rw [← h, atKey_put_same (tidy_envZ r).isMap (klI _)]
    · rw [atKey_put_other (fun e => h (by injection e with _ e; omega)), at_envZ x r]
def MapZ (w : World) (b : Nat) (r : List Nat) : Prop := ∃ n, n ≤ r.length ∧ w.ownsMap Tryz.prog 3 unitElem b n (envZ r)
theorem tightZ {w : World} {b n : Nat} {D : DataW Unit} (h : w.ownsMap Tryz.prog 3 unitElem b n D) : w.ownsMap Tryz.prog 3 unitElem b (Maps.size D) D := by
  obtain ⟨es, clock, hb, F, _, rfl⟩ := h
  exact ⟨es, clock, hb, F, by simp [Maps.size, length_sorted], rfl⟩
theorem MapZ.lt {w : World} {b : Nat} {r : List Nat} (h : MapZ w b r) : b < w.heap.size := by obtain ⟨_, _, h⟩ := h; exact h.lt
theorem MapZ.keep {w w' : World} {b : Nat} {r : List Nat} (h : MapZ w b r) (hk : w'.heap[b]? = w.heap[b]?) : MapZ w' b r := by
  obtain ⟨n, hn, es, clock, hb, F, hs, hD⟩ := h
  exact ⟨n, hn, es, clock, hk.trans hb, F, hs, hD⟩
theorem MapZ.laid {w : World} {b : Nat} (h : w.heap[b]? = some (.map #[] 0)) : MapZ w b [] := ⟨0, Nat.le_refl _, ownsMade h⟩
theorem MapZ.getOk {w : World} {b : Nat} {r : List Nat} (h : MapZ w b r) (x : Nat) (hx : x ≤ 999999) :
    (Instr.lookup 152 (.map (some b)) (.int .i64 x) true).run Tryz.prog w = .ok (.tuple #[.agg #[], .bool (decide (x ∈ r))]) w := by
  obtain ⟨n, _, h⟩ := h
  obtain ⟨v, ps, hrun, hv⟩ := h.look_ok intKeyed Tryz.underlying152 (z := .agg #[]) (by kernel_rfl) (zd := .nil) (zp := []) rfl (intKey x hx)
  rw [hrun, has_envZ]
  rw [at_envZ] at hv
  rw [unitElem_inv hv]
theorem wpList_putZ (w : World) {ops : Array Oper} {rest : List Oper} {o : Oper} {a : Act} {Q : Exit → Act → World → Prop}
    (hg : o.guard = none) (mo x vo : Operand) (hop : o.op = Op.mapUpdate 152 mo x vo) (b : Nat) (r : List Nat) (hm : a.eval mo = .map (some b)) (h : MapZ w b r) (hn : r.length < 1000000000) (X : Nat) (hX : X ≤ 999999)
    (hx : a.eval x = .int .i64 X) (hv : a.eval vo = .agg #[]) (hK : ∀ w', MapZ w' b (X :: r) → w.grownBy w' (some b) → wpList Tryz.prog ops Q rest (a.put o.dst undef) w') :
    wpList Tryz.prog ops Q (o :: rest) a w := by
  obtain ⟨n, hnr, h⟩ := h
  exact wpList_mapUpdate_own w hg mo x vo 152 hop 3 133 intKeyed Tryz.underlying152 unitElem b n _ hm h (by unfold maxLen; omega) _ _ _ hx hv (intKey X hX) .nil [] rfl (fun w' h1 h2 => hK w' ⟨_, size_envZ (X :: r), tightZ (D := envZ (X :: r)) h1⟩ h2)

/-- the blocks of a list that gets nothing a second time, from block b on: the list, a pointer to it, the set, the set's cell; and the list's row -/
structure OnceZ (b : Nat) (c : Nat) (s : List Nat) (M : Nat → Prop) (w : World) : Prop where
  met : Blk w (b + 3) 152 #[.map (some (b + 2))]
  ptr : Blk w (b + 1) 116 #[.pointer (some ⟨b, 0, none⟩)]
  set : MapZ w (b + 2) s.reverse
  len : s.length ≤ c
  low : M b ∧ M (b + 1) ∧ M (b + 2) ∧ M (b + 3)
  all : ∀ g, M g → g < w.heap.size
  row : ∃ A cp, Blk w b 68 #[.slice A s.length cp] ∧ w.ownsRow (b + 4) 3 1 (.slice A s.length cp) s.length (intV s) ∧ ∀ a, A = some a → M a.block

theorem OnceZ.inv (b : Nat) : Inv (OnceZ b) where
  mono c c' s M w h hc := { h with len := Nat.le_trans h.len hc }
  lt c s M w h := h.all
  keep c s M w w' h hs hk :=
    { met := h.met.same (hk _ h.low.2.2.2)
      ptr := h.ptr.same (hk _ h.low.2.1)
      set := h.set.keep (hk _ h.low.2.2.1)
      len := h.len
      low := h.low
      all := fun g hg => Nat.lt_of_lt_of_le (h.all g hg) hs
      row := by
        obtain ⟨A, cp, h1, h2, h3⟩ := h.row
        exact ⟨A, cp, h1.same (hk _ h.low.1), own_keepb h2 (fun a ha => hk _ (h3 a ha)), h3⟩ }

theorem onceZ_end {b c : Nat} {s : List Nat} {M : Nat → Prop} {n : Nat} {A : Option Addr} {cp : Nat} {w w1 W w5 : World} {g3 c3 : Nat} (hmet : Blk w (b + 3) 152 #[.map (some (b + 2))]) (hall : ∀ g, M g → g < w.heap.size) (hlow : M b ∧ M (b + 1) ∧ M (b + 2) ∧ M (b + 3)) (hlen : s.length ≤ c) (hA : ∀ a, A = some a → M a.block)
    (hown : w.ownsRow (b + 4) 3 1 (.slice A s.length cp) s.length (intV s)) (hs1 : w.heap.size + 1 ≤ w1.heap.size) (hk1 : ∀ k, k < w.heap.size → k ≠ b + 2 → w1.heap[k]? = w.heap[k]?) (hm1 : MapZ w1 (b + 2) (n :: s.reverse))
    (hW : ∀ k, k < w1.heap.size → W.heap[k]? = w1.heap[k]?) (hWs : W.heap.size = w1.heap.size + 1) (hCW : Chg M w W) (ho3 : w5.ownsRow (b + 4) 3 1 (.slice (some ⟨g3, 0, none⟩) (s.length + 1) c3) (s.length + 1) (intV s ++ [.int .i64 n]))
    (hg3 : W.grownBy w5 (Value.slice A s.length cp).ownBlock) (hat : (Value.slice A s.length cp).ownBlock = some g3 ∨ g3 = W.heap.size) (hb5 : Blk w5 b 68 #[.slice A s.length cp]) (hp5 : Blk w5 (b + 1) 116 #[.pointer (some ⟨b, 0, none⟩)]) (hlt : g3 < w5.heap.size) :
    ∃ M', OnceZ b (c + 1) (s ++ [n]) M' (w5.setCell ⟨b, 0, none⟩ (.slice (some ⟨g3, 0, none⟩) (s.length + 1) c3)) ∧ (∀ g, M' g → M g ∨ w.heap.size ≤ g) ∧ Chg M w (w5.setCell ⟨b, 0, none⟩ (.slice (some ⟨g3, 0, none⟩) (s.length + 1) c3)) := by
  have hrow : ∀ k, some k = (Value.slice A s.length cp).ownBlock → b + 4 ≤ k ∧ M k := fun k hk => by
    refine ⟨(hown.lt k hk.symm).1, ?_⟩
    cases A with
    | none => cases hk
    | some a => injection hk with hk; rw [hk]; exact hA a rfl
  have hg3b : b + 4 ≤ g3 := (ho3.lt g3 rfl).1
  have h3 := hall _ hlow.2.2.2
  have hf : ∀ k, k < b + 4 → k ≠ b → (w5.setCell ⟨b, 0, none⟩ (.slice (some ⟨g3, 0, none⟩) (s.length + 1) c3)).heap[k]? = w1.heap[k]? := fun k hk hne =>
    (Below.heap_setCell w5 ⟨b, 0, none⟩ _ k hne).trans ((hg3.block k (by omega) (fun e => by have := (hrow k e).1; omega)).trans (hW k (by omega)))
  have hsz : (w5.setCell ⟨b, 0, none⟩ (.slice (some ⟨g3, 0, none⟩) (s.length + 1) c3)).heap.size = w5.heap.size := by simp
  have hs5 := hg3.size
  refine ⟨fun g => M g ∨ g = g3, ⟨hmet.same ((hf _ (by omega) (by omega)).trans (hk1 _ (by omega) (by omega))), hp5.far (by show b + 1 ≠ b; omega) _, ?_, by simp; omega, ⟨.inl hlow.1, .inl hlow.2.1, .inl hlow.2.2.1, .inl hlow.2.2.2⟩, fun g hg => ?_, some ⟨g3, 0, none⟩, c3, ?_, ?_, fun a ha => by injection ha with ha; rw [← ha]; exact .inr rfl⟩, fun g hg => ?_, ?_⟩
  · rw [List.reverse_append, List.reverse_singleton, List.singleton_append]
    exact hm1.keep (hf _ (by omega) (by omega))
  · rw [hsz]
    rcases hg with hg | rfl
    · have := hall g hg; omega
    · exact hlt
  · have := one_setCell (u := .slice (some ⟨g3, 0, none⟩) (s.length + 1) c3) hb5
    rw [List.length_append]
    exact this
  · rw [List.length_append, show intV (s ++ [n]) = intV s ++ [.int .i64 n] by simp [intV]]
    exact own_keepb ho3 (fun a ha => by injection ha with ha; rw [← ha]; exact Below.heap_setCell w5 ⟨b, 0, none⟩ _ g3 (by show g3 ≠ b; omega))
  · rcases hg with hg | rfl
    · exact .inl hg
    · rcases hat with h | h
      · exact .inl (hrow _ h.symm).2
      · exact .inr (by omega)
  · exact (hCW.grown hg3 (fun k hk => .inr (hrow k hk.symm).2)).setCell (p := ⟨b, 0, none⟩) (.inr hlow.1) _

set_option maxHeartbeats 1600000 in
theorem tc_onceZ (b c : Nat) (s : List Nat) (M : Nat → Prop) (n : Nat) (w : World) (h : OnceZ b c s M w) (hX : n ≤ 999999) (hc : c < 10000000) :
    Calls Tryz.prog 103 #[.int .i64 n, .pointer (some ⟨b + 3, 0, none⟩), .pointer (some ⟨b + 1, 0, none⟩)] w fun e w' => e = .returned (.tuple #[]) ∧ ∃ M', OnceZ b (c + 1) (addN n s) M' w' ∧ (∀ g, M' g → M g ∨ w.heap.size ≤ g) ∧ Chg M w w' := by
  obtain ⟨hmet, hptr, hset, hlen, hlow, hall, A, cp, hbk, hown, hA⟩ := h
  obtain ⟨m0, -, lm⟩ := blk_facts1 hmet
  obtain ⟨p0, -, lp⟩ := blk_facts1 hptr
  have hlk0 := hset.getOk n hX
  simp only [List.mem_reverse] at hlk0
  by_cases hin : n ∈ s
  · rw [decide_eq_true hin] at hlk0
    replace hlk0 : (Instr.lookup 152 (.map (some (b + 2))) (.int .i64 n) true).run Tryz.prog w = .ok (.tuple #[.agg #[], .bool true]) w := hlk0
    have hadd : addN n s = s := if_pos hin
    rw [hadd]
    have HOUT : Hid (OnceZ b (c + 1) s M (w.alloc (.cells #[] 133))) := hidE ((OnceZ.inv b).mono _ _ _ _ _ ((OnceZ.inv b).keep _ _ _ _ _ ⟨hmet, hptr, hset, hlen, hlow, hall, A, cp, hbk, hown, hA⟩ (by simp) (fun g hg => Below.heap_alloc _ _ _ (hall g hg))) (by omega))
    clear hmet hptr hset hlen hlow hall hbk hown hA hin hadd
    go_enter Tryz.func103, Tryz.ntmps103
    go_wp2_with fail
    first | go_end0 | refine bodyPost_ret (results_none rfl _ _ _) rfl ?_
    exact ⟨rfl, M, HOUT.out, fun g hg => .inl hg, (Chg.refl M w).alloc _⟩
  · rw [decide_eq_false hin] at hlk0
    replace hlk0 : (Instr.lookup 152 (.map (some (b + 2))) (.int .i64 n) true).run Tryz.prog w = .ok (.tuple #[.agg #[], .bool false]) w := hlk0
    have hadd : addN n s = s ++ [n] := if_neg hin
    rw [hadd]
    obtain ⟨i0, hi0, hz0, hz1, hz2⟩ := info_parts int_info
    have HSET := hidE (hset.keep (w' := w.alloc (.cells #[] 133)) (Below.heap_alloc _ _ _ hset.lt))
    have hk0 : Hid (∀ k, k < w.heap.size → (w.alloc (.cells #[] 133)).heap[k]? = w.heap[k]?) := hidE fun k hk => Below.heap_alloc _ _ _ hk
    have HX := hidE hX
    have HLEN : Hid (s.reverse.length < 1000000000) := hidE (by simp; omega)
    obtain ⟨z0, z1, z2⟩ := blk_facts1 hbk
    have HMET := hidE hmet
    have HPTR := hidE hptr
    have HBK := hidE hbk
    have HOWN := hidE hown
    have HLOW := hidE hlow
    have HALL := hidE hall
    have HA := hidE hA
    clear hset hin hadd hmet hptr hbk hown hlow hall hA z0 z1
    go_enter Tryz.func103, Tryz.ntmps103
    go_wp2_with (at_mapUpdate; refine wpList_putZ _ rfl _ _ _ rfl (b + 2) s.reverse rfl HSET.out HLEN.out n HX.out rfl rfl ?_; intro w1 hm1 hg1; have hs1 : w.heap.size + 1 ≤ w1.heap.size := (by have := hg1.size; simp at this; exact this); have hk1 : ∀ k, k < w.heap.size → k ≠ b + 2 → w1.heap[k]? = w.heap[k]? := (fun k hk hne => (hg1.block k (by simp; omega) (fun e => hne (by injection e))).trans (hk0.out k hk)); have HM1 := hidE hm1; have HK1 := hidE hk1; have hb1 := HBK.out.same (hk1 b z2 (by omega)); have hp1 := HPTR.out.same (hk1 (b + 1) lp (by omega)); have HOWN1 := hidE (own_keepb (w' := w1) HOWN.out (fun a ha => hk1 a.block (HALL.out _ (HA.out a ha)) (by have := (HOWN.out.lt a.block (by rw [ha]; rfl)).1; omega))); obtain ⟨q0, q1, q2⟩ := blk_facts1 hb1; obtain ⟨r0, r1, r2⟩ := blk_facts1 hp1; have HB1 := hidE hb1; have HP1 := hidE hp1; have HC1 : Hid (Chg M w (w1.alloc (.cells #[.int .i64 n] 3)).drew) := hidE (((((Chg.refl M w).alloc (.cells #[] 133)).grown hg1 (fun k hk => .inr (by injection hk with hk; rw [← hk]; exact HLOW.out.2.2.1))).alloc _).drew); have HOWN2 : Hid ((w1.drew.alloc (.cells #[.int .i64 n] 3)).ownsRow (b + 4) 3 1 (.slice A s.length cp) s.length (intV s)) := hidE (HOWN1.out.alloc (.cells #[.int .i64 n] 3)); have HNEW : Hid (∀ j u, [Value.int .i64 n][j]? = some u → (w1.drew.alloc (.cells #[.int .i64 n] 3)).cell? ((⟨w1.heap.size, 0, none⟩ : Addr).add j) = some u) := hidE (new_cells' _ _ _ _ rfl); clear hm1 hg1 hk1 hb1 hp1)
    go_region_law (refine step_append_lies _ (by rfl) _ _ _ (by rfl) (b + 4) 3 i0 _ 1 8 Tryz.underlying68 hi0 hz0 hz1 hz2 rfl (by decide) _ s.length (intV s) (by rfl) HOWN2.out ⟨w1.heap.size, 0, none⟩ 1 1 [.int .i64 n] rfl rfl HNEW.out (by intro u hu; simp at hu; subst hu; rfl) (by omega) (by unfold maxLen; omega) (by omega) (by simp; omega) _ rfl ?_; intro g3 c3 w5 hown3 hgrow hat hlt; have hb5 : Blk w5 b 68 #[.slice A s.length cp] := (Blk.alloc (w := w1.drew) HB1.out _).grown hgrow (fun e => by have := (HOWN.out.lt b e.symm).1; omega); have hp5 : Blk w5 (b + 1) 116 #[.pointer (some ⟨b, 0, none⟩)] := (Blk.alloc (w := w1.drew) HP1.out _).grown hgrow (fun e => by have := (HOWN.out.lt (b + 1) e.symm).1; omega); obtain ⟨d0, d1, d2⟩ := blk_facts1 hb5; obtain ⟨e0, e1, e2⟩ := blk_facts1 hp5; have HO3 := hidE hown3; have HG3 := hidE hgrow; have HAT := hidE hat; have HB5 := hidE hb5; have HP5 := hidE hp5; clear hown3 hgrow hat hb5 hp5)
    all_goals
      go_wp2_with fail
      first | go_end0 | refine bodyPost_ret (results_none rfl _ _ _) rfl ?_
      exact ⟨rfl, onceZ_end (W := (w1.alloc (.cells #[.int .i64 n] 3)).drew) HMET.out HALL.out HLOW.out hlen HA.out HOWN.out hs1 HK1.out HM1.out (fun k hk => Below.heap_alloc w1 _ k hk) (size_alloc w1 _) (HC1.out) HO3.out HG3.out HAT.out HB5.out HP5.out hlt⟩

/-- the closure that notes a name -/
def noteZ (b : Nat) : Value := .func (.func 103) #[] #[.pointer (some ⟨b + 3, 0, none⟩), .pointer (some ⟨b + 1, 0, none⟩)]

set_option maxHeartbeats 800000 in
theorem tc_onceZNew (b : Nat) (w : World) (hb : w.heap.size = b + 1) (h : Blk w b 68 #[.slice none 0 0]) :
    Calls Tryz.prog 73 #[.pointer (some ⟨b, 0, none⟩)] w fun e w' => e = .returned (noteZ b) ∧ OnceZ b 0 [] (fun g => b ≤ g ∧ g ≤ b + 3) w' ∧ w'.heap.size = b + 4 ∧ Below w.heap.size w w' := by
  have hmf : ∀ (fn : Fn) (first cap : Array Value) (w : World), (Instr.makeFunc fn first cap).run Tryz.prog w = .ok (.func fn first cap) w := fun _ _ _ _ => rfl
  have hmm : ∀ w, (Instr.makeMap 152 none).run Tryz.prog w = .ok (.map (some w.heap.size)) (w.alloc (.map #[] 0)) := fun _ => rfl
  have H := hidE h
  have HB := hidE hb
  clear h hb
  go_enter Tryz.func73, Tryz.ntmps73
  go_wp2_with fail
  go_ret
  obtain ⟨h1, h2, h3, hs, hbl⟩ := laid3 w (.cells #[.pointer (some ⟨b, 0, none⟩)] 116) (.map #[] 0) (.cells #[.map (some (w.heap.size + 1))] 152)
  have hb := HB.out
  refine ⟨by rw [hb]; rfl, ⟨?_, ?_, ?_, Nat.le_refl _, by omega, fun g hg => by omega, none, 0, ?_, ⟨rfl, .inl ⟨rfl, rfl⟩⟩, fun a ha => by cases ha⟩, by omega, hbl⟩
  · rw [show b + 3 = w.heap.size + 1 + 1 by omega, show b + 2 = w.heap.size + 1 by omega]; exact h3
  · rw [show b + 1 = w.heap.size by omega]; exact h1
  · rw [show b + 2 = w.heap.size + 1 by omega]; exact MapZ.laid h2
  · exact H.out.below hbl (by omega)

/-- a list that gets nothing a second time, and, behind it, a cell with the closure -/
def NoteZ (b : Nat) (c : Nat) (s : List Nat) (M : Nat → Prop) (w : World) : Prop :=
  ∃ M0, (∀ g, M g ↔ M0 g ∨ g = b + 4) ∧ OnceZ b c s M0 w ∧ ¬ M0 (b + 4) ∧ Blk w (b + 4) 114 #[noteZ b]
theorem NoteZ.inv (b : Nat) : Inv (NoteZ b) where
  mono c c' s M w := fun ⟨M0, h1, h2, h3⟩ hc => ⟨M0, h1, (OnceZ.inv b).mono _ _ _ _ _ h2 hc, h3⟩
  lt c s M w := fun ⟨M0, h1, h2, h3, h4⟩ g hg => by
    rcases (h1 g).1 hg with h | h
    · exact h2.all g h
    · rw [h]; exact h4.lt
  keep c s M w w' := fun ⟨M0, h1, h2, h3, h4⟩ hs hk =>
    ⟨M0, h1, (OnceZ.inv b).keep _ _ _ _ _ h2 hs (fun g hg => hk g ((h1 g).2 (.inl hg))), h3, h4.same (hk _ ((h1 _).2 (.inr rfl)))⟩
/-- what noting leaves -/
theorem NoteZ.next {b c : Nat} {s' : List Nat} {M M0 M' : Nat → Prop} {w w1 w' : World} (h1 : ∀ g, M g ↔ M0 g ∨ g = b + 4) (h3 : ¬ M0 (b + 4)) (h4 : Blk w1 (b + 4) 114 #[noteZ b]) (hi : OnceZ b c s' M' w') (hM : ∀ g, M' g → M0 g ∨ w1.heap.size ≤ g) (hc : Chg M0 w1 w') (hb : Below w.heap.size w w1) :
    ∃ M2, NoteZ b c s' M2 w' ∧ (∀ g, M2 g → M g ∨ w.heap.size ≤ g) ∧ Chg M w w' := by
  have hs := hb.size
  have hl := h4.lt
  refine ⟨fun g => M' g ∨ g = b + 4, ⟨M', fun g => Iff.rfl, hi, fun h => ?_, h4.chg hc h3⟩, fun g hg => ?_, (Chg.of_below hb).trans' hc (fun g _ h => (h1 g).2 (.inl h))⟩
  · rcases hM _ h with h | h
    · exact h3 h
    · omega
  · rcases hg with h | h
    · rcases hM _ h with h | h
      · exact .inl ((h1 g).2 (.inl h))
      · exact .inr (by omega)
    · exact .inl ((h1 g).2 (.inr h))

end Go.Proofs.YthgkpmgcikopnaaGreatDoor

/-
  Package types: Metas.
-/
namespace Go.Proofs.YthgkpmgcikopnaaGreatDoor
open Go.RowKit Lx Tx Go.Maps Go.WideMaps Go.Shelf
set_option maxRecDepth 100000

def noteMt : Ty → List Nat → List Nat
  | .mt n, s => addN n s
  | _, s => s
theorem noteMt_ways (t : Ty) (s : List Nat) : ((kd t : Int) == 2) = true ∧ noteMt t s = addN (nn t) s ∨ ((kd t : Int) == 2) = false ∧ noteMt t s = s := by
  cases t with
  | var x => exact .inr ⟨rfl, rfl⟩
  | mt n => exact .inl ⟨rfl, rfl⟩
  | con c l => exact .inr ⟨rfl, rfl⟩
  | fn a b => exact .inr ⟨rfl, rfl⟩
  | all x t => exact .inr ⟨rfl, rfl⟩

set_option maxHeartbeats 1600000 in
theorem tc_metas1 (b : Nat) : Doer 74 #[.pointer (some ⟨b + 4, 0, none⟩)] (NoteZ b) noteMt := by
  intro c s M t S v w hi hv hS hnm hc
  obtain ⟨M0, hM, hi0, hne, hbk⟩ := hi
  obtain ⟨K, X, Z, A, m, cp, rfl, hK, -, hZ, -, -⟩ := hv.parts
  have hw := noteMt_ways t s
  rw [← hK] at hw
  have hN : nn t ≤ 999999 := by cases hnm <;> first | exact Nat.zero_le _ | assumption
  obtain ⟨n, hn⟩ : ∃ n, nn t = n := ⟨_, rfl⟩
  rw [hn] at hw hZ hN
  subst hZ
  have hal : Hid (Below w.heap.size w (w.alloc (.cells #[.int .i64 K, .string X, .int .i64 (n : Nat), .slice A m cp] 25))) := hidE ((Below.refl _ w).alloc (Nat.le_refl _) _)
  obtain ⟨y0, -, l0⟩ := blk_facts1 hbk
  have H1 := hidE ((OnceZ.inv b).keep _ _ _ _ (w.alloc (.cells #[.int .i64 K, .string X, .int .i64 (n : Nat), .slice A m cp] 25)) hi0 (by simp) (fun g hg => Below.heap_alloc _ _ _ (hi0.all g hg)))
  have ek : ∀ args w, (callFunc 103 args).run Tryz.prog w = .ok (.enter 103 args) w := enters_of Tryz.func103 (by kernel_rfl) rfl
  have HM := hidE hM
  have HNE := hidE hne
  have HBK := hidE (hbk.below hal.out l0)
  obtain ⟨s', hs'⟩ : ∃ s', noteMt t s = s' := ⟨_, rfl⟩
  rw [hs'] at hw ⊢
  clear hK hn hv hnm hi0 hM hne hbk hs' hS
  unfold noteZ at y0
  rcases hw with ⟨d1, hr⟩ | ⟨d1, rfl⟩
  · have HR := hidE hr
    clear hr
    go_enter Tryz.func74, Tryz.ntmps74
    go_wp2_with fail
    refine (tc_onceZ b c s M0 n _ H1.out hN hc).mono ?_
    rintro e w' ⟨rfl, M', i', hM', c'⟩
    have HF := hidE (NoteZ.next HM.out HNE.out HBK.out i' hM' c' hal.out)
    clear i' hM' c'
    go_wp2_with fail
    first | go_end0 | refine bodyPost_ret (results_none rfl _ _ _) rfl ?_
    rw [HR.out]
    exact ⟨rfl, HF.out⟩
  · go_enter Tryz.func74, Tryz.ntmps74
    go_wp2_with fail
    first | go_end0 | refine bodyPost_ret (results_none rfl _ _ _) rfl ?_
    exact ⟨rfl, NoteZ.next HM.out HNE.out HBK.out ((OnceZ.inv b).mono _ _ _ _ _ H1.out (by omega)) (fun g hg => .inl hg) (Chg.refl M0 _) hal.out⟩

/-- the numbers in the order in which they are met first -/
def metasL (t : Ty) : List Nat := thr (atLeaf noteMt) (fun _ _ s => s) [] t []

set_option maxHeartbeats 1600000 in
theorem tc_metas (t : Ty) (S : Nat → Prop) (v : Value) (w : World) (hv : RdV S w t v) (hS : ∀ g, S g → g < w.heap.size) (hnm : Nm t) (hsz : t.size ≤ 1000000) :
    Calls Tryz.prog 37 #[v] w fun e w' => ∃ A cp, e = .returned (.slice A (metasL t).length cp) ∧ w'.ownsRow w.heap.size 3 1 (.slice A (metasL t).length cp) (metasL t).length (intV (metasL t)) ∧ (metasL t).length ≤ 2000000 ∧ Below w.heap.size w w' := by
  obtain ⟨K, X, Z, A, m, cp, rfl, -, -, -, -, -⟩ := hv.parts
  have hmf : ∀ (fn : Fn) (first cap : Array Value) (w : World), (Instr.makeFunc fn first cap).run Tryz.prog w = .ok (.func fn first cap) w := fun _ _ _ _ => rfl
  have HV := hidE hv
  have HS := hidE hS
  have HNM := hidE hnm
  clear hv hS hnm
  go_enter Tryz.func37, Tryz.ntmps37
  go_wp2_with fail
  obtain ⟨h1, h2, hs2, hbl⟩ := laid2 w (.cells #[.int .i64 K, .string X, .int .i64 Z, .slice A m cp] 25) (.cells #[.slice none 0 0] 68)
  refine (tc_onceZNew (w.heap.size + 1) _ hs2 h2).mono ?_
  rintro e w1 ⟨rfl, ho, hs1, b1⟩
  have hl1 := hbl.trans (b1.mono (by omega))
  have ht1 : Blk w1 w.heap.size 25 #[.int .i64 K, .string X, .int .i64 Z, .slice A m cp] := Blk.below h1 b1 (by omega)
  obtain ⟨p0, p1, p2, p3, s0, s1, s2, s3, hlx⟩ := blk_facts4 ht1
  have HO := hidE ho
  have HS1 := hidE hs1
  have HL1 := hidE hl1
  clear h1 h2 hs2 hbl ho hs1 b1 hl1 ht1
  unfold noteZ
  go_wp2_with fail
  have hs1 := HS1.out
  have hl2 : Below w.heap.size w (w1.alloc (.cells #[noteZ (w.heap.size + 1)] 114)) := HL1.out.alloc (by have := HL1.out.size; omega) _
  have hb4 : Blk (w1.alloc (.cells #[noteZ (w.heap.size + 1)] 114)) (w.heap.size + 1 + 4) 114 #[noteZ (w.heap.size + 1)] := by rw [← hs1]; exact heap_alloc_new w1 _
  have hle := tc_leaves 74 #[.pointer (some ⟨w.heap.size + 1 + 4, 0, none⟩)] (NoteZ (w.heap.size + 1)) noteMt (NoteZ.inv _) (enters_of Tryz.func74 (by kernel_rfl) rfl) (tc_metas1 _)
    0 [] (fun g => (w.heap.size + 1 ≤ g ∧ g ≤ w.heap.size + 1 + 3) ∨ g = w.heap.size + 1 + 4) t S _ _
    ⟨_, fun g => Iff.rfl, (OnceZ.inv _).keep _ _ _ _ _ HO.out (by simp) (fun g hg => Below.heap_alloc _ _ _ (by omega)), by omega, hb4⟩
    (HV.out.keep (fun _ h => h) (fun g hg => hl2.block g (HS.out g hg))) (fun g hg => ⟨by have := HS.out g hg; have := hl2.size; omega, by have := HS.out g hg; omega⟩) HNM.out hsz (by omega)
  rw [← hs1] at hle
  refine hle.mono ?_
  rintro e w3 ⟨rfl, M', ⟨M0, -, hi3, -, -⟩, hM', c3⟩
  obtain ⟨A3, cp3, hbk3, hown3, -⟩ := hi3.row
  obtain ⟨q0, q1, q2⟩ := blk_facts1 hbk3
  have hlen := hi3.len
  have HB := hidE (hl2.trans (c3.toBelow (B := w.heap.size) (by have := hl2.size; omega) (fun k hk h => by omega)))
  have HOWN := hidE (own_base hown3 (show w.heap.size ≤ w.heap.size + 1 + 4 by omega))
  have HLEN := hidE (show (metasL t).length ≤ 2000000 by unfold metasL; omega)
  clear hle hl2 hb4 hs1 hi3 hbk3 hM' c3 hown3 hlen HO
  replace q0 : w3.cell? ⟨w.heap.size + 1, 0, none⟩ = some (.slice A3 (metasL t).length cp3) := q0
  go_wp2_with fail
  go_ret
  exact ⟨A3, cp3, rfl, HOWN.out, HLEN.out, HB.out⟩

end Go.Proofs.YthgkpmgcikopnaaGreatDoor

/-
  Package types: a set of names.
-/
namespace Go.Proofs.YthgkpmgcikopnaaGreatDoor
open Go.RowKit Lx Tx Go.Maps Go.WideMaps Go.Shelf
set_option maxRecDepth 100000

theorem own_cell {w : World} {B : Nat} {e : TypeId} {n c : Nat} {A : Option Addr} {xs : List Value} (h : w.ownsRow B e 1 (.slice A n c) n xs) {i : Nat} (hi : i < n) {u : Value} (hu : xs[i]? = some u) :
    ∃ g, A = some ⟨g, 0, none⟩ ∧ B ≤ g ∧ g < w.heap.size ∧ ∀ w' : World, w'.heap[g]? = w.heap[g]? → w'.cell? ⟨g, i, none⟩ = some u := by
  obtain ⟨h0, h⟩ := h
  rcases h with ⟨_, h⟩ | ⟨g, cap, cur, hv, hg, hb, h1, h2, h3, h4⟩
  · omega
  · injection hv with hv
    refine ⟨g, hv, hg, lt_of_block hb, fun w' hk => ?_⟩
    rw [cell_of_row w' g i cur e (0, 0) (hk.trans hb), ← hu, ← h4, List.getElem?_take_of_lt (by omega)]
    simp

theorem strV_get (l : List Name) (i : Nat) (hi : i < l.length) : (strV l)[i]? = some (.string ⟨l[i].toArray⟩) := by simp [strV, List.getElem?_eq_getElem hi]

/-- while a set is made of names: of those of one list -/
def HeadS (b : Nat) (dn l : List Name) (w0 : World) (gg : Nat) (v : Value) (wr : World) : Prop :=
  ∃ i : Nat, v = .int .i64 i ∧ gg = l.length - i ∧ i ≤ l.length ∧ MapE mkSet wr b (units (dn ++ l.take i)) ∧ Chg (only b) w0 wr
/-- of those of all lists -/
def HeadSS (b : Nat) (L : List (List Name)) (w0 : World) (gg : Nat) (v : Value) (wr : World) : Prop :=
  ∃ j : Nat, v = .int .i64 j ∧ gg = L.length - j ∧ j ≤ L.length ∧ MapE mkSet wr b (units (L.take j).flatten) ∧ Chg (only b) w0 wr
/-- the cells of block g are slices that read as these lists of names -/
def Names2 (w : World) (g : Nat) (L : List (List Name)) : Prop :=
  ∀ j (hj : j < L.length), ∃ A cp, w.cell? ⟨g, j, none⟩ = some (.slice A L[j].length cp) ∧ RowV w (.slice A L[j].length cp) (strV L[j])

theorem flat_succ (L : List (List Name)) (j : Nat) (hj : j < L.length) : (L.take (j + 1)).flatten = (L.take j).flatten ++ L[j] := by
  rw [List.take_succ_eq_append_getElem hj, List.flatten_append]; simp
theorem flat_len (L : List (List Name)) (j i : Nat) (hj : j < L.length) : ((L.take j).flatten ++ L[j].take i).length ≤ L.flatten.length := by
  have h : L.flatten = (L.take j).flatten ++ (L[j] ++ (L.drop (j + 1)).flatten) := by
    rw [← List.append_assoc, ← flat_succ L j hj, ← List.flatten_append, List.take_append_drop]
  rw [h]
  simp only [List.length_append, List.length_take]
  omega

set_option maxHeartbeats 1600000 in
theorem tc_set (L : List (List Name)) (g c : Nat) (w : World) (h : Names2 w g L) (hg : g < w.heap.size) (hl : ∀ x ∈ L.flatten, x.length ≤ 24) (hlen : L.flatten.length ≤ 10000000) (hL : L.length ≤ 1000) :
    Calls Tryz.prog 47 #[.slice (some ⟨g, 0, none⟩) L.length c] w fun e w' => e = .returned (.map (some w.heap.size)) ∧ MapE mkSet w' w.heap.size (units L.flatten) ∧ Below w.heap.size w w' := by
  have hmm : ∀ w, (Instr.makeMap 84 none).run Tryz.prog w = .ok (.map (some w.heap.size)) (w.alloc (.map #[] 0)) := fun _ => rfl
  have H := hidE h
  have HL := hidE hl
  have HF := hidE hlen
  obtain ⟨n, hn⟩ : ∃ n, L.length = n := ⟨_, rfl⟩
  have HN := hidE hn
  rw [hn] at hL ⊢
  clear h hl hn hlen
  go_enter Tryz.func47, Tryz.ntmps47
  go_wp2_with fail
  go_loopg [11] n (fun gg vi wr => HeadSS w.heap.size L (w.alloc (.map #[] 0)) gg vi wr)
  case atStart =>
    exact ⟨0, rfl, by rw [HN.out]; omega, Nat.zero_le _, by rw [List.take_zero]; exact MapE.made mkSet w, Chg.refl _ _⟩
  case round =>
    obtain ⟨j, rfl, hgg, hj, hm, hc⟩ := hrel
    have HM := hidE hm
    have HC := hidE hc
    rw [HN.out] at hgg hj
    clear hm hc
    by_cases hjn : j < n
    · have hj' : j < L.length := by rw [HN.out]; exact hjn
      obtain ⟨A, cp, hcell, hrow⟩ := H.out j hj'
      have hgw : wr.heap[g]? = w.heap[g]? := (HC.out.block g (by simp; omega) (by unfold only; omega)).trans (Below.heap_alloc _ _ _ hg)
      have hx0 : wr.cell? ⟨g, j, none⟩ = some (.slice A L[j].length cp) := (World.cell?_of_block (w := w) (a := ⟨g, j, none⟩) hgw).trans hcell
      obtain ⟨m, hm⟩ : ∃ m, L[j].length = m := ⟨_, rfl⟩
      have hmb : m ≤ 10000000 := by have := flat_len L j m hj'; have := HF.out; rw [List.length_append, List.length_take, hm] at *; omega
      have HMM := hidE hm
      have HR := hidE hrow
      rw [hm] at hx0
      have gk_old := hgg
      clear hcell hgw hrow hm
      go_wp2_with fail
      go_loopg [17] m (fun gg vi wr' => HeadS w.heap.size (L.take j).flatten L[j] (w.alloc (.map #[] 0)) gg vi wr')
      case atStart =>
        exact ⟨0, rfl, by rw [HMM.out]; omega, Nat.zero_le _, by rw [List.take_zero, List.append_nil]; exact HM.out, HC.out⟩
      case round =>
        obtain ⟨i, rfl, hgi, hi, hm2, hc2⟩ := hrel
        have HM2 := hidE hm2
        have HC2 := hidE hc2
        rw [HMM.out] at hgi hi
        clear hm2 hc2
        by_cases hlt : i < m
        · have hlt' : i < L[j].length := by rw [HMM.out]; exact hlt
          obtain ⟨A', c', hv, hp⟩ := HR.out
          obtain ⟨g2, hA', hg2, hcl⟩ := hp (by rw [strV_len]; omega)
          injection hv with hv _ hv2
          rw [hA'] at hv
          subst hv
          have hgw2 := (HC2.out.block g2 (by simp; omega) (by unfold only; omega)).trans (Below.heap_alloc w (.map #[] 0) g2 hg2)
          obtain ⟨y, hy⟩ : ∃ y, L[j][i] = y := ⟨_, rfl⟩
          have hx := hcl i _ (strV_get L[j] i hlt')
          rw [← World.cell?_of_block (w := w) (a := ⟨g2, i, none⟩) hgw2] at hx
          have hX24 : L[j][i].length ≤ 24 := HL.out _ (List.mem_flatten.2 ⟨_, List.getElem_mem hj', List.getElem_mem hlt'⟩)
          have HTK : Hid (L[j].take (i + 1) = L[j].take i ++ [y]) := hidE (by rw [List.take_succ_eq_append_getElem hlt', hy])
          rw [hy] at hx hX24
          clear hy
          obtain ⟨X, hX⟩ : ∃ X : ByteArray, (⟨y.toArray⟩ : ByteArray) = X := ⟨_, rfl⟩
          have HXL : Hid (X.data.toList = y) := hidE (by rw [← hX])
          have HX : Hid (X.size ≤ maxLen) := hidE (by rw [← hX]; show y.toArray.size ≤ maxLen; unfold maxLen; simp; omega)
          have HUL : Hid ((units ((L.take j).flatten ++ L[j].take i)).length < 1000000000) := hidE (by have := flat_len L j i hj'; have := HF.out; unfold units; rw [List.length_map, List.length_reverse]; omega)
          rw [hX] at hx
          clear hcl hgw2 hX hp hA' hv2 hlt' hX24
          go_wp2_with (at_mapUpdate; refine wpList_put mkSet _ rfl _ _ _ rfl w.heap.size (units ((L.take j).flatten ++ L[j].take i)) rfl HM2.out HUL.out X HX.out rfl () trivial rfl ?_; intro w1 hm1 hg1; have HM1 := hidE hm1; have HG1 := hidE hg1; clear hm1 hg1)
          go_roundg (m - (i + 1))
          case measure => omega
          case rel =>
            refine ⟨i + 1, by go_num, by rw [HMM.out], by rw [HMM.out]; omega, ?_, HC2.out.grown HG1.out (fun k hk => .inr (by injection hk with hk; exact hk.symm))⟩
            rw [HTK.out, ← List.append_assoc, units_snoc, ← HXL.out]
            exact HM1.out
        · have hend : L[j].take i = L[j] := List.take_of_length_le (by rw [HMM.out]; omega)
          have HE := hidE hend
          clear hend
          go_wp2_with fail
          go_roundg (n - (j + 1))
          case measure => omega
          case rel =>
            refine ⟨j + 1, by go_num, by rw [HN.out], by rw [HN.out]; omega, ?_, HC2.out⟩
            have := HM2.out
            rw [HE.out] at this
            rw [flat_succ L j hj']
            exact this
    · have hend : L.take j = L := List.take_of_length_le (by have := HN.out; omega)
      have HE := hidE hend
      clear hend
      go_wp2_with fail
      go_ret
      refine ⟨rfl, by have := HM.out; rw [HE.out] at this; exact this, ((Below.refl _ w).alloc (Nat.le_refl _) _).trans (HC.out.toBelow (by simp) (fun k hk h => by unfold only at h; omega))⟩

end Go.Proofs.YthgkpmgcikopnaaGreatDoor

/-
  Package types: names.
-/
namespace Go.Proofs.YthgkpmgcikopnaaGreatDoor
open Go.RowKit Lx Tx Go.Maps Go.WideMaps Go.Shelf
set_option maxRecDepth 100000

def noteName : Ty → List Name → List Name
  | .var x, s => addN x s
  | .all x _, s => addN x s
  | _, s => s
theorem noteName_ways (t : Ty) (s : List Name) : ((kd t : Int) == 1) = true ∧ noteName t s = addN (nmB t).data.toList s ∨ ((kd t : Int) == 1) = false ∧ ((kd t : Int) == 5) = true ∧ noteName t s = addN (nmB t).data.toList s ∨ ((kd t : Int) == 1) = false ∧ ((kd t : Int) == 5) = false ∧ noteName t s = s := by
  cases t with
  | var x => exact .inl ⟨rfl, rfl⟩
  | mt n => exact .inr (.inr ⟨rfl, rfl, rfl⟩)
  | con c l => exact .inr (.inr ⟨rfl, rfl, rfl⟩)
  | fn a b => exact .inr (.inr ⟨rfl, rfl, rfl⟩)
  | all x t => exact .inr (.inl ⟨rfl, rfl, rfl⟩)

def atName (_ : List Name) (t : Ty) (s : List Name) : List Name := noteName t s

set_option maxHeartbeats 1600000 in
theorem vis_names1 (b mb : Nat) : Vis 124 #[.pointer (some ⟨b + 4, 0, none⟩)] mb (NoteI b) atName := by
  intro c s M env t S v w hi _ _ hv hS hnm _ hc
  obtain ⟨M0, hM, hi0, hne, hbk⟩ := hi
  obtain ⟨K, X, Z, A, m, cp, rfl, hK, hX, -, -, -⟩ := hv.parts
  have hw := noteName_ways t s
  rw [← hK, ← hX] at hw
  have hX24 : X.size ≤ 24 := by have := nm_len hnm; rw [← hX] at this; exact this
  have hal : Hid (Below w.heap.size w (w.alloc (.cells #[.int .i64 K, .string X, .int .i64 Z, .slice A m cp] 25))) := hidE ((Below.refl _ w).alloc (Nat.le_refl _) _)
  obtain ⟨y0, -, l0⟩ := blk_facts1 hbk
  have H1 := hidE ((OnceI.inv b).keep _ _ _ _ (w.alloc (.cells #[.int .i64 K, .string X, .int .i64 Z, .slice A m cp] 25)) hi0 (by simp) (fun g hg => Below.heap_alloc _ _ _ (hi0.all g hg)))
  have ek : ∀ args w, (callFunc 98 args).run Tryz.prog w = .ok (.enter 98 args) w := enters_of Tryz.func98 (by kernel_rfl) rfl
  have HM := hidE hM
  have HNE := hidE hne
  have HBK := hidE (hbk.below hal.out l0)
  obtain ⟨s', hs'⟩ : ∃ s', noteName t s = s' := ⟨_, rfl⟩
  rw [hs'] at hw
  rw [show atName env t s = noteName t s from rfl, hs']
  clear hK hX hv hnm hi0 hM hne hbk hs' hS
  unfold noteV at y0
  rcases hw with ⟨d1, hr⟩ | ⟨d1, d5, hr⟩ | ⟨d1, d5, rfl⟩
  · have HR := hidE hr
    clear hr
    go_enter Tryz.func124, Tryz.ntmps124
    go_wp2_with fail
    refine (tc_once b c s M0 X _ H1.out hX24 hc).mono ?_
    rintro e w' ⟨rfl, M', i', hM', c'⟩
    have HF := hidE (NoteI.next HM.out HNE.out HBK.out i' hM' c' hal.out)
    clear i' hM' c'
    go_wp2_with fail
    first | go_end0 | refine bodyPost_ret (results_none rfl _ _ _) rfl ?_
    rw [HR.out]
    exact ⟨rfl, HF.out⟩
  · have HR := hidE hr
    clear hr
    go_enter Tryz.func124, Tryz.ntmps124
    go_wp2_with fail
    refine (tc_once b c s M0 X _ H1.out hX24 hc).mono ?_
    rintro e w' ⟨rfl, M', i', hM', c'⟩
    have HF := hidE (NoteI.next HM.out HNE.out HBK.out i' hM' c' hal.out)
    clear i' hM' c'
    go_wp2_with fail
    first | go_end0 | refine bodyPost_ret (results_none rfl _ _ _) rfl ?_
    rw [HR.out]
    exact ⟨rfl, HF.out⟩
  · go_enter Tryz.func124, Tryz.ntmps124
    go_wp2_with fail
    first | go_end0 | refine bodyPost_ret (results_none rfl _ _ _) rfl ?_
    exact ⟨rfl, NoteI.next HM.out HNE.out HBK.out ((OnceI.inv b).mono _ _ _ _ _ H1.out (by omega)) (fun g hg => .inl hg) (Chg.refl M0 _) hal.out⟩

set_option maxHeartbeats 400000 in
theorem tc_names2 (K : Int) (X : ByteArray) (Z : Int) (A : Option Addr) (m c : Nat) (w : World) : Calls Tryz.prog 125 #[.agg #[.int .i64 K, .string X, .int .i64 Z, .slice A m c]] w fun e w' => e = .returned (.tuple #[]) ∧ Below w.heap.size w w' := by
  go_enter Tryz.func125, Tryz.ntmps125
  go_wp2
  first | go_end0 | refine bodyPost_ret (results_none rfl _ _ _) rfl ?_
  exact ⟨rfl, (Below.refl _ w).alloc (Nat.le_refl _) _⟩

/-- all names in the order in which they are met first -/
def namesL (t : Ty) : List Name := thr atName (fun _ _ s => s) [] t []

set_option maxHeartbeats 1600000 in
theorem tc_names (t : Ty) (S : Nat → Prop) (v : Value) (w : World) (hv : RdV S w t v) (hS : ∀ g, S g → g < w.heap.size) (hnm : Nm t) (hsz : t.size ≤ 1000000) :
    Calls Tryz.prog 87 #[v] w fun e w' => ∃ A cp, e = .returned (.slice A (namesL t).length cp) ∧ w'.ownsRow w.heap.size 9 1 (.slice A (namesL t).length cp) (namesL t).length (strV (namesL t)) ∧ (namesL t).length ≤ 2000000 ∧ Below w.heap.size w w' := by
  obtain ⟨K, X, Z, A, m, cp, rfl, -, -, -, -, -⟩ := hv.parts
  have hmf : ∀ (fn : Fn) (first cap : Array Value) (w : World), (Instr.makeFunc fn first cap).run Tryz.prog w = .ok (.func fn first cap) w := fun _ _ _ _ => rfl
  have hmm : ∀ w, (Instr.makeMap 106 none).run Tryz.prog w = .ok (.map (some w.heap.size)) (w.alloc (.map #[] 0)) := fun _ => rfl
  have HV := hidE hv
  have HS := hidE hS
  have HNM := hidE hnm
  clear hv hS hnm
  go_enter Tryz.func87, Tryz.ntmps87
  go_wp2_with fail
  obtain ⟨h1, h2, hs2, hbl⟩ := laid2 w (.cells #[.int .i64 K, .string X, .int .i64 Z, .slice A m cp] 25) (.cells #[.slice none 0 0] 41)
  refine (tc_onceNew (w.heap.size + 1) _ hs2 h2).mono ?_
  rintro e w1 ⟨rfl, ho, hs1, b1⟩
  have hl1 := hbl.trans (b1.mono (by omega))
  have ht1 : Blk w1 w.heap.size 25 #[.int .i64 K, .string X, .int .i64 Z, .slice A m cp] := Blk.below h1 b1 (by omega)
  obtain ⟨p0, p1, p2, p3, s0, s1, s2, s3, hlx⟩ := blk_facts4 ht1
  have HO := hidE ho
  have HS1 := hidE hs1
  have HL1 := hidE hl1
  clear h1 h2 hs2 hbl ho hs1 b1 hl1 ht1
  unfold noteV
  go_wp2_with fail
  have hs1 := HS1.out
  obtain ⟨k1, k2, ks, kb⟩ := laid2 w1 (.cells #[noteV (w.heap.size + 1)] 109) (.map #[] 0)
  have hl2 : Below w.heap.size w ((w1.alloc (.cells #[noteV (w.heap.size + 1)] 109)).alloc (.map #[] 0)) := HL1.out.trans (kb.mono (by have := HL1.out.size; omega))
  have hb4 : Blk ((w1.alloc (.cells #[noteV (w.heap.size + 1)] 109)).alloc (.map #[] 0)) (w.heap.size + 1 + 4) 109 #[noteV (w.heap.size + 1)] := by rw [← hs1]; exact k1
  have hle := thr_all t.size 124 125 #[.pointer (some ⟨w.heap.size + 1 + 4, 0, none⟩)] #[] (w1.heap.size + 1) (NoteI (w.heap.size + 1)) atName (fun _ _ s => s) (NoteI.inv _)
    (enters_of Tryz.func124 (by kernel_rfl) rfl) (enters_of Tryz.func125 (by kernel_rfl) rfl) (vis_names1 _ _) (vis_none 125 _ _ (NoteI.inv _) tc_names2)
    0 [] (fun g => (w.heap.size + 1 ≤ g ∧ g ≤ w.heap.size + 1 + 3) ∨ g = w.heap.size + 1 + 4) [] t S _ _ (Nat.le_refl _) hsz
    ⟨_, fun g => Iff.rfl, (OnceI.inv _).keep _ _ _ _ _ HO.out kb.size (fun g hg => kb.block g (HO.out.all g hg)), by omega, hb4⟩ (MapE.laid mkInt k2) (by omega)
    (HV.out.keep (fun _ h => h) (fun g hg => hl2.block g (HS.out g hg))) (fun g hg => ⟨by have := HS.out g hg; have := hl2.size; omega, by have := HS.out g hg; omega, by have := HS.out g hg; omega⟩) HNM.out (by omega) (by simp; omega) trivial
  unfold fnV at hle
  rw [← hs1] at hle
  refine hle.mono ?_
  rintro e w3 ⟨rfl, M', ⟨M0, -, hi3, -, -⟩, -, hM', c3⟩
  obtain ⟨A3, cp3, hbk3, hown3, -⟩ := hi3.row
  obtain ⟨q0, q1, q2⟩ := blk_facts1 hbk3
  have hlen := hi3.len
  have HB := hidE (hl2.trans (c3.toBelow (B := w.heap.size) (by have := hl2.size; omega) (fun k hk h => by omega)))
  have HOWN := hidE (own_base hown3 (show w.heap.size ≤ w.heap.size + 1 + 4 by omega))
  have HLEN := hidE (show (namesL t).length ≤ 2000000 by unfold namesL; omega)
  clear hle hl2 hb4 hs1 hi3 hbk3 hM' c3 hown3 hlen HO k1 k2 ks kb
  replace q0 : w3.cell? ⟨w.heap.size + 1, 0, none⟩ = some (.slice A3 (namesL t).length cp3) := q0
  go_wp2_with fail
  go_ret
  exact ⟨A3, cp3, rfl, HOWN.out, HLEN.out, HB.out⟩

end Go.Proofs.YthgkpmgcikopnaaGreatDoor

/-
  Package types: places, on the way in.
-/
namespace Go.Proofs.YthgkpmgcikopnaaGreatDoor
open Go.RowKit Lx Tx Go.Maps Go.WideMaps Go.Shelf
set_option maxRecDepth 100000

/-- the closure that tells places -/
def IsPl (kp : Nat) (cp : Array Value) (J : World → Prop) (isP : Ty → Bool) : Prop :=
  ∀ (t : Ty) (S : Nat → Prop) (v : Value) (w : World), J w → RdV S w t v → (∀ g, S g → g < w.heap.size) → kd t = 1 ∨ kd t = 2 → Nm t →
    Calls Tryz.prog kp (#[v] ++ cp) w fun e w' => e = .returned (.bool (isP t)) ∧ Below w.heap.size w w'

/-- where a walk for places stands: the for alls around, how many places came before each for all or lie within it, how many there are -/
structure Pl where
  ar : List Nat
  wi : List Nat
  al : Nat

def plCome (isP : Ty → Bool) (env : List Name) (t : Ty) (s : Pl) : Pl :=
  if kd t = 5 then ⟨s.ar ++ [s.wi.length], s.wi ++ [s.al], s.al⟩ else if isLf env t = true ∧ isP t = true then ⟨s.ar, s.wi, s.al + 1⟩ else s
def plLeave (_ : List Name) (t : Ty) (s : Pl) : Pl :=
  if kd t = 5 then ⟨s.ar.take (s.ar.length - 1), s.wi.set (s.ar.getD (s.ar.length - 1) 0) (s.al - s.wi.getD (s.ar.getD (s.ar.length - 1) 0) 0), s.al⟩ else s
def plOK (_ : List Name) (t : Ty) (s : Pl) : Prop := kd t = 5 → s.ar ≠ [] ∧ s.ar.getD (s.ar.length - 1) 0 < s.wi.length ∧ s.wi.getD (s.ar.getD (s.ar.length - 1) 0) 0 ≤ s.al

theorem plCome_all (isP : Ty → Bool) (env : List Name) (t : Ty) (s : Pl) (h : kd t = 5) : plCome isP env t s = ⟨s.ar ++ [s.wi.length], s.wi ++ [s.al], s.al⟩ := if_pos h

/-- how a walk through goes on: the for alls around are as before, each still with its number, the numbers of places have grown -/
theorem wf_places (isP : Ty → Bool) (n : Nat) : ∀ (t : Ty) (env : List Name) (s : Pl), t.size ≤ n → (∀ a ∈ s.ar, a < s.wi.length ∧ s.wi.getD a 0 ≤ s.al) →
    WfT plOK (plCome isP) plLeave env t s ∧ (thr (plCome isP) plLeave env t s).ar = s.ar ∧ s.wi.length ≤ (thr (plCome isP) plLeave env t s).wi.length ∧ s.al ≤ (thr (plCome isP) plLeave env t s).al ∧ ∀ a, a < s.wi.length → (thr (plCome isP) plLeave env t s).wi.getD a 0 = s.wi.getD a 0 := by
  induction n with
  | zero => intro t env s h; rw [size_kids] at h; omega
  | succ n ih =>
    intro t env s h hs
    have hkid : ∀ i (hi : i < (kids t).length), (kids t)[i].size ≤ n := fun i hi => by have := kid_size t i hi; omega
    -- the kids, one after another
    have hL : ∀ (l : List Ty) (env' : List Name) (s' : Pl), (∀ u ∈ l, u.size ≤ n) → (∀ a ∈ s'.ar, a < s'.wi.length ∧ s'.wi.getD a 0 ≤ s'.al) →
        (∀ i u, (∃ hi : i < l.length, l[i] = u) → WfT plOK (plCome isP) plLeave env' u (thrL (plCome isP) plLeave env' (l.take i) s')) ∧ (thrL (plCome isP) plLeave env' l s').ar = s'.ar ∧ s'.wi.length ≤ (thrL (plCome isP) plLeave env' l s').wi.length ∧ s'.al ≤ (thrL (plCome isP) plLeave env' l s').al ∧
          ∀ a, a < s'.wi.length → (thrL (plCome isP) plLeave env' l s').wi.getD a 0 = s'.wi.getD a 0 := by
      intro l
      induction l with
      | nil =>
        intro env' s' _ _
        refine ⟨fun i u hu => ?_, by rw [thrL], by rw [thrL]; exact Nat.le_refl _, by rw [thrL]; exact Nat.le_refl _, fun a _ => by rw [thrL]⟩
        obtain ⟨hi, _⟩ := hu
        exact absurd hi (Nat.not_lt_zero _)
      | cons u r ihr =>
        intro env' s' hsz hok
        obtain ⟨k1, k2, k3, k4, k5⟩ := ih u env' s' (hsz u List.mem_cons_self) hok
        have hok2 : ∀ a ∈ (thr (plCome isP) plLeave env' u s').ar, a < (thr (plCome isP) plLeave env' u s').wi.length ∧ (thr (plCome isP) plLeave env' u s').wi.getD a 0 ≤ (thr (plCome isP) plLeave env' u s').al := fun a ha => by
          rw [k2] at ha
          have := hok a ha
          exact ⟨by omega, by rw [k5 a this.1]; omega⟩
        obtain ⟨j1, j2, j3, j4, j5⟩ := ihr env' (thr (plCome isP) plLeave env' u s') (fun x hx => hsz x (List.mem_cons_of_mem _ hx)) hok2
        rw [thrL]
        refine ⟨fun i x hx => ?_, by rw [j2, k2], by omega, by omega, fun a ha => by rw [j5 a (by omega), k5 a ha]⟩
        obtain ⟨hi, hx⟩ := hx
        cases i with
        | zero =>
          rw [List.take_zero, thrL]
          rw [← hx]
          exact k1
        | succ i =>
          rw [List.take_succ_cons, thrL]
          exact j1 i x ⟨by simpa using hi, by rw [← hx]; rfl⟩
    have hmem : ∀ u ∈ kids t, u.size ≤ n := fun u hu => by
      obtain ⟨i, hi, rfl⟩ := List.mem_iff_getElem.1 hu
      exact hkid i hi
    by_cases h5 : kd t = 5
    · have hc := plCome_all isP env t s h5
      have hok1 : ∀ a ∈ (plCome isP env t s).ar, a < (plCome isP env t s).wi.length ∧ (plCome isP env t s).wi.getD a 0 ≤ (plCome isP env t s).al := by
        rw [hc]
        intro a ha
        simp only [List.length_append, List.length_singleton]
        rcases List.mem_append.1 ha with ha | ha
        · have := hs a ha
          refine ⟨by omega, ?_⟩
          rw [List.getD_eq_getElem?_getD, List.getElem?_append_left this.1, ← List.getD_eq_getElem?_getD]
          exact this.2
        · have ha : a = s.wi.length := by simpa using ha
          subst ha
          refine ⟨by omega, ?_⟩
          simp
      obtain ⟨j1, j2, j3, j4, j5⟩ := hL (kids t) (envOf env t) (plCome isP env t s) hmem hok1
      rw [thr_kids]
      generalize hq : thrL (plCome isP) plLeave (envOf env t) (kids t) (plCome isP env t s) = q at *
      rw [hc] at j2 j3 j4 j5
      simp only [List.length_append, List.length_singleton] at j2 j3 j4 j5
      have hlast : q.ar.getD (q.ar.length - 1) 0 = s.wi.length := by rw [j2]; simp
      have hv := j5 s.wi.length (by omega)
      have hv2 : q.wi.getD s.wi.length 0 = s.al := by rw [hv]; simp
      refine ⟨.mk _ _ _ (fun i u hu => j1 i u hu) ?_, ?_, ?_, ?_, ?_⟩
      · rw [hq]
        intro _
        exact ⟨by rw [j2]; simp, by rw [hlast]; omega, by rw [hlast, hv2]; omega⟩
      · rw [plLeave, if_pos h5, j2]
        simp
      · rw [plLeave, if_pos h5]
        simp only [List.length_set]
        omega
      · rw [plLeave, if_pos h5]
        exact j4
      · intro a ha
        rw [plLeave, if_pos h5, hlast]
        show (q.wi.set s.wi.length _).getD a 0 = _
        rw [List.getD_eq_getElem?_getD, List.getElem?_set_ne (by omega), ← List.getD_eq_getElem?_getD, j5 a (by omega), List.getD_eq_getElem?_getD, List.getElem?_append_left ha, ← List.getD_eq_getElem?_getD]
    · have hc : (plCome isP env t s).ar = s.ar ∧ (plCome isP env t s).wi = s.wi ∧ s.al ≤ (plCome isP env t s).al := by
        rw [plCome, if_neg h5]
        split
        · exact ⟨rfl, rfl, Nat.le_succ _⟩
        · exact ⟨rfl, rfl, Nat.le_refl _⟩
      obtain ⟨c1, c2, c3⟩ := hc
      obtain ⟨j1, j2, j3, j4, j5⟩ := hL (kids t) (envOf env t) (plCome isP env t s) hmem (fun a ha => by rw [c1] at ha; rw [c2]; have := hs a ha; exact ⟨this.1, by omega⟩)
      rw [thr_kids]
      have hl : ∀ q : Pl, plLeave env t q = q := fun q => by rw [plLeave, if_neg h5]
      rw [hl]
      rw [c2] at j3 j5
      exact ⟨.mk _ _ _ (fun i u hu => j1 i u hu) (fun h => absurd h h5), by rw [j2, c1], j3, by omega, j5⟩

end Go.Proofs.YthgkpmgcikopnaaGreatDoor

/-
  Package types: places, what its closures have.
-/
namespace Go.Proofs.YthgkpmgcikopnaaGreatDoor
open Go.RowKit Lx Tx Go.Maps Go.WideMaps Go.Shelf
set_option maxRecDepth 100000

/-- a cell in block q that holds a slice of numbers of our own, with its row -/
def NumsAt (w : World) (B q : Nat) (l : List Nat) (A : Option Addr) (c : Nat) : Prop :=
  Blk w q 68 #[.slice A l.length c] ∧ w.ownsRow B 3 1 (.slice A l.length c) l.length (intV l)
theorem NumsAt.keep {w w' : World} {B q : Nat} {l : List Nat} {A : Option Addr} {c : Nat} (h : NumsAt w B q l A c) (h1 : w'.heap[q]? = w.heap[q]?) (h2 : ∀ a, A = some a → w'.heap[a.block]? = w.heap[a.block]?) : NumsAt w' B q l A c :=
  ⟨h.1.same h1, own_keepb h.2 h2⟩

/-- the blocks of places, from b on: isPlace, all, within, the map, its cell, around; and the two rows -/
structure PlI (b kp : Nat) (cp : Array Value) (J : World → Prop) (KJ : Nat → Prop) (c : Nat) (s : Pl) (M : Nat → Prop) (w : World) : Prop where
  isp : Blk w b 64 #[fnV kp cp]
  num : Blk w (b + 1) 3 #[.int .i64 (s.al : Nat)]
  cel : Blk w (b + 4) 106 #[.map (some (b + 3))]
  nums : ∃ A1 c1 A2 c2, NumsAt w (b + 6) (b + 5) s.ar A1 c1 ∧ NumsAt w (b + 6) (b + 2) s.wi A2 c2 ∧ (∀ a, A1 = some a → M a.block) ∧ (∀ a, A2 = some a → M a.block) ∧ ∀ a a', A1 = some a → A2 = some a' → a.block ≠ a'.block
  low : M b ∧ M (b + 1) ∧ M (b + 2) ∧ M (b + 4) ∧ M (b + 5)
  jj : J w
  kj : ∀ g, KJ g → M g ∧ g < b
  all : ∀ g, M g → g < w.heap.size
  len : s.ar.length ≤ c ∧ s.wi.length ≤ c ∧ s.al ≤ c
theorem PlI.inv (b kp : Nat) (cp : Array Value) (J : World → Prop) (KJ : Nat → Prop) (hJ : ∀ w w', J w → (∀ g, KJ g → w'.heap[g]? = w.heap[g]?) → J w') : Inv (PlI b kp cp J KJ) where
  mono c c' s M w h hc := { h with len := by have := h.len; omega }
  lt c s M w h := h.all
  keep c s M w w' h hs hk :=
    { isp := h.isp.same (hk _ h.low.1)
      num := h.num.same (hk _ h.low.2.1)
      cel := h.cel.same (hk _ h.low.2.2.2.1)
      nums := by
        obtain ⟨A1, c1, A2, c2, h1, h2, h3, h4, h5⟩ := h.nums
        exact ⟨A1, c1, A2, c2, h1.keep (hk _ h.low.2.2.2.2) (fun a ha => hk _ (h3 a ha)), h2.keep (hk _ h.low.2.2.1) (fun a ha => hk _ (h4 a ha)), h3, h4, h5⟩
      low := h.low
      jj := hJ w w' h.jj (fun g hg => hk g (h.kj g hg).1)
      kj := h.kj
      all := fun g hg => Nat.lt_of_lt_of_le (h.all g hg) hs
      len := h.len }

end Go.Proofs.YthgkpmgcikopnaaGreatDoor

/-
  Package types: places, on the way in.
-/
namespace Go.Proofs.YthgkpmgcikopnaaGreatDoor
open Go.RowKit Lx Tx Go.Maps Go.WideMaps Go.Shelf
set_option maxRecDepth 100000

theorem leafy_of (t : Ty) (env : List Name) (h : isLf env t = true) : kd t = 1 ∨ kd t = 2 := by
  cases t with
  | var x => exact .inl rfl
  | mt n => exact .inr rfl
  | con c l => cases h
  | fn a b => cases h
  | all x t => cases h

set_option maxHeartbeats 1600000 in
theorem tc_placesAll (b kp : Nat) (cp : Array Value) (J : World → Prop) (KJ : Nat → Prop) (c : Nat) (s : Pl) (M : Nat → Prop) (K Z : Int) (X : ByteArray) (A : Option Addr) (m cq : Nat) (w : World) (d5 : ((K : Int) == 5) = true) (hJ : ∀ w w', J w → (∀ g, KJ g → w'.heap[g]? = w.heap[g]?) → J w') (hi : PlI b kp cp J KJ c s M w) (hc : c < 10000000) :
    Calls Tryz.prog 122 #[.agg #[.int .i64 K, .string X, .int .i64 Z, .slice A m cq], .pointer (some ⟨b + 5, 0, none⟩), .pointer (some ⟨b + 2, 0, none⟩), .pointer (some ⟨b + 1, 0, none⟩), .pointer (some ⟨b + 4, 0, none⟩), .pointer (some ⟨b, 0, none⟩)] w fun e w' =>
      e = .returned (.tuple #[]) ∧ ∃ M', PlI b kp cp J KJ (c + 1) ⟨s.ar ++ [s.wi.length], s.wi ++ [s.al], s.al⟩ M' w' ∧ (∀ g, M' g → M g ∨ w.heap.size ≤ g) ∧ Chg M w w' := by
  obtain ⟨hip, hnum, hcel, ⟨A1, c1, A2, c2, ⟨ha, hao⟩, ⟨hw, hwo⟩, hA1, hA2, hne⟩, hlow, hjj, hkj, hall, hl1, hl2, hl3⟩ := hi
  obtain ⟨ar, wi, al⟩ := s
  obtain ⟨i0, hi0, hz0, hz1, hz2⟩ := info_parts int_info
  simp only at hnum ha hao hw hwo hl1 hl2 hl3 ⊢
  obtain ⟨n1, hn1⟩ : ∃ n1, ar.length = n1 := ⟨_, rfl⟩
  obtain ⟨n2, hn2⟩ : ∃ n2, wi.length = n2 := ⟨_, rfl⟩
  rw [hn1] at ha hao hl1
  rw [hn2] at hw hwo hl2
  obtain ⟨x0, x1, x2⟩ := blk_facts1 hnum
  obtain ⟨y0, y1, y2⟩ := blk_facts1 ha
  obtain ⟨z0, z1, z2⟩ := blk_facts1 hw
  have HIP := hidE hip
  have HNUM := hidE hnum
  have HCEL := hidE hcel
  have HAR := hidE ha
  have HAO := hidE ((hao.alloc (.cells #[.int .i64 K, .string X, .int .i64 Z, .slice A m cq] 25)).alloc (.cells #[.int .i64 (n2 : Nat)] 3))
  have HWI := hidE hw
  have HWO := hidE hwo
  have HA1 := hidE hA1
  have HA2 := hidE hA2
  have HNE := hidE hne
  have HLOW := hidE hlow
  have HJ := hidE hjj
  have HKJ := hidE hkj
  have HALL := hidE hall
  have HN1 := hidE hn1
  have HN2 := hidE hn2
  clear hip hnum hcel ha hao hw hwo hA1 hA2 hne hlow hjj hkj hall hn1 hn2
  go_enter Tryz.func122, Tryz.ntmps122
  go_wp2_with (first | (at_builtin; refine wpList_append_own_at _ rfl (.tmp 10) (.tmp 13) 68 rfl (b + 6) 3 i0 _ 1 8 Tryz.underlying68 hi0 hz0 hz1 hz2 rfl (by decide) _ n1 (intV ar) rfl HAO.out ⟨w.heap.size + 1, 0, none⟩ 1 1 [.int .i64 (n2 : Nat)] rfl rfl (new_cells' _ _ _ _ (by simp)) (by intro u hu; simp at hu; subst hu; rfl) (by unfold maxLen; omega) (by omega) (by simp; omega) ?_; intro v3 w3 hown3 hgrow3 _ hat3; obtain ⟨A3, c3, rfl⟩ := own_shape hown3; have HO3 := hidE hown3; have HG3 := hidE hgrow3; have HT3 := hidE hat3; have hs3 : w.heap.size + 2 ≤ w3.heap.size := (by have := hgrow3.size; simp at this; omega); have hk3 : ∀ k, k < w.heap.size → some k ≠ (Value.slice A1 n1 c1).ownBlock → w3.heap[k]? = w.heap[k]? := (fun k hk hne => (hgrow3.block k (by simp; omega) hne).trans ((Below.heap_alloc _ _ _ (by simp; omega)).trans (Below.heap_alloc _ _ _ hk))); have hk6 : ∀ k, k < w.heap.size → k < b + 6 → w3.heap[k]? = w.heap[k]? := (fun k hk hb => hk3 k hk (fun e => by have := (HAO.out.lt k e.symm).1; omega)); have h35 := HAR.out.same (hk6 (b + 5) y2 (by omega)); have h32 := HWI.out.same (hk6 (b + 2) z2 (by omega)); have h31 := HNUM.out.same (hk6 (b + 1) x2 (by omega)); obtain ⟨r0, r1, r2⟩ := blk_facts1 h35; obtain ⟨s0, s1, s2⟩ := blk_facts1 h32; obtain ⟨t0, t1, t2⟩ := blk_facts1 h31; have H35 := hidE h35; have H32 := hidE h32; have H31 := hidE h31; have HK3 := hidE hk3; have HK6 := hidE hk6; have HWO3 : Hid (((w3.setCell ⟨b + 5, 0, none⟩ (.slice A3 (n1 + 1) c3)).alloc (.cells #[.int .i64 (al : Nat)] 3)).ownsRow (b + 6) 3 1 (.slice A2 n2 c2) n2 (intV wi)) := hidE (own_keepb HWO.out (fun a ha => by
        have q1 := (HWO.out.lt a.block (by rw [ha]; rfl)).1
        have q2 := HALL.out _ (HA2.out a ha)
        exact (Below.heap_alloc _ _ _ (by simp; omega)).trans ((Below.heap_setCell w3 ⟨b + 5, 0, none⟩ _ a.block (by show a.block ≠ b + 5; omega)).trans (hk3 a.block q2 (fun e => by
          cases hA : A1 with
          | none => rw [hA] at e; cases e
          | some a1 => rw [hA] at e; injection e with e; exact HNE.out a1 a hA ha e.symm))))); clear hown3 hgrow3 hat3 hk3 hk6 h35 h32 h31) | (at_builtin; refine wpList_append_own_at _ rfl (.tmp 15) (.tmp 17) 68 rfl (b + 6) 3 i0 _ 1 8 Tryz.underlying68 hi0 hz0 hz1 hz2 rfl (by decide) _ n2 (intV wi) rfl HWO3.out ⟨w3.heap.size, 0, none⟩ 1 1 [.int .i64 (al : Nat)] rfl rfl (new_cells' _ _ _ _ (by simp)) (by intro u hu; simp at hu; subst hu; rfl) (by unfold maxLen; omega) (by omega) (by simp; omega) ?_; intro v5 w5 hown5 hgrow5 _ hat5; obtain ⟨A5, c5, rfl⟩ := own_shape hown5; have HO5 := hidE hown5; have HG5 := hidE hgrow5; have HT5 := hidE hat5; have hk6 : ∀ k, k < w.heap.size → k < b + 6 → k ≠ b + 5 → w5.heap[k]? = w.heap[k]? := (fun k hk hb hne => (hgrow5.block k (by simp; omega) (fun e => by have := (HWO3.out.lt k e.symm).1; omega)).trans ((Below.heap_alloc _ _ _ (by simp; omega)).trans ((Below.heap_setCell w3 ⟨b + 5, 0, none⟩ _ k hne).trans (HK6.out k hk hb)))); have h52 := HWI.out.same (hk6 (b + 2) z2 (by omega) (by omega)); obtain ⟨k0, k1, k2⟩ := blk_facts1 h52; have H52 := hidE h52; have HK56 := hidE hk6; clear hown5 hgrow5 hat5 hk6 h52))
  first | go_end0 | refine bodyPost_ret (results_none rfl _ _ _) rfl ?_
  obtain ⟨g3, q3, e3, hg3, hgl3⟩ := HO3.out.form (by omega)
  injection e3 with e3 _ e3'
  subst e3 e3'
  obtain ⟨g5, q5, e5, hg5, hgl5⟩ := HO5.out.form (by omega)
  injection e5 with e5 _ e5'
  subst e5 e5'
  have hA1 : ∀ q, some q = (Value.slice A1 n1 c1).ownBlock → M q ∧ b + 6 ≤ q := fun q hq => by
    refine ⟨?_, (HAO.out.lt q hq.symm).1⟩
    cases hA : A1 with
    | none => rw [hA] at hq; cases hq
    | some a => rw [hA] at hq; injection hq with hq; rw [hq]; exact HA1.out a hA
  have hA2 : ∀ q, some q = (Value.slice A2 n2 c2).ownBlock → M q ∧ b + 6 ≤ q := fun q hq => by
    refine ⟨?_, (HWO.out.lt q hq.symm).1⟩
    cases hA : A2 with
    | none => rw [hA] at hq; cases hq
    | some a => rw [hA] at hq; injection hq with hq; rw [hq]; exact HA2.out a hA
  have hA12 : ∀ q, some q = (Value.slice A1 n1 c1).ownBlock → some q ≠ (Value.slice A2 n2 c2).ownBlock := fun q h1 h2 => by
    cases hA : A1 with
    | none => rw [hA] at h1; cases h1
    | some a =>
      cases hB : A2 with
      | none => rw [hB] at h2; cases h2
      | some a' =>
        rw [hA] at h1
        rw [hB] at h2
        injection h1 with h1
        injection h2 with h2
        exact HNE.out a a' hA hB (by omega)
  have hT3 : some g3 = (Value.slice A1 n1 c1).ownBlock ∨ g3 = w.heap.size + 2 := by
    rcases HT3.out with h | h
    · exact .inl h
    · right
      have : (some g3 : Option Nat) = some _ := h
      injection this with this
      rw [this]; simp
  have hT5 : some g5 = (Value.slice A2 n2 c2).ownBlock ∨ g5 = w3.heap.size + 1 := by
    rcases HT5.out with h | h
    · exact .inl h
    · right
      have : (some g5 : Option Nat) = some _ := h
      injection this with this
      rw [this]; simp
  have hg3A : some g3 ≠ (Value.slice A2 n2 c2).ownBlock := fun h => by
    rcases hT3 with h3 | h3
    · exact hA12 g3 h3 h
    · have := HALL.out g3 (hA2 g3 h).1
      omega
  have hne35 : g3 ≠ g5 := fun e => by
    rcases hT5 with h5 | h5
    · exact hg3A (e ▸ h5)
    · omega
  have hk5 : ∀ k, k < w3.heap.size → k ≠ b + 5 → some k ≠ (Value.slice A2 n2 c2).ownBlock → w5.heap[k]? = w3.heap[k]? := fun k h1 h2 h3 => (HG5.out.block k (by simp; omega) h3).trans ((Below.heap_alloc _ _ _ (by simp; exact h1)).trans (Below.heap_setCell w3 ⟨b + 5, 0, none⟩ _ k h2))
  have hf : ∀ k, k ≠ b + 2 → (w5.setCell ⟨b + 2, 0, none⟩ (.slice (some ⟨g5, 0, none⟩) (n2 + 1) c5)).heap[k]? = w5.heap[k]? := fun k hk => Below.heap_setCell w5 ⟨b + 2, 0, none⟩ _ k hk
  have hsz : (w5.setCell ⟨b + 2, 0, none⟩ (.slice (some ⟨g5, 0, none⟩) (n2 + 1) c5)).heap.size = w5.heap.size := by simp
  have hs5 : w3.heap.size + 1 ≤ w5.heap.size := by have := HG5.out.size; simp at this; exact this
  have hb5 : Blk w5 (b + 5) 68 #[.slice (some ⟨g3, 0, none⟩) (n1 + 1) c3] := (HG5.out.block (b + 5) (by simp; omega) (fun h => by have := (hA2 _ h).2; omega)).trans ((Below.heap_alloc _ _ _ (by simp; omega)).trans (one_setCell H35.out))
  have hbel := HK56.out
  refine ⟨rfl, fun g => M g ∨ g = g3 ∨ g = g5, ⟨HIP.out.same ((hf b (by omega)).trans (hbel b (by omega) (by omega) (by omega))), HNUM.out.same ((hf _ (by omega)).trans (hbel _ x2 (by omega) (by omega))), HCEL.out.same ((hf _ (by omega)).trans (hbel _ HCEL.out.lt (by omega) (by omega))), ⟨some ⟨g3, 0, none⟩, c3, some ⟨g5, 0, none⟩, c5, ⟨?_, ?_⟩, ⟨?_, ?_⟩, ?_, ?_, ?_⟩, ?_, ?_, ?_, ?_, ?_⟩, ?_, ?_⟩
  · rw [List.length_append, HN1.out]
    exact (hf _ (by omega)).trans hb5
  · rw [List.length_append, HN1.out, HN2.out, show intV (ar ++ [n2]) = intV ar ++ [.int .i64 (n2 : Nat)] by simp [intV]]
    refine own_keepb HO3.out (fun a ha => ?_)
    injection ha with ha
    rw [← ha]
    exact (hf g3 (by omega)).trans (hk5 g3 hgl3 (by omega) hg3A)
  · rw [List.length_append, HN2.out]
    exact one_setCell H52.out
  · rw [List.length_append, HN2.out, show intV (wi ++ [al]) = intV wi ++ [.int .i64 (al : Nat)] by simp [intV]]
    refine own_keepb HO5.out (fun a ha => ?_)
    injection ha with ha
    rw [← ha]
    exact hf g5 (by omega)
  · intro a ha; injection ha with ha; rw [← ha]; exact .inr (.inl rfl)
  · intro a ha; injection ha with ha; rw [← ha]; exact .inr (.inr rfl)
  · intro a a' ha ha'; injection ha with ha; injection ha' with ha'; rw [← ha, ← ha']; exact hne35
  · exact ⟨.inl HLOW.out.1, .inl HLOW.out.2.1, .inl HLOW.out.2.2.1, .inl HLOW.out.2.2.2.1, .inl HLOW.out.2.2.2.2⟩
  · exact hJ w _ HJ.out (fun g hg => (hf g (by have := (HKJ.out g hg).2; omega)).trans (hbel g (HALL.out g (HKJ.out g hg).1) (by have := (HKJ.out g hg).2; omega) (by have := (HKJ.out g hg).2; omega)))
  · exact fun g hg => ⟨.inl (HKJ.out g hg).1, (HKJ.out g hg).2⟩
  · intro g hg
    rw [hsz]
    rcases hg with hg | rfl | rfl
    · have := HALL.out g hg; omega
    · omega
    · omega
  · simp only [List.length_append, List.length_singleton]
    rw [HN1.out, HN2.out]
    omega
  · intro g hg
    rcases hg with hg | rfl | rfl
    · exact .inl hg
    · rcases hT3 with h | h
      · exact .inl (hA1 _ h).1
      · exact .inr (by omega)
    · rcases hT5 with h | h
      · exact .inl (hA2 _ h).1
      · exact .inr (by omega)
  · refine Chg.setCell ?_ (p := ⟨b + 2, 0, none⟩) (.inr HLOW.out.2.2.1) _
    refine Chg.grown ?_ HG5.out (fun k hk => .inr (hA2 k hk.symm).1)
    refine Chg.alloc ?_ _
    refine Chg.setCell ?_ (p := ⟨b + 5, 0, none⟩) (.inr HLOW.out.2.2.2.2) _
    exact ((((Chg.refl M w).alloc _).alloc _).grown HG3.out (fun k hk => .inr (hA1 k hk.symm).1))

end Go.Proofs.YthgkpmgcikopnaaGreatDoor

/-
  Package types: places, on the way in: whatever part.
-/
namespace Go.Proofs.YthgkpmgcikopnaaGreatDoor
open Go.RowKit Lx Tx Go.Maps Go.WideMaps Go.Shelf
set_option maxRecDepth 100000

theorem PlI.step {b kp : Nat} {cp : Array Value} {J : World → Prop} {KJ : Nat → Prop} {c : Nat} {s : Pl} {M : Nat → Prop} {w w' : World} (hJ : ∀ w w', J w → (∀ g, KJ g → w'.heap[g]? = w.heap[g]?) → J w') (h : PlI b kp cp J KJ c s M w) (hb : Below w.heap.size w w') : PlI b kp cp J KJ (c + 1) s M w' :=
  (PlI.inv b kp cp J KJ hJ).mono _ _ _ _ _ ((PlI.inv b kp cp J KJ hJ).keep _ _ _ _ _ h hb.size (fun g hg => hb.block g (h.all g hg))) (Nat.le_succ _)

set_option maxHeartbeats 1600000 in
theorem tc_placesOther (b kp : Nat) (cp : Array Value) (J : World → Prop) (KJ : Nat → Prop) (isP : Ty → Bool) (hJ : ∀ w w', J w → (∀ g, KJ g → w'.heap[g]? = w.heap[g]?) → J w') (ep : ∀ args w, (callFunc kp args).run Tryz.prog w = .ok (.enter kp args) w) (HP : IsPl kp cp J isP)
    (c : Nat) (s : Pl) (M : Nat → Prop) (env : List Name) (t : Ty) (S : Nat → Prop) (v : Value) (w : World) (h5 : kd t ≠ 5) (hi : PlI b kp cp J KJ c s M w) (hm : MapE mkInt w (b + 3) (ones env)) (hv : RdV S w t v) (hS : ∀ g, S g → g < w.heap.size ∧ ¬ M g) (hnm : Nm t) (hc : c < 10000000) :
    Calls Tryz.prog 122 #[v, .pointer (some ⟨b + 5, 0, none⟩), .pointer (some ⟨b + 2, 0, none⟩), .pointer (some ⟨b + 1, 0, none⟩), .pointer (some ⟨b + 4, 0, none⟩), .pointer (some ⟨b, 0, none⟩)] w fun e w' =>
      e = .returned (.tuple #[]) ∧ ∃ M', PlI b kp cp J KJ (c + 1) (plCome isP env t s) M' w' ∧ (∀ g, M' g → M g ∨ w.heap.size ≤ g) ∧ Chg M w w' := by
  obtain ⟨K, X, Z, A, m, cq, rfl, hK, -, -, -, -⟩ := hv.parts
  have d5 : ((K : Int) == 5) = false := by rw [hK]; exact kF _ 5 h5
  have hal : Below w.heap.size w (w.alloc (.cells #[.int .i64 K, .string X, .int .i64 Z, .slice A m cq] 25)) := (Below.refl _ w).alloc (Nat.le_refl _) _
  have hL := tc_isLeaf (b + 3) env t S _ _ (hv.keep (fun _ h => h) (fun g hg => hal.block g (hS g hg).1)) (hm.keep (hal.block _ hm.lt)) hnm
  have hst : plCome isP env t s = if isLf env t = true ∧ isP t = true then ⟨s.ar, s.wi, s.al + 1⟩ else s := if_neg h5
  obtain ⟨s', hs'⟩ : ∃ s', plCome isP env t s = s' := ⟨_, rfl⟩
  rw [hs'] at hst
  rw [hs']
  obtain ⟨y0, -, l4⟩ := blk_facts1 hi.cel
  have hleaf := leafy_of t env
  obtain ⟨q, hq⟩ : ∃ q, isLf env t = q := ⟨_, rfl⟩
  rw [hq] at hL hleaf hst
  have HST := hidE hst
  have HL := hidE hL
  have HI := hidE hi
  have HV := hidE hv
  have HS := hidE hS
  have HNM := hidE hnm
  have HAL := hidE hal
  clear hq hst hs' hK hL hi hm hv hS hnm hal h5
  go_enter Tryz.func122, Tryz.ntmps122
  go_wp2_with fail
  refine HL.out.mono ?_
  rintro e w1 ⟨rfl, b1⟩
  have hb1 := HAL.out.trans (b1.mono (by simp))
  have hs1 := b1.size
  simp at hs1
  have hbk := Blk.below (heap_alloc_new w (.cells #[.int .i64 K, .string X, .int .i64 Z, .slice A m cq] 25)) b1 (by simp)
  obtain ⟨p0, p1, p2, p3, u0, u1, u2, u3, hlx⟩ := blk_facts4 hbk
  have HB1 := hidE hb1
  have I1 := hidE (PlI.step hJ HI.out hb1)
  obtain ⟨i0, -, il⟩ := blk_facts1 I1.out.isp
  unfold fnV at i0
  clear hb1 b1 hbk HL
  cases q with
  | false =>
    go_wp2_with fail
    first | go_end0 | refine bodyPost_ret (results_none rfl _ _ _) rfl ?_
    have hst := HST.out
    rw [if_neg (fun h => absurd h.1 (by decide))] at hst
    rw [hst]
    exact ⟨rfl, M, I1.out, fun g hg => .inl hg, Chg.of_below HB1.out⟩
  | true =>
    have hpl := HP t S _ w1 I1.out.jj (HV.out.keep (fun _ h => h) (fun g hg => HB1.out.block g (HS.out g hg).1)) (fun g hg => by have := (HS.out g hg).1; omega) (hleaf rfl) HNM.out
    obtain ⟨r, hr⟩ : ∃ r, isP t = r := ⟨_, rfl⟩
    have hst := HST.out
    rw [hr] at hpl hst
    have HST2 := hidE hst
    clear hst
    have HPL := hidE hpl
    clear hpl hr hleaf
    go_wp2_with fail
    refine HPL.out.mono ?_
    rintro e w2 ⟨rfl, b2⟩
    have HB2 := hidE (HB1.out.trans (b2.mono HB1.out.size))
    have I2 := hidE (PlI.step hJ HI.out HB2.out)
    clear b2 HPL
    cases r with
    | false =>
      go_wp2_with fail
      first | go_end0 | refine bodyPost_ret (results_none rfl _ _ _) rfl ?_
      have hst := HST2.out
      rw [if_neg (fun h => absurd h.2 (by decide))] at hst
      rw [hst]
      exact ⟨rfl, M, I2.out, fun g hg => .inl hg, Chg.of_below HB2.out⟩
    | true =>
      have hlen := HI.out.len
      obtain ⟨x0, x1, x2⟩ := blk_facts1 I2.out.num
      have hal3 : s.al < 10000000 := by omega
      go_wp2_with fail
      first | go_end0 | refine bodyPost_ret (results_none rfl _ _ _) rfl ?_
      have hst := HST2.out
      rw [if_pos (by simp)] at hst
      rw [hst]
      have hi2 := I2.out
      have hlow := hi2.low
      have hf : ∀ k, k ≠ b + 1 → (w2.setCell ⟨b + 1, 0, none⟩ (.int .i64 ((s.al : Int) + 1))).heap[k]? = w2.heap[k]? := fun k hk => Below.heap_setCell w2 ⟨b + 1, 0, none⟩ _ k hk
      obtain ⟨A1, c1, A2, c2, h1, h2, h3, h4, h5⟩ := hi2.nums
      refine ⟨rfl, M, { isp := hi2.isp.same (hf b (by omega)), num := ?_, cel := hi2.cel.same (hf _ (by omega)), nums := ⟨A1, c1, A2, c2, h1.keep (hf _ (by omega)) (fun a ha => hf _ ?_), h2.keep (hf _ (by omega)) (fun a ha => hf _ ?_), h3, h4, h5⟩, low := hlow, jj := hJ _ _ hi2.jj (fun g hg => hf g (by have := (hi2.kj g hg).2; omega)), kj := hi2.kj, all := fun g hg => by have := hi2.all g hg; simp; exact this, len := ?_ }, fun g hg => .inl hg, (Chg.of_below HB2.out).setCell (p := ⟨b + 1, 0, none⟩) (.inr hlow.2.1) _⟩
      · have := one_setCell (u := .int .i64 ((s.al : Int) + 1)) hi2.num
        exact this
      · have := (h1.2.lt a.block (by rw [ha]; rfl)).1; omega
      · have := (h2.2.lt a.block (by rw [ha]; rfl)).1; omega
      · show s.ar.length ≤ c + 1 ∧ s.wi.length ≤ c + 1 ∧ s.al + 1 ≤ c + 1
        omega

theorem vis_places1 (b kp : Nat) (cp : Array Value) (J : World → Prop) (KJ : Nat → Prop) (isP : Ty → Bool) (hJ : ∀ w w', J w → (∀ g, KJ g → w'.heap[g]? = w.heap[g]?) → J w') (ep : ∀ args w, (callFunc kp args).run Tryz.prog w = .ok (.enter kp args) w) (HP : IsPl kp cp J isP) :
    Vis 122 #[.pointer (some ⟨b + 5, 0, none⟩), .pointer (some ⟨b + 2, 0, none⟩), .pointer (some ⟨b + 1, 0, none⟩), .pointer (some ⟨b + 4, 0, none⟩), .pointer (some ⟨b, 0, none⟩)] (b + 3) (PlI b kp cp J KJ) (plCome isP) := by
  intro c s M env t S v w hi hm _ hv hS hnm _ hc
  by_cases h5 : kd t = 5
  · rw [plCome_all isP env t s h5]
    obtain ⟨K, X, Z, A, m, cq, rfl, hK, -, -, -, -⟩ := hv.parts
    exact tc_placesAll b kp cp J KJ c s M K Z X A m cq w (by rw [hK, h5]; rfl) hJ hi hc
  · exact tc_placesOther b kp cp J KJ isP hJ ep HP c s M env t S v w h5 hi hm hv hS hnm hc

end Go.Proofs.YthgkpmgcikopnaaGreatDoor

/-
  Package types: places, on the way out.
-/
namespace Go.Proofs.YthgkpmgcikopnaaGreatDoor
open Go.RowKit Lx Tx Go.Maps Go.WideMaps Go.Shelf
set_option maxRecDepth 100000

theorem intV_get (l : List Nat) (i : Nat) (hi : i < l.length) : (intV l)[i]? = some (.int .i64 ((l.getD i 0 : Nat) : Int)) := by
  simp [intV, List.getElem?_eq_getElem hi, List.getD_eq_getElem?_getD]

theorem own_take {w : World} {B : Nat} {e : TypeId} {g n c k : Nat} {xs : List Value} (h : w.ownsRow B e 1 (.slice (some ⟨g, 0, none⟩) n c) n xs) (hk : k ≤ n) : w.ownsRow B e 1 (.slice (some ⟨g, 0, none⟩) k c) k (xs.take k) := by
  obtain ⟨h0, h⟩ := h
  refine ⟨by rw [List.length_take]; omega, ?_⟩
  rcases h with ⟨h, _⟩ | ⟨g', cap, cur, hv, hg, hb, h1, h2, h3, h4⟩
  · cases h
  · injection hv with hv _ hc
    injection hv with hv
    injection hv with hv
    subst hv hc
    refine .inr ⟨g, c, cur, rfl, hg, hb, by omega, h2, h3, ?_⟩
    rw [← h4, List.take_take, Nat.mul_one, Nat.mul_one, Nat.min_eq_left hk]

set_option maxHeartbeats 1600000 in
theorem tc_placesOut (b kp : Nat) (cp : Array Value) (J : World → Prop) (KJ : Nat → Prop) (c : Nat) (s : Pl) (M : Nat → Prop) (K Z : Int) (X : ByteArray) (A : Option Addr) (m cq : Nat) (w : World) (d5 : ((K : Int) == 5) = true) (hJ : ∀ w w', J w → (∀ g, KJ g → w'.heap[g]? = w.heap[g]?) → J w') (hi : PlI b kp cp J KJ c s M w) (hc : c < 10000000)
    (h1 : s.ar ≠ []) (h2 : s.ar.getD (s.ar.length - 1) 0 < s.wi.length) (h3 : s.wi.getD (s.ar.getD (s.ar.length - 1) 0) 0 ≤ s.al) :
    Calls Tryz.prog 123 #[.agg #[.int .i64 K, .string X, .int .i64 Z, .slice A m cq], .pointer (some ⟨b + 5, 0, none⟩), .pointer (some ⟨b + 1, 0, none⟩), .pointer (some ⟨b + 2, 0, none⟩)] w fun e w' =>
      e = .returned (.tuple #[]) ∧ ∃ M', PlI b kp cp J KJ (c + 1) ⟨s.ar.take (s.ar.length - 1), s.wi.set (s.ar.getD (s.ar.length - 1) 0) (s.al - s.wi.getD (s.ar.getD (s.ar.length - 1) 0) 0), s.al⟩ M' w' ∧ (∀ g, M' g → M g ∨ w.heap.size ≤ g) ∧ Chg M w w' := by
  obtain ⟨A1, c1, A2, c2, ⟨ha, hao⟩, ⟨hw, hwo⟩, hA1, hA2, hne⟩ := hi.nums
  have hnum := hi.num
  have hl := hi.len
  have HI := hidE hi
  clear hi
  obtain ⟨ar, wi, al⟩ := s
  simp only at hnum ha hao hw hwo hl h1 h2 h3 ⊢
  obtain ⟨k, hk⟩ : ∃ k, ar.length = k + 1 := ⟨ar.length - 1, by have := List.length_pos_iff.2 h1; omega⟩
  obtain ⟨n2, hn2⟩ : ∃ n2, wi.length = n2 := ⟨_, rfl⟩
  rw [hk, Nat.add_sub_cancel] at h2 h3 ⊢
  rw [hk] at ha hao hl
  rw [hn2] at hw hwo hl h2
  obtain ⟨p, hp⟩ : ∃ p, ar.getD k 0 = p := ⟨_, rfl⟩
  obtain ⟨x, hx⟩ : ∃ x, wi.getD p 0 = x := ⟨_, rfl⟩
  rw [hp] at h2 h3 ⊢
  rw [hx] at h3 ⊢
  have ga := intV_get ar k (by omega)
  rw [hp] at ga
  have gw := intV_get wi p (by omega)
  rw [hx] at gw
  obtain ⟨g1, rfl, q1, q2, q3⟩ := own_cell hao (Nat.lt_succ_self k) ga
  obtain ⟨g2, rfl, r1, r2, r3⟩ := own_cell hwo h2 gw
  obtain ⟨x0, x1, x2⟩ := blk_facts1 hnum
  obtain ⟨y0, y1, y2⟩ := blk_facts1 ha
  obtain ⟨z0, z1, z2⟩ := blk_facts1 hw
  have u0 := q3 w rfl
  have v0 := r3 w rfl
  have hal : ∀ q, q < w.heap.size → (w.alloc (.cells #[.int .i64 K, .string X, .int .i64 Z, .slice A m cq] 25)).heap[q]? = w.heap[q]? := fun q hq => Below.heap_alloc _ _ _ hq
  have v1 : w.frozen? ⟨g2, p, none⟩ = false := by
    rcases hwo.2 with ⟨_, h0⟩ | ⟨g, cap, cur, hv, hg, hb, _⟩
    · omega
    · injection hv with hv
      injection hv with hv
      injection hv with hv
      subst hv
      exact frozen_of_row w g2 p cur _ hb
  have hcap : k + 1 ≤ c1 := by
    rcases hao.2 with ⟨_, h0⟩ | ⟨g, cap, cur, hv, hg, hb, h4, _⟩
    · omega
    · injection hv with _ _ hv
      omega
  have HAR := hidE ha
  have HAO := hidE hao
  have HWI := hidE hw
  have HWO := hidE hwo
  have HA1 := hidE hA1
  have HA2 := hidE hA2
  have HNE := hidE (hne _ _ rfl rfl)
  have HNUM := hidE hnum
  have HP := hidE hp
  have HX := hidE hx
  have HK := hidE hk
  have HN2 := hidE hn2
  clear hnum ha hao hw hwo hA1 hA2 hne ga gw q3 r3 hal hp hx hk hn2 h1
  go_enter Tryz.func123, Tryz.ntmps123
  go_wp2_with fail
  go_region
  all_goals
    go_wp2_with fail
  first | go_end0 | refine bodyPost_ret (results_none rfl _ _ _) rfl ?_
  have hi := HI.out
  have hg2 : g2 < w.heap.size := r2
  have hf : ∀ q, q < w.heap.size → q ≠ g2 → q ≠ b + 5 → ((((w.setCell ⟨g2, p, none⟩ (.int .i64 ((al : Int) - (x : Int)))).setCell ⟨b + 5, 0, none⟩ (.slice (some ⟨g1, 0, none⟩) k c1)).alloc (.cells #[.int .i64 K, .string X, .int .i64 Z, .slice A m cq] 25)).drew).heap[q]? = w.heap[q]? := fun q h1 h2 h3 =>
    (Below.heap_alloc _ _ q (by simp; exact h1)).trans ((Below.heap_setCell _ ⟨b + 5, 0, none⟩ _ q h3).trans (Below.heap_setCell w ⟨g2, p, none⟩ _ q h2))
  have hne12 : g1 ≠ g2 := HNE.out
  refine ⟨rfl, M, { isp := hi.isp.same (hf b hi.isp.lt (by omega) (by omega)), num := hi.num.same (hf _ x2 (by omega) (by omega)), cel := hi.cel.same (hf _ hi.cel.lt (by omega) (by omega)), nums := ⟨some ⟨g1, 0, none⟩, c1, some ⟨g2, 0, none⟩, c2, ⟨?_, ?_⟩, ⟨?_, ?_⟩, HA1.out, HA2.out, fun a a' h h' => by injection h with h; injection h' with h'; rw [← h, ← h']; exact hne12⟩, low := hi.low, jj := hJ w _ hi.jj (fun g hg => hf g (hi.all g (hi.kj g hg).1) (by have := (hi.kj g hg).2; omega) (by have := (hi.kj g hg).2; omega)), kj := hi.kj, all := fun g hg => by have := hi.all g hg; show g < (World.alloc _ _).heap.size; simp; omega, len := ?_ }, fun g hg => .inl hg, ?_⟩
  · rw [List.length_take, HK.out, Nat.min_eq_left (Nat.le_succ k)]
    have h1 : Blk (w.setCell ⟨g2, p, none⟩ (.int .i64 ((al : Int) - (x : Int)))) (b + 5) 68 #[.slice (some ⟨g1, 0, none⟩) (k + 1) c1] := HAR.out.far (p := ⟨g2, p, none⟩) (by show b + 5 ≠ g2; omega) _
    exact (Below.heap_alloc _ _ _ (by simp; exact y2)).trans (one_setCell h1)
  · rw [List.length_take, HK.out, Nat.min_eq_left (Nat.le_succ k)]
    have h1 := own_take HAO.out (Nat.le_succ k)
    rw [show (intV ar).take k = intV (ar.take k) by simp [intV, List.map_take]] at h1
    exact own_keepb h1 (fun a h => by injection h with h; rw [← h]; exact hf g1 q2 hne12 (by show g1 ≠ b + 5; omega))
  · rw [List.length_set, HN2.out]
    exact HWI.out.same (hf _ z2 (by omega) (by omega))
  · rw [List.length_set, HN2.out]
    have h1 := (HWO.out.stored p (.int .i64 ((al : Int) - (x : Int)))).1
    rw [show (intV wi).set p (.int .i64 ((al : Int) - (x : Int))) = intV (wi.set p (al - x)) by unfold intV; rw [List.map_set, Int.ofNat_sub h3]] at h1
    refine own_keepb h1 (fun a h => ?_)
    injection h with h
    rw [← h]
    exact (Below.heap_alloc _ _ _ (by simp; exact hg2)).trans (Below.heap_setCell _ ⟨b + 5, 0, none⟩ _ g2 (by show g2 ≠ b + 5; omega))
  · show (ar.take k).length ≤ c + 1 ∧ (wi.set p (al - x)).length ≤ c + 1 ∧ al ≤ c + 1
    rw [List.length_take, List.length_set, HK.out, HN2.out]
    omega
  · exact ((((Chg.refl M w).setCell (p := ⟨g2, p, none⟩) (.inr (HA2.out ⟨g2, 0, none⟩ rfl)) _).setCell (p := ⟨b + 5, 0, none⟩) (.inr hi.low.2.2.2.2) _).alloc _).drew

end Go.Proofs.YthgkpmgcikopnaaGreatDoor

/-
  Package types: places, on the way out: whatever part.
-/
namespace Go.Proofs.YthgkpmgcikopnaaGreatDoor
open Go.RowKit Lx Tx Go.Maps Go.WideMaps Go.Shelf
set_option maxRecDepth 100000

set_option maxHeartbeats 400000 in
theorem tc_placesStay (K : Int) (X : ByteArray) (Z : Int) (A : Option Addr) (m c : Nat) (x y z : Value) (w : World) (d5 : ((K : Int) == 5) = false) : Calls Tryz.prog 123 #[.agg #[.int .i64 K, .string X, .int .i64 Z, .slice A m c], x, y, z] w fun e w' => e = .returned (.tuple #[]) ∧ Below w.heap.size w w' := by
  go_enter Tryz.func123, Tryz.ntmps123
  go_wp2
  first | go_end0 | refine bodyPost_ret (results_none rfl _ _ _) rfl ?_
  exact ⟨rfl, (Below.refl _ w).alloc (Nat.le_refl _) _⟩

theorem vis_places2 (b kp : Nat) (cp : Array Value) (J : World → Prop) (KJ : Nat → Prop) (hJ : ∀ w w', J w → (∀ g, KJ g → w'.heap[g]? = w.heap[g]?) → J w') :
    VisP 123 #[.pointer (some ⟨b + 5, 0, none⟩), .pointer (some ⟨b + 1, 0, none⟩), .pointer (some ⟨b + 2, 0, none⟩)] (b + 3) (PlI b kp cp J KJ) plOK plLeave := by
  intro c s M env t S v w hi _ _ hv _ _ _ hc hp
  obtain ⟨K, X, Z, A, m, cq, rfl, hK, -, -, -, -⟩ := hv.parts
  by_cases h5 : kd t = 5
  · obtain ⟨h1, h2, h3⟩ := hp h5
    rw [show plLeave env t s = ⟨s.ar.take (s.ar.length - 1), s.wi.set (s.ar.getD (s.ar.length - 1) 0) (s.al - s.wi.getD (s.ar.getD (s.ar.length - 1) 0) 0), s.al⟩ from if_pos h5]
    exact tc_placesOut b kp cp J KJ c s M K Z X A m cq w (by rw [hK, h5]; rfl) hJ hi hc h1 h2 h3
  · rw [show plLeave env t s = s from if_neg h5]
    refine (tc_placesStay K X Z A m cq _ _ _ w (by rw [hK]; exact kF _ 5 h5)).mono ?_
    rintro e w' ⟨rfl, hb⟩
    exact ⟨rfl, M, hi.step hJ hb, fun g hg => .inl hg, Chg.of_below hb⟩

end Go.Proofs.YthgkpmgcikopnaaGreatDoor
