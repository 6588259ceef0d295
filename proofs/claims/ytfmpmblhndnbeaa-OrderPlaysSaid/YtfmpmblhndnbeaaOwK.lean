/-
  Order: what can be come to is told by a closure, once each: the walks.
-/
import Derived.Test.YtfmpmblhndnbeaaOwJ
import Derived.Test.YtfmpmblhndnbeaaOwH
namespace Go.Proofs.Ytfmpmblhndnbeaa
open Go.RowKit Go.Shelf Go.Proofs.Ytfmpmblhndnbeaa.Od
set_option maxRecDepth 100000

/-- the uses, and what is met -/
structure S0 (T bt bm mm n : Nat) (vt : Value) (to : Uses) (M : Nat → Bool) (w : World) : Prop where
  tb : Blk w bt 22 #[vt]
  rd : RdB T w vt (to.map intV)
  mb : Blk w bm 50 #[.slice (some ⟨mm, 0, none⟩) n n]
  mt : Blk w mm 4 (metV n M).toArray
  t1 : T ≤ mm
  m1 : mm ≠ bt
  m2 : mm ≠ bm
theorem S0.lt {T bt bm mm n : Nat} {vt : Value} {to : Uses} {M : Nat → Bool} {w : World} (h : S0 T bt bm mm n vt to M w) : bt < w.heap.size ∧ bm < w.heap.size ∧ mm < w.heap.size := ⟨h.tb.lt, h.mb.lt, h.mt.lt⟩
/-- what changes nothing of it -/
theorem S0.keep {T bt bm mm n : Nat} {vt : Value} {to : Uses} {M : Nat → Bool} {w w' : World} (h : S0 T bt bm mm n vt to M w) {P : Nat → Prop} (hc : Chg P w w') (hP : ∀ g, P g → T ≤ g ∧ g ≠ bt ∧ g ≠ bm ∧ g ≠ mm) (hT : T ≤ w.heap.size) : S0 T bt bm mm n vt to M w' where
  tb := h.tb.chg hc (fun e => (hP _ e).2.1 rfl)
  rd := h.rd.below (hc.toBelow hT (fun k hk e => by have := (hP k e).1; omega)) (Nat.le_refl _)
  mb := h.mb.chg hc (fun e => (hP _ e).2.2.1 rfl)
  mt := h.mt.chg hc (fun e => (hP _ e).2.2.2 rfl)
  t1 := h.t1
  m1 := h.m1
  m2 := h.m2
def usedV (bm bt : Nat) : Value := .func (.func 31) #[] #[.pointer (some ⟨bm, 0, none⟩), .pointer (some ⟨bt, 0, none⟩)]

set_option maxHeartbeats 1600000 in
theorem ow_used (T bt bm mm n ct : Nat) (at_ : Option Addr) (to : Uses) (hv : Valid to) (hn : to.length = n) (hn2 : n ≤ 1000) (hlen : ∀ l ∈ to, l.length ≤ 1001000000) (M : Nat → Bool) (x : Nat) (w : World) (hx : x < n)
    (hS : S0 T bt bm mm n (.slice at_ n ct) to M w) (hT : T ≤ w.heap.size) :
    Calls Try.prog 31 #[.int .i64 (x : Nat), .pointer (some ⟨bm, 0, none⟩), .pointer (some ⟨bt, 0, none⟩)] w fun e w' => ∃ M' a v', e = .returned v' ∧ DFL to M [x] M' a ∧ S0 T bt bm mm n (.slice at_ n ct) to M' w' ∧ w'.ownsRow w.heap.size 3 1 v' a.length (intV a) ∧ a.length ≤ 1000 ∧ Chg (fun g => g = mm) w w' := by
  obtain ⟨l1, l2, l3⟩ := hS.lt
  obtain ⟨a1, a2, hs, hb⟩ := laid2 w (.cells #[.slice none 0 0] 30) (.cells #[reachV bm bt (w.heap.size + 1) w.heap.size] 38)
  have hS1 := hS.keep (P := fun _ => False) (Chg.of_below hb) (fun g h => h.elim) hT
  have hmf : ∀ (fn : Fn) (first cap : Array Value) (w : World), (Instr.makeFunc fn first cap).run Try.prog w = .ok (.func fn first cap) w := fun _ _ _ _ => rfl
  have ek : ∀ args w, (callFunc 32 args).run Try.prog w = .ok (.enter 32 args) w := enters_of Try.func32 (by kernel_rfl) rfl
  have hSt : St T bt bm mm (w.heap.size + 1) w.heap.size (w.heap.size + 2) n (.slice at_ n ct) to M [] ((w.alloc (.cells #[.slice none 0 0] 30)).alloc (.cells #[reachV bm bt (w.heap.size + 1) w.heap.size] 38)) :=
    { tb := hS1.tb, rd := hS1.rd, mb := hS1.mb, mt := hS1.mt, rb := a2, ob := ⟨_, a1, World.ownsRow_nil _ _ _ _⟩ }
  have hsep : Sep T bt bm mm (w.heap.size + 1) w.heap.size (w.heap.size + 2) :=
    { t1 := hS.t1, t2 := hT, m1 := hS.m1, m2 := hS.m2, m3 := by omega, m4 := by omega, o1 := by omega, o2 := by omega, o3 := by omega, d1 := by omega, d2 := by omega, d3 := by omega, d4 := by omega, d5 := by omega, d6 := by omega }
  have hcall := ow_reach T bt bm mm (w.heap.size + 1) w.heap.size (w.heap.size + 2) n ct at_ to hsep hv hn hn2 hlen (unm n M + 1) M [] x _ (Nat.lt_succ_self _) hx hSt ⟨.nil, by simp, by simp⟩ (by omega)
  unfold reachV at hcall
  have HC := hidE hcall
  have HB := hidE hb
  have HS := hidE hs
  have HV := hidE hv
  have HN := hidE hn
  have HS0 := hidE hS
  clear a1 a2 hS1 hSt hcall hb hs hv hn hlen hS hsep
  go_enter Try.func31, Try.ntmps31
  go_wp2_with fail
  refine HC.out.mono ?_
  rintro e w1 ⟨rfl, M', a, d, s, c⟩
  obtain ⟨v, o1, o2⟩ := s.ob
  obtain ⟨z1, -, -⟩ := blk_facts1 o1
  have hal : a.length ≤ n := by
    have := d.nodup.length_le_of_subset (l₂ := List.range n) (List.subset_def.2 (fun {a} ha => List.mem_range.2 (by have := d.lt HV.out (fun y hy => by rw [List.mem_singleton.1 hy, HN.out]; exact hx) a ha; rw [HN.out] at this; exact this)))
    simpa using this
  rw [List.nil_append] at o2 s
  have HD := hidE d
  have HO := hidE (own_base o2 (show w.heap.size ≤ w.heap.size + 2 by omega))
  have HSS := hidE (show S0 T bt bm mm n (.slice at_ n ct) to M' w1 from { tb := s.tb, rd := s.rd, mb := s.mb, mt := s.mt, t1 := HS0.out.t1, m1 := HS0.out.m1, m2 := HS0.out.m2 })
  have HCH := hidE (show Chg (fun g => g = mm) w w1 from (Chg.of_below HB.out).trans' c (fun i hi h => by
    rcases h with h | h | h
    · exact h
    · omega
    · omega))
  clear HC d s c o1 o2
  go_wp2_with fail
  go_ret
  exact ⟨M', a, v, rfl, HD.out, HSS.out, HO.out, by omega, HCH.out⟩

set_option maxHeartbeats 800000 in
theorem ow_reacher (T n ct : Nat) (at_ : Option Addr) (to : Uses) (hn2 : n ≤ 1000) (w : World) (hU : RdB T w (.slice at_ n ct) (to.map intV)) (hT : T ≤ w.heap.size) :
    Calls Try.prog 25 #[.slice at_ n ct] w fun e w' => e = .returned (usedV (w.heap.size + 2) w.heap.size) ∧ S0 T w.heap.size (w.heap.size + 2) (w.heap.size + 1) n (.slice at_ n ct) to nomet w' ∧ w'.heap.size = w.heap.size + 3 ∧ Below w.heap.size w w' := by
  have hmf : ∀ (fn : Fn) (first cap : Array Value) (w : World), (Instr.makeFunc fn first cap).run Try.prog w = .ok (.func fn first cap) w := fun _ _ _ _ => rfl
  have hmk := fun W => make_bools n hn2 W
  obtain ⟨a1, a2, a3, hs, hb⟩ := laid3 w (.cells #[.slice at_ n ct] 22) (.cells (List.replicate n (.bool false)).toArray 4) (.cells #[.slice (some ⟨w.heap.size + 1, 0, none⟩) n n] 50)
  rw [← metV_none] at a2
  have hR := hU.below hb hT
  have H1 := hidE a1
  have H2 := hidE a2
  have H3 := hidE a3
  have HR := hidE hR
  have HB := hidE hb
  have HS := hidE hs
  clear a1 a2 a3 hR hb hs hU
  go_enter Try.func25, Try.ntmps25
  go_wp2_with fail
  go_ret
  refine ⟨rfl, ?_, ?_, ?_⟩
  · rw [metV_none] at H2
    exact { tb := H1.out, rd := HR.out, mb := H3.out, mt := by rw [metV_none]; exact H2.out, t1 := by omega, m1 := by omega, m2 := by omega }
  · exact HS.out
  · exact HB.out
end Go.Proofs.Ytfmpmblhndnbeaa
