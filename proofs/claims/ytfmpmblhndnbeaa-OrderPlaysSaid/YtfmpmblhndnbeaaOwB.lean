/-
  Order: all that one comes to, as the document's groups find it.
-/
import Derived.Test.YtfmpmblhndnbeaaOwA
import Derived.Test.YtfmpmblhndnbeaaOdE
import Derived.Maps.AppendAt
namespace Go.Proofs.Ytfmpmblhndnbeaa
open Go.RowKit Go.Proofs.Ytfmpmblhndnbeaa.Od
set_option maxRecDepth 100000
theorem int_info : (Try.prog.info? 3).map (fun i => (i.zero, i.size, i.bytes)) = some (some (.int .i64 0), 1, 8) := by kernel_rfl
theorem size_alloc (w : World) (o : Obj) : (w.alloc o).heap.size = w.heap.size + 1 := by simp
theorem own_shape {w : World} {base : Nat} {e : TypeId} {size n : Nat} {v : Value} {xs : List Value} (h : w.ownsRow base e size v n xs) : ∃ a c, v = .slice a n c := by
  rcases h.2 with ⟨rfl, h0⟩ | ⟨g, cap, cur, rfl, _⟩
  · exact ⟨none, 0, by rw [h0]⟩
  · exact ⟨_, _, rfl⟩
theorem own_cells {w : World} {B : Nat} {e : TypeId} {size n : Nat} {v : Value} {xs : List Value} (h : w.ownsRow B e size v n xs) (g : Nat) (hg : v.ownBlock = some g) : B ≤ g ∧ g < w.heap.size ∧ ∃ cur, w.heap[g]? = some (.cells cur e (0, 0)) := by
  rcases h.2 with ⟨rfl, _⟩ | ⟨g', cap, cur, rfl, h1, h2, _⟩
  · cases hg
  · have : g' = g := by simpa [Value.ownBlock] using hg
    subst this
    exact ⟨h1, (Array.getElem?_eq_some_iff.1 h2).1, cur, h2⟩
theorem own_keepv {w w' : World} {B : Nat} {e : TypeId} {size n : Nat} {v : Value} {xs : List Value} (h : w.ownsRow B e size v n xs) (hk : ∀ g, v.ownBlock = some g → w'.heap[g]? = w.heap[g]?) : w'.ownsRow B e size v n xs := by
  obtain ⟨h0, h⟩ := h
  refine ⟨h0, ?_⟩
  rcases h with h | ⟨g, cap, cur, hv, hg, hb, h⟩
  · exact .inl h
  · exact .inr ⟨g, cap, cur, hv, hg, (hk g (by rw [hv]; rfl)).trans hb, h⟩
theorem own_rowA {w : World} {base n : Nat} {v : Value} {l : List Value} {e : TypeId} (h : w.ownsRow base e 1 v n l) : RowA w v l := by
  have hc := fun g hg => h.cells (g := g) hg
  have hlt := h.lt
  have hl := h.1
  rcases h.2 with ⟨rfl, h0⟩ | ⟨g, cap, cur, rfl, _⟩
  · exact ⟨none, 0, by rw [hl, h0], fun hp => by omega⟩
  · refine ⟨_, _, by rw [hl, Nat.mul_one], fun _ => ⟨⟨g, 0, none⟩, rfl, (hlt g rfl).2, fun j u hu => ?_⟩⟩
    exact hc g rfl j u hu
theorem owns_one (w : World) (e : TypeId) (x : Value) : (w.alloc (.cells #[x] e)).ownsRow w.heap.size e 1 (.slice (some ⟨w.heap.size, 0, none⟩) 1 1) 1 [x] :=
  ⟨rfl, .inr ⟨w.heap.size, 1, #[x], rfl, Nat.le_refl _, heap_alloc_new w _, Nat.le_refl _, by unfold maxLen; omega, rfl, rfl⟩⟩
theorem intV_snoc (l : List Nat) (x : Nat) : intV (l ++ [x]) = intV l ++ [.int .i64 (x : Nat)] := by simp [intV]
/-- the uses, as they lie -/
def RdU (w : World) (v : Value) (u : Uses) : Prop :=
  ∃ A c, v = .slice A u.length c ∧ (0 < u.length → ∃ a, A = some a ∧ a.block < w.heap.size ∧ ∀ j l, u[j]? = some l → ∃ x, w.cell? (a.add j) = some x ∧ RowA w x (intV l))
theorem RdU.below {w w' : World} {v : Value} {u : Uses} (h : RdU w v u) (hb : Below w.heap.size w w') : RdU w' v u := by
  obtain ⟨A, c, h1, h2⟩ := h
  refine ⟨A, c, h1, fun hp => ?_⟩
  obtain ⟨a, h3, h4, h5⟩ := h2 hp
  refine ⟨a, h3, Nat.lt_of_lt_of_le h4 hb.size, fun j l hu => ?_⟩
  obtain ⟨x, h6, h7⟩ := h5 j l hu
  exact ⟨x, (hb.cell (p := a.add j) (by rw [addr_add_block]; exact h4)).trans h6, h7.below hb⟩
theorem od_push {w w' : World} {B n : Nat} {e : TypeId} {v : Value} {o : Obj} {xs : List Value} (hB : B ≤ w.heap.size) (o1 : w.ownsRow B e 1 v n xs) (hgr : (w.alloc o).grownBy w' v.ownBlock) : Below B w w' :=
  Below.grown ((Below.refl B w).alloc hB o) hgr (by rw [size_alloc]; show B ≤ w.heap.size + 1; omega) (fun k hk => (own_cells o1 k hk).1)

theorem addNew_snoc (S l : List Nat) (y : Nat) : addNew S (l ++ [y]) = if (addNew S l).contains y then addNew S l else addNew S l ++ [y] := by
  induction l generalizing S with
  | nil => simp [addNew]
  | cons b l ih => rw [List.cons_append, addNew, ih, addNew]
theorem addNew_len {u : Uses} {i p x k : Nat} {S l : List Nat} (h : CInv u i p S) (hv : Valid u) (hi : i < u.length) (hl : u[x]? = some l) : (addNew S (l.take k)).length ≤ u.length := by
  have := (addNew_nodup S (l.take k) h.nd).length_le_of_subset (l₂ := List.range u.length) (List.subset_def.2 (fun {a} ha => by
    rw [List.mem_range]
    rcases (addNew_mem _ _ _).1 ha with h1 | h1
    · exact rch_lt hv (h.rc a h1) hi
    · exact hv x a ⟨l, hl, List.mem_of_mem_take h1⟩))
  simpa using this
theorem take_snoc {l : List Nat} {k y : Nat} (h : l[k]? = some y) : l.take (k + 1) = l.take k ++ [y] := by
  rw [List.take_add_one, h]; rfl

set_option maxHeartbeats 1600000 in
theorem od_comes (u : Uses) (i : Nat) (v : Value) (w : World) (hU : RdU w v u) (hv : Valid u) (hi : i < u.length) (hn : u.length ≤ 1000) (hl : ∀ l ∈ u, l.length ≤ 1000000) :
    Calls Try.prog 16 #[v, .int .i64 (i : Nat)] w fun e w' => ∃ S v', e = .returned v' ∧ w'.ownsRow w.heap.size 3 1 v' S.length (intV S) ∧ (∀ j, j ∈ S ↔ Rch u i j) ∧ S.Nodup ∧ Below w.heap.size w w' := by
  have HU := hidE hU
  obtain ⟨A, c, rfl, hp⟩ := hU
  obtain ⟨n, hN⟩ : ∃ n, u.length = n := ⟨_, rfl⟩
  have HN := hidE hN
  rw [hN] at hp hi hn ⊢
  obtain ⟨a, rfl, ha, hc⟩ := hp (by omega)
  obtain ⟨i0, hi0, hz0, hz1, hz2⟩ := info_parts int_info
  have HC := hidE hc
  have HV := hidE hv
  have HI := hidE hi
  have HL := hidE hl
  have HA := hidE ha
  clear hc hv hN hl ha hp
  go_enter Try.func16, Try.ntmps16
  go_wp2_with fail
  have hO : Hid ((w.alloc (.cells #[.int .i64 (i : Nat)] 3)).ownsRow w.heap.size 3 1 (.slice (some ⟨w.heap.size, 0, none⟩) 1 1) [i].length (intV [i])) := hidE (owns_one w _ _)
  have hb0 : Hid (Below w.heap.size w (w.alloc (.cells #[.int .i64 (i : Nat)] 3))) := hidE ((Below.refl _ _).alloc (Nat.le_refl _) _)
  go_loopg [5, 6] n (fun gg v5 v6 wr => ∃ (p : Nat) (S : List Nat), gg = n - p ∧ v6 = .int .i64 (p : Nat) ∧ p ≤ n ∧ Hid (CInv u i p S) ∧ Hid (wr.ownsRow w.heap.size 3 1 v5 S.length (intV S)) ∧ Hid (Below w.heap.size w wr))
  case atStart => exact ⟨0, [i], rfl, rfl, by omega, hidE (.begin i), hO, hb0⟩
  case round =>
    obtain ⟨p, S, rfl, rfl, hpn, hI, hOwn, hB⟩ := hrel
    obtain ⟨m, hm⟩ : ∃ m, S.length = m := ⟨_, rfl⟩
    rw [hm] at hOwn
    obtain ⟨A5, c5, rfl⟩ := own_shape hOwn.out
    have hlen := hI.out.len HV.out (by rw [HN.out]; exact HI.out)
    rw [HN.out, hm] at hlen
    have HM := hidE hm
    clear hO hb0
    by_cases hlt : p < m
    · obtain ⟨S0, hS0⟩ : ∃ x, S[p]? = some x := ⟨_, List.getElem?_eq_getElem (by omega)⟩
      have hx : S0 < n := by
        have := rch_lt HV.out (hI.out.rc S0 (List.mem_iff_getElem?.2 ⟨p, hS0⟩)) (by rw [HN.out]; exact HI.out)
        rw [HN.out] at this; exact this
      obtain ⟨l, hl⟩ : ∃ l, u[S0]? = some l := ⟨_, List.getElem?_eq_getElem (by rw [HN.out]; exact hx)⟩
      have hB' := hB.out
      have hrow := own_rowA hOwn.out
      obtain ⟨B5, d5, e5, hp5⟩ := hrow
      rw [intV_len, hm] at e5 hp5
      injection e5 with e5 _ e5'
      subst e5 e5'
      obtain ⟨a5, rfl, hg5, hc5⟩ := hp5 (by omega)
      have hck := hc5 p _ (by have := intV_at S p (by omega); rw [show S[p] = S0 by have := List.getElem?_eq_getElem (l := S) (i := p) (by omega); rw [hS0] at this; injection this with this; exact this.symm] at this; exact this)
      obtain ⟨xv, hxc, hxr⟩ := HC.out S0 l hl
      have hxc' : wr.cell? (a.add S0) = some xv := (hB'.cell (p := a.add S0) (by rw [addr_add_block]; exact HA.out)).trans hxc
      obtain ⟨Al, cl, rfl, hpl⟩ := hxr
      rw [intV_len] at *
      obtain ⟨q, hq⟩ : ∃ q, l.length = q := ⟨_, rfl⟩
      rw [hq] at hxc' hpl
      have hk1 : a5.add (p * 1) = a5.add p := by rw [Nat.mul_one]
      have hk2 : a.add (S0 * 1) = a.add S0 := by rw [Nat.mul_one]
      have HPL := hidE hpl
      have HQ := hidE hq
      have HLL := hidE hl
      have HS0 := hidE hS0
      have hql : q ≤ 1000000 := by rw [← hq]; exact HL.out l (List.mem_iff_getElem?.2 ⟨S0, hl⟩)
      clear hpl hq hl hS0 hxc hc5 hg5 hB' hm
      go_wp2_with fail
      go_loopg [5, 8] q (fun gg v5 v8 wx => ∃ (k : Nat) (T : List Nat), gg = q - k ∧ v8 = .int .i64 (k : Nat) ∧ k ≤ q ∧ Hid (T = addNew S (l.take k)) ∧ Hid (wx.ownsRow w.heap.size 3 1 v5 T.length (intV T)) ∧ Hid (Below w.heap.size w wx))
      case atStart => exact ⟨0, S, rfl, rfl, by omega, hidE (by simp [addNew]), hidE (by rw [HM.out]; exact hOwn.out), hB⟩
      case round =>
        obtain ⟨k, T, rfl, rfl, hkq, hT, hO2, hB2⟩ := hrel
        obtain ⟨mt, hmt⟩ : ∃ mt, T.length = mt := ⟨_, rfl⟩
        rw [hmt] at hO2
        obtain ⟨A6, c6, rfl⟩ := own_shape hO2.out
        have hml : mt ≤ n := by
          rw [← hmt, hT.out, ← HN.out]
          exact addNew_len hI.out HV.out (by rw [HN.out]; exact HI.out) HLL.out
        have HMT := hidE hmt
        clear hmt
        by_cases hkl : k < q
        · obtain ⟨y, hy⟩ : ∃ y, l[k]? = some y := ⟨_, List.getElem?_eq_getElem (by rw [HQ.out]; exact hkl)⟩
          obtain ⟨al, rfl, hgl, hcl⟩ := HPL.out (by omega)
          have hcy : wr.cell? (al.add k) = some (.int .i64 (y : Nat)) := (hB2.out.cell (p := al.add k) (by rw [addr_add_block]; exact hgl)).trans (hcl k _ (by simp [intV, hy]))
          have hk3 : al.add (k * 1) = al.add k := by rw [Nat.mul_one]
          have hC := od_has (.slice A6 mt c6) T y wr (own_rowA hO2.out) (by rw [HMT.out]; omega)
          obtain ⟨b, hb⟩ : ∃ b, decide (y ∈ T) = b := ⟨_, rfl⟩
          rw [hb] at hC
          have HCC := hidE hC
          have hnext : Hid (addNew S (l.take (k + 1)) = if b then T else T ++ [y]) := hidE (by
            rw [take_snoc hy, addNew_snoc, ← hT.out]
            have : T.contains y = b := by rw [← hb]; simp
            rw [this])
          clear hcl hC hb hy
          go_wp2_with fail
          refine HCC.out.mono ?_
          rintro e w3 ⟨rfl, rfl⟩
          clear HCC
          cases b with
          | true =>
            go_wp2_with fail
            go_roundg (q - (k + 1))
            case measure => omega
            case rel => exact ⟨k + 1, T, rfl, by go_num, by omega, hidE (by rw [hnext.out]; rfl), hidE (by rw [HMT.out]; exact hO2.out), hB2⟩
          | false =>
            have hO3 := hidE (World.ownsRow.alloc (w := wr) hO2.out (.cells #[.int .i64 (y : Nat)] 3))
            have hBs : Hid (w.heap.size ≤ wr.heap.size) := hidE hB2.out.size
            go_wp2_with (at_builtin; refine wpList_append_own_at _ rfl (.tmp 39) (.tmp 44) 30 rfl w.heap.size 3 i0 _ 1 8 Try.underlying30 hi0 hz0 hz1 hz2 rfl (by decide) _ mt (intV T) rfl hO3.out ⟨wr.heap.size, 0, none⟩ 1 1 [.int .i64 (y : Nat)] rfl rfl (World.news_of_block (heap_alloc_new _ _)) (by intro u hu; simp at hu; subst hu; rfl) (by unfold maxLen; omega) (by omega) (by have := hBs.out; simp; omega) ?_; intro v3 w5 hown3 hgrow _ _; have HO3 := hidE hown3; have HG3 := hidE hgrow; clear hown3 hgrow)
            go_roundg (q - (k + 1))
            case measure => omega
            case rel => exact ⟨k + 1, T ++ [y], rfl, by go_num, by omega, hidE (by rw [hnext.out]; rfl), hidE (by rw [intV_snoc, List.length_append, HMT.out]; exact HO3.out), hidE (hB2.out.trans (od_push hBs.out hO2.out HG3.out))⟩
        · have hkk : k = q := by omega
          subst hkk
          have hst : Hid (CInv u i (p + 1) T) := hidE (by
            have h1 := hI.out.step HS0.out
            rw [List.getD_eq_getElem?_getD, HLL.out] at h1
            rw [hT.out, List.take_of_length_le (by rw [HQ.out]; exact Nat.le_refl _)]
            exact h1)
          go_wp2_with fail
          go_roundg (n - (p + 1))
          case measure => omega
          case rel => exact ⟨p + 1, T, rfl, by go_num, by omega, hst, hidE (by rw [HMT.out]; exact hO2.out), hB2⟩
    · go_wp2_with fail
      go_ret
      exact ⟨S, _, rfl, by rw [HM.out]; exact hOwn.out, fun j => hI.out.done (by rw [HM.out]; omega) j, hI.out.nd, hB.out⟩
end Go.Proofs.Ytfmpmblhndnbeaa
