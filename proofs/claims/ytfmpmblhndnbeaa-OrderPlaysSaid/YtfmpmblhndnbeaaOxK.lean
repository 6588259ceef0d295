/-
  Order: the document's groups: the walk.
-/
import Derived.Test.YtfmpmblhndnbeaaOxJ
namespace Go.Proofs.Ytfmpmblhndnbeaa
open Go.RowKit Go.Shelf Go.ChangeShapes Go.WideShapes Go.Proofs.Ytfmpmblhndnbeaa.Od
set_option maxRecDepth 100000

def rk (u : Uses) (told : List Nat) (i k : Nat) : Bool := (List.range k).all fun q => !rb u i q || (rb u q i || told.contains q)
theorem rk_succ (u : Uses) (told : List Nat) (i k : Nat) : rk u told i (k + 1) = (rk u told i k && (!rb u i k || (rb u k i || told.contains k))) := by
  unfold rk
  rw [List.range_succ, List.all_append]
  simp
theorem rb_dec {u : Uses} (hv : Valid u) {i : Nat} (hi : i < u.length) {S : List Nat} (hS : ∀ j, j ∈ S ↔ Rch u i j) (k : Nat) : decide (k ∈ S) = rb u i k := by
  by_cases h : Rch u i k
  · rw [(rb_iff hv hi k).2 h, decide_eq_true ((hS k).2 h)]
  · have h1 : rb u i k = false := by
      cases hr : rb u i k with
      | false => rfl
      | true => exact absurd ((rb_iff hv hi k).1 hr) h
    rw [h1, decide_eq_false (fun e => h ((hS k).1 e))]
theorem contains_dec (l : List Nat) (k : Nat) : l.contains k = decide (k ∈ l) := by simp
/-- all things' reach, told so far -/
def AllS (u : Uses) (S : List (List Nat)) : Prop := ∀ (i : Nat) (s : List Nat), S[i]? = some s → (∀ j, j ∈ s ↔ Rch u i j) ∧ s.Nodup
theorem AllS.push {u : Uses} {S : List (List Nat)} (h : AllS u S) {s : List Nat} (h1 : ∀ j, j ∈ s ↔ Rch u S.length j) (h2 : s.Nodup) : AllS u (S ++ [s]) := by
  intro i t ht
  rcases Nat.lt_or_ge i S.length with hlt | hge
  · rw [List.getElem?_append_left hlt] at ht
    exact h i t ht
  · rw [List.getElem?_append_right hge] at ht
    cases e : i - S.length with
    | zero =>
      rw [e] at ht
      simp at ht
      subst ht
      have : i = S.length := by omega
      rw [this]
      exact ⟨h1, h2⟩
    | succ n => rw [e] at ht; simp at ht
/-- the next group -/
theorem pg_told {u : Uses} {l : List (List Nat)} (p : PG u l) (hv : Valid u) {n i : Nat} (hn : u.length = n) (hi : i < n) (hni : i ∉ l.flatten) (hr : rk u l.flatten i n = true) (hq : ∀ q, q < i → q ∈ l.flatten ∨ rk u l.flatten q n = false) :
    PG u (l ++ [grp n (rb u) i]) ∧ l.flatten.length < (l ++ [grp n (rb u) i]).flatten.length ∧ (l ++ [grp n (rb u) i]).flatten.length ≤ n := by
  have hil : i < u.length := by omega
  have hrd : ∀ q, q < u.length → (rk u l.flatten q n = true ↔ Ready u l q) := fun q hq => by rw [← hn]; exact readyB_iff hv l hq
  have hg := grp_mem (f := rb u) hn hv (fun a k ha => rb_iff hv (by omega) k) hi
  have hp := p.push hv hil hni ((hrd i hil).1 hr) (fun q hqi hqn hqr => by
    rcases hq q hqi with h | h
    · exact hqn h
    · rw [(hrd q (by omega)).2 hqr] at h; cases h) _ (grp_up _ _ _) hg
  refine ⟨hp, ?_, by have := hp.flat_le; omega⟩
  have : 0 < (grp n (rb u) i).length := List.length_pos_of_mem ((hg i).2 (.refl u i))
  simp only [List.flatten_append, List.length_append, List.flatten_cons, List.flatten_nil, List.append_nil]
  omega
theorem pg_stuck {u : Uses} {l : List (List Nat)} (p : PG u l) (hv : Valid u) {n : Nat} (hn : u.length = n) (hl : l.flatten.length < n) (hq : ∀ q, q < n → q ∈ l.flatten ∨ rk u l.flatten q n = false) : False := by
  obtain ⟨i, hi, hni, hr, _⟩ := p.least_ready hv (by omega)
  rcases hq i (by omega) with h | h
  · exact hni h
  · have := (readyB_iff hv l hi).2 hr
    unfold readyB at this
    rw [hn] at this
    unfold rk at h
    rw [this] at h; cases h
theorem grp_in (n : Nat) (f : Nat → Nat → Bool) (i : Nat) : (grp n f i).length ≤ n := by
  unfold grp
  exact Nat.le_trans (List.length_filter_le _ _) (by simp)

theorem int_one {l : List Nat} : ∀ u ∈ intV l, u.oneCell' = true := by
  intro u hu
  simp only [intV, List.mem_map] at hu
  obtain ⟨x, _, rfl⟩ := hu
  rfl
theorem tell_low {Z : Nat} {l : List (List Nat)} {tv ov : Value} {W : World} (h : MS Z l tv ov W) : ∀ b, ov.ownBlock = some b → b < W.heap.size := fun b hb => by
  obtain ⟨vs, h1, _⟩ := h.out
  exact (own_more h1 b hb).2
theorem tell_size {W W2 : World} {o : Obj} {r : Option Nat} (h : (W.alloc o).grownBy W2 r) : W.heap.size + 1 ≤ W2.heap.size := by
  have := h.size
  rw [size_alloc] at this
  exact this
theorem tell_own {Z m : Nat} {l : List (List Nat)} {tv ov : Value} {W W2 : World} {o : Obj} (h : MS Z l tv ov W) (hm : l.flatten.length = m) (hg : (W.alloc o).grownBy W2 ov.ownBlock) : W2.ownsRow Z 3 1 tv m (intV l.flatten) := by
  have h0 := h.told
  rw [hm] at h0
  refine own_keepv h0 fun g hg2 => ?_
  have hlt := (own_more h0 g hg2).2
  exact (hg.block g (by rw [size_alloc]; omega) (fun e => h.sep g hg2 e.symm)).trans (heap_alloc_old W o hlt)
theorem tell_src {Y gb gl c14 : Nat} {l : List Nat} {ov : Value} {W W2 : World} {o : Obj} (hlow : ∀ b, ov.ownBlock = some b → b < Y) (hO : W.ownsRow Y 3 1 (.slice (some ⟨gb, 0, none⟩) gl c14) gl (intV l)) (hg : (W.alloc o).grownBy W2 ov.ownBlock) :
    ∀ (j : Nat) (u : Value), (intV l)[j]? = some u → W2.cell? ((⟨gb, 0, none⟩ : Addr).add j) = some u := by
  have hk : W2.ownsRow Y 3 1 (.slice (some ⟨gb, 0, none⟩) gl c14) gl (intV l) := own_keepv hO fun g hg2 => by
    have h1 := own_more hO g hg2
    exact (hg.block g (by rw [size_alloc]; omega) (fun e => by have := hlow g e.symm; omega)).trans (heap_alloc_old W o h1.2)
  intro j u hu
  obtain ⟨A, c, e, hp⟩ := own_rowA hk
  have hj : j < (intV l).length := (List.getElem?_eq_some_iff.1 hu).1
  obtain ⟨a, rfl, _, hc⟩ := hp (by omega)
  injection e with e
  injection e with e
  subst e
  exact hc j u hu

set_option maxHeartbeats 6400000 in
theorem ow_Ref (v : Value) (z : List (List Int)) (w : World) (h : RdR w v (z.map zV)) (hn : z.length ≤ 500) (hl : ∀ l ∈ z, l.length ≤ 1000000) :
    Calls Try.prog 10 #[v] w (GrPost z w) := by
  obtain ⟨i0, hi0, hz0, hz1, hz2⟩ := info_parts int_info
  obtain ⟨j0, hj0, hy0, hy1, hy2⟩ := info_parts row_info
  have hsh := h
  obtain ⟨A, c, rfl, hp⟩ := hsh
  rw [List.length_map] at hp ⊢
  obtain ⟨n, hN⟩ : ∃ n, z.length = n := ⟨_, rfl⟩
  rw [List.length_map, hN] at h
  rw [hN] at hn hp ⊢
  have HH := hidE h
  have HP := hidE hp
  have HN := hidE hN
  have HL := hidE hl
  have d5 : decide ((500 : Int) < (n : Nat)) = false := by simp; omega
  clear h hp hN hl
  go_enter Try.func10, Try.ntmps10
  go_wp2_with fail
  go_loopg [5] n (fun gg vi wr => ∃ i : Nat, gg = n - i ∧ vi = .int .i64 (i : Nat) ∧ i ≤ n ∧ wr = w ∧ Hid ((z.take i).all (fun l => !l.any (offB n)) = true))
  case atStart => exact ⟨0, rfl, rfl, by omega, rfl, hidE (by simp)⟩
  case round =>
    obtain ⟨i, rfl, rfl, hi, rfl, hall⟩ := hrel
    by_cases hlt : i < n
    · obtain ⟨a, rfl, hab, hcc⟩ := HP.out (by omega)
      obtain ⟨l, hl⟩ : ∃ l, z[i]? = some l := ⟨_, List.getElem?_eq_getElem (by rw [HN.out]; exact hlt)⟩
      obtain ⟨x, hxc, A2, c2, e2, hp2⟩ := hcc i (zV l) (by rw [List.getElem?_map, hl]; rfl)
      rw [zV_len] at e2 hp2
      subst e2
      have hk1 : a.add (i * 1) = a.add i := by rw [Nat.mul_one]
      obtain ⟨q, hq⟩ : ∃ q, l.length = q := ⟨_, rfl⟩
      have hql : q ≤ 1000000 := by rw [← hq]; exact HL.out l (List.mem_iff_getElem?.2 ⟨i, hl⟩)
      rw [hq] at hxc hp2
      have HLI := hidE hl
      have HQ := hidE hq
      have HP2 := hidE hp2
      clear hcc hl hq hp2 hab
      go_wp2_with fail
      go_loopg [6] q (fun gg vk wx => ∃ k : Nat, gg = q - k ∧ vk = .int .i64 (k : Nat) ∧ k ≤ q ∧ wx = wr ∧ Hid ((l.take k).any (offB n) = false))
      case atStart => exact ⟨0, rfl, rfl, by omega, rfl, hidE (by simp)⟩
      case round =>
        obtain ⟨k, rfl, rfl, hk, rfl, hany⟩ := hrel
        by_cases hkq : k < q
        · obtain ⟨a2, rfl, hab2, hcc2⟩ := HP2.out (by omega)
          obtain ⟨y, hy⟩ : ∃ y, l[k]? = some y := ⟨_, List.getElem?_eq_getElem (by rw [HQ.out]; exact hkq)⟩
          have hcy : wr.cell? (a2.add k) = some (.int .i64 y) := hcc2 k _ (zV_at hy)
          have hk2 : a2.add (k * 1) = a2.add k := by rw [Nat.mul_one]
          have HY := hidE hy
          clear hcc2 hab2 hy
          by_cases hof : offB n y = true
          · have hbad : Hid (thereB z.length z = false) := hidE (by
              rw [HN.out]
              unfold thereB
              refine List.all_eq_false.2 ⟨l, List.mem_iff_getElem?.2 ⟨i, HLI.out⟩, ?_⟩
              have : l.any (offB n) = true := List.any_eq_true.2 ⟨y, List.mem_iff_getElem?.2 ⟨k, HY.out⟩, hof⟩
              rw [this]; simp)
            unfold offB at hof
            by_cases h1 : y < 0
            · have e1 : decide (y < 0) = true := by simp [h1]
              clear hof h1
              go_wp2_with fail
              (try simp only [Exit.inBlock, Exit.then]); refine bodyPost_ret (results_tmp2 rfl _ _ _) rfl ?_
              exact ⟨_, _, rfl, Below.refl _ _, .inr ⟨hbad.out, rfl, rfl⟩⟩
            · have e1 : decide (y < 0) = false := by simp [h1]
              have e2 : decide ((n : Int) ≤ y) = true := by rw [e1] at hof; simpa using hof
              clear hof h1
              go_wp2_with fail
              (try simp only [Exit.inBlock, Exit.then]); refine bodyPost_ret (results_tmp2 rfl _ _ _) rfl ?_
              exact ⟨_, _, rfl, Below.refl _ _, .inr ⟨hbad.out, rfl, rfl⟩⟩
          · have hof' : offB n y = false := by simpa using hof
            have hnx := hidE (any_take l (offB n) k y hany.out HY.out hof')
            unfold offB at hof'
            have e1 : decide (y < 0) = false := by cases h : decide (y < 0) <;> simp_all
            have e2 : decide ((n : Int) ≤ y) = false := by cases h : decide ((n : Int) ≤ y) <;> simp_all
            clear hof hof'
            go_wp2_with fail
            go_roundg (q - (k + 1))
            case measure => omega
            case rel => exact ⟨k + 1, rfl, by go_num, by omega, rfl, hnx⟩
        · have hnx : Hid ((z.take (i + 1)).all (fun l => !l.any (offB n)) = true) := hidE (by
            have h1 := hany.out
            rw [List.take_of_length_le (by rw [HQ.out]; omega)] at h1
            rw [List.take_add_one, HLI.out, List.all_append, hall.out]
            simp [h1])
          go_wp2_with fail
          go_roundg (n - (i + 1))
          case measure => omega
          case rel => exact ⟨i + 1, rfl, by go_num, by omega, rfl, hnx⟩
    · have hin : i = n := by omega
      subst hin
      have ht : thereB z.length z = true := by
        rw [HN.out]
        have := hall.out
        rw [List.take_of_length_le (by rw [HN.out]; exact Nat.le_refl _)] at this
        exact this
      obtain ⟨u, hu⟩ : ∃ u, natU z = u := ⟨_, rfl⟩
      have hV := natU_V ht
      have hval := natU_valid ht
      have hlen := natU_len z
      have hsz := natU_sz HL.out
      rw [hu] at hV hval hlen hsz
      rw [HN.out] at hlen
      have HT := hidE ht
      have HU := hidE hu
      have HVAL := hidE hval
      have HLEN := hidE hlen
      have HSZ := hidE hsz
      have HRU : Hid (RdU wr (.slice A i c) u) := hidE (RdR.u (by rw [hV]; exact HH.out))
      clear ht hu hV hval hlen hsz HP hall hlt
      obtain ⟨W0, rfl⟩ : ∃ X, X = wr := ⟨_, rfl⟩
      go_wp2_with fail
      have hG0 : Hid (GI W0.heap.size W0 (.slice none 0 0) []) := hidE (GI.nil _ _)
      go_loopg [7, 8] i (fun gg v7 vk wx => ∃ (k : Nat) (S : List (List Nat)), gg = i - k ∧ vk = .int .i64 (k : Nat) ∧ k ≤ i ∧ S.length = k ∧ Hid (Below W0.heap.size W0 wx) ∧ Hid (GI W0.heap.size wx v7 S) ∧ Hid (AllS u S))
      case atStart => exact ⟨0, [], rfl, rfl, by omega, rfl, hidE (Below.refl _ _), hG0, hidE (fun j s h => by simp at h)⟩
      case round =>
        obtain ⟨k, S, rfl, rfl, hk, hSl, hB, hG, hS⟩ := hrel
        clear hG0
        by_cases hki : k < i
        · have hU1 : RdU wr (.slice A i c) u := HRU.out.below hB.out
          have HC := hidE (od_comes u k (.slice A i c) wr hU1 HVAL.out (by rw [HLEN.out]; exact hki) (by rw [HLEN.out]; omega) HSZ.out)
          obtain ⟨vs, g1, g2⟩ := hG.out
          rw [hSl] at g1
          obtain ⟨A7, c7, rfl⟩ := own_shape g1
          have HG1 := hidE g1
          have HG2 := hidE g2
          clear hU1 g1 g2
          go_wp2_with fail
          refine HC.out.mono ?_
          rintro e w2 ⟨s, v', rfl, o, sm, sn, b⟩
          obtain ⟨sl, hsl⟩ : ∃ sl, s.length = sl := ⟨_, rfl⟩
          rw [hsl] at o
          obtain ⟨A8, c8, rfl⟩ := own_shape o
          have hs2 := b.size
          have hg1 : w2.ownsRow W0.heap.size 30 1 (.slice A7 k c7) k vs := own_keepv HG1.out fun g hg => b.block g (own_more HG1.out g hg).2
          have hg2 : ∀ (i : Nat) (x : Value) (l : List Nat), vs[i]? = some x → S[i]? = some l → RowP (fun g => W0.heap.size ≤ g ∧ g < w2.heap.size ∧ (Value.slice A7 k c7).ownBlock ≠ some g) w2 x (intV l) := fun i x l hx hl =>
            (HG2.out i x l hx hl).keep fun g hg => ⟨⟨hg.1, by omega, hg.2.2⟩, b.block g hg.2.1⟩
          have hrow : RowP (fun g => W0.heap.size ≤ g ∧ g < w2.heap.size ∧ (Value.slice A7 k c7).ownBlock ≠ some g) w2 (.slice A8 sl c8) (intV s) := (own_rowP o).keep fun g hg => by
            have h1 := own_more o g hg
            refine ⟨⟨by have := hB.out.size; omega, h1.2, fun e => ?_⟩, rfl⟩
            have := (own_more HG1.out g e).2
            omega
          have HO := hidE (World.ownsRow.alloc hg1 (.cells #[.slice A8 sl c8] 30))
          have HW2 := hidE hg1
          have HGG := hidE hg2
          have HROW := hidE hrow
          have HSM := hidE sm
          have HSN := hidE sn
          have HBB := hidE b
          have hsw : W0.heap.size ≤ w2.heap.size := by have := hB.out.size; omega
          clear HC o sm sn b hg1 hg2 hrow
          go_wp2_with (at_builtin; refine wpList_append_own_at _ rfl (.tmp 61) (.tmp 65) 22 rfl W0.heap.size 30 j0 _ 1 24 Try.underlying22 hj0 hy0 hy1 hy2 rfl (by decide) _ k vs rfl HO.out ⟨w2.heap.size, 0, none⟩ 1 1 [.slice A8 sl c8] rfl rfl (World.news_of_block (heap_alloc_new _ _)) (by intro u hu; simp at hu; subst hu; rfl) (by unfold maxLen; omega) (by omega) (by simp; omega) ?_; intro v3 w5 hown3 hgrow _ hat3; have HO3 := hidE hown3; have HG3 := hidE hgrow; have HA3 := hidE hat3; clear hown3 hgrow hat3)
          have hgi := GI.push (G := S) (by rw [hSl]; exact HW2.out) HGG.out HROW.out HG3.out (by rw [hSl]; exact HO3.out) HA3.out
          have hbb : Below W0.heap.size W0 w5 := ((hB.out.trans (HBB.out.mono hB.out.size)).alloc hsw _).grown HG3.out (by simp; omega) (fun g hg => (own_more HW2.out g hg).1)
          have hal := hS.out.push (by rw [hSl]; exact HSM.out) HSN.out
          go_roundg (i - (k + 1))
          case measure => omega
          case rel => exact ⟨k + 1, S ++ [s], rfl, by go_num, by omega, by rw [List.length_append, hSl]; rfl, hidE hbb, hidE hgi, hidE hal⟩
        · have hki' : k = i := by omega
          subst hki'
          obtain ⟨W1, rfl⟩ : ∃ X, X = wr := ⟨_, rfl⟩
          obtain ⟨A7, c7, hv7⟩ := hG.out.shape
          rw [hSl] at hv7
          subst hv7
          have hrdS := hG.out.rd
          have HRS := hidE hrdS
          have hM0 := hidE (MS.nil W1.heap.size W1)
          clear hrdS
          go_wp2_with fail
          go_loopg [9, 10] k (fun gg v9 v10 wx => ∃ (l : List (List Nat)) (c9 c10 : Nat) (A9 A10 : Option Addr), gg = k - l.flatten.length ∧ v9 = .slice A9 l.flatten.length c9 ∧ v10 = .slice A10 l.length c10 ∧ l.flatten.length ≤ k ∧ l.length ≤ l.flatten.length ∧ Hid (PG u l) ∧ Hid (Below W1.heap.size W1 wx) ∧ Hid (MS W1.heap.size l v9 v10 wx))
          case atStart => exact ⟨[], 0, 0, none, none, rfl, rfl, rfl, by simp, by simp, hidE .nil, hidE (Below.refl _ _), hM0⟩
          case round =>
            obtain ⟨l, c9, c10, A9, A10, rfl, rfl, rfl, hlk, hll, hPG, hB1, hM⟩ := hrel
            clear hM0
            obtain ⟨m, hm⟩ : ∃ m, l.flatten.length = m := ⟨_, rfl⟩
            obtain ⟨m2, hm2⟩ : ∃ m, l.length = m := ⟨_, rfl⟩
            rw [hm] at hlk hll hM ⊢
            rw [hm2] at hll hM ⊢
            by_cases hmk : m < k
            · obtain ⟨W2, rfl⟩ : ∃ X, X = wr := ⟨_, rfl⟩
              have HM2 := hidE hm
              have HM3 := hidE hm2
              clear hm hm2
              go_wp2_with fail
              go_loopg [9, 10, 11] k (fun gg v9 v10 vi wx => ∃ i : Nat, gg = k - i ∧ v9 = .slice A9 m c9 ∧ v10 = .slice A10 m2 c10 ∧ vi = .int .i64 (i : Nat) ∧ i ≤ k ∧ Hid (Below W2.heap.size W2 wx) ∧ Hid (∀ q, q < i → q ∈ l.flatten ∨ rk u l.flatten q k = false))
              case atStart => exact ⟨0, rfl, rfl, rfl, rfl, by omega, hidE (Below.refl _ _), hidE (fun q hq => by omega)⟩
              case round =>
                obtain ⟨i, rfl, rfl, rfl, rfl, hi, hB2, hQ⟩ := hrel
                by_cases hik : i < k
                · have hMw := hM.out.below hB2.out
                  have hrt := own_rowA hMw.told
                  obtain ⟨b, hb⟩ : ∃ b, decide (i ∈ l.flatten) = b := ⟨_, rfl⟩
                  have hc1 := od_has (.slice A9 m c9) l.flatten i wr hrt (by rw [HM2.out]; omega)
                  rw [hb] at hc1
                  have HC1 := hidE hc1
                  have HB' := hidE hb
                  clear hMw hrt hc1 hb
                  cases b with
                  | true =>
                    have hnx : Hid (∀ q, q < i + 1 → q ∈ l.flatten ∨ rk u l.flatten q k = false) := hidE (fun q hq => by
                      by_cases e : q = i
                      · subst e; exact .inl (of_decide_eq_true HB'.out)
                      · exact hQ.out q (by omega))
                    go_wp2_with fail
                    refine HC1.out.mono ?_
                    rintro e w3 ⟨rfl, rfl⟩
                    clear HC1
                    go_wp2_with fail
                    go_roundg (k - (i + 1))
                    case measure => omega
                    case rel => exact ⟨i + 1, rfl, rfl, rfl, by go_num, by omega, hB2, hnx⟩
                  | false =>
                    go_wp2_with fail
                    refine HC1.out.mono ?_
                    rintro e w3 ⟨rfl, rfl⟩
                    clear HC1
                    have hbW : Below W1.heap.size W1 wr := hB1.out.trans (hB2.out.mono hB1.out.size)
                    obtain ⟨si, hsi⟩ : ∃ si, S[i]? = some si := ⟨_, List.getElem?_eq_getElem (by rw [hSl]; exact hik)⟩
                    obtain ⟨hmi, hni⟩ := hS.out i si hsi
                    have hrbi := rb_dec HVAL.out (by rw [HLEN.out]; exact hik) hmi
                    have hsil : si.length ≤ k := lt_of_all hni (fun j hj => by have := rch_lt HVAL.out ((hmi j).1 hj) (by rw [HLEN.out]; exact hik); rw [HLEN.out] at this; exact this)
                    obtain ⟨A0', c0', e0, hpS⟩ := HRS.out
                    rw [hSl] at e0 hpS
                    injection e0 with e0 _ e0'
                    subst e0 e0'
                    obtain ⟨aS, rfl, haS, hcS⟩ := hpS (by omega)
                    obtain ⟨xi, hxi, hri⟩ := hcS i si hsi
                    obtain ⟨Ai, ci, rfl, hpi⟩ := hri
                    rw [intV_len] at hxi hpi
                    obtain ⟨li, hli⟩ : ∃ li, si.length = li := ⟨_, rfl⟩
                    rw [hli] at hxi hpi
                    have HXI : Hid (∀ W, Below W1.heap.size W1 W → W.cell? (aS.add i) = some (.slice Ai li ci) ∧ RowA W (.slice Ai li ci) (intV si)) := hidE fun W hW =>
                      ⟨(hW.cell (p := aS.add i) (by rw [addr_add_block]; exact haS)).trans hxi, RowA.below (w := W1) ⟨Ai, ci, by rw [intV_len, hli], by rw [intV_len, hli]; exact hpi⟩ hW⟩
                    have HCS := hidE hcS
                    have HAS := hidE haS
                    have HRBI := hidE hrbi
                    have HSIL := hidE hsil
                    have hk1 : aS.add (i * 1) = aS.add i := by rw [Nat.mul_one]
                    have hG0 : Hid (wr.ownsRow W2.heap.size 3 1 (.slice none 0 0) (grp 0 (rb u) i).length (intV (grp 0 (rb u) i))) := hidE (World.ownsRow_nil _ _ _ _)
                    clear hbW hsi hmi hni hrbi hsil hcS hxi hpi hli haS hpS
                    go_wp2_with fail
                    go_loopg [13, 14, 15] k (fun gg v13 v14 v15 wx => ∃ kk : Nat, gg = k - kk ∧ v15 = .int .i64 (kk : Nat) ∧ kk ≤ k ∧ v13 = .bool (rk u l.flatten i kk) ∧ Hid (Below W2.heap.size W2 wx) ∧ Hid (wx.ownsRow W2.heap.size 3 1 v14 (grp kk (rb u) i).length (intV (grp kk (rb u) i))))
                    case atStart => exact ⟨0, rfl, rfl, by omega, rfl, hB2, hG0⟩
                    case round =>
                      obtain ⟨kk, rfl, rfl, hkk, rfl, hB2, hO⟩ := hrel
                      clear hG0
                      obtain ⟨r0, hr0⟩ : ∃ r0, rk u l.flatten i kk = r0 := ⟨_, rfl⟩
                      rw [hr0]
                      have HR0 := hidE hr0
                      clear hr0
                      have hgl := grp_in kk (rb u) i
                      obtain ⟨gl, hgl2⟩ : ∃ gl, (grp kk (rb u) i).length = gl := ⟨_, rfl⟩
                      rw [hgl2] at hO hgl
                      obtain ⟨A14, c14, rfl⟩ := own_shape hO.out
                      have HGL := hidE hgl2
                      clear hgl2
                      have hbW : Below W1.heap.size W1 wr := hB1.out.trans (hB2.out.mono hB1.out.size)
                      by_cases hkq : kk < k
                      · obtain ⟨sk, hsk⟩ : ∃ sk, S[kk]? = some sk := ⟨_, List.getElem?_eq_getElem (by rw [hSl]; exact hkq)⟩
                        obtain ⟨hmk', hnk⟩ := hS.out kk sk hsk
                        have hrbk := rb_dec HVAL.out (by rw [HLEN.out]; exact hkq) hmk'
                        have hskl : sk.length ≤ k := lt_of_all hnk (fun j hj => by have := rch_lt HVAL.out ((hmk' j).1 hj) (by rw [HLEN.out]; exact hkq); rw [HLEN.out] at this; exact this)
                        obtain ⟨xk, hxk, hrk⟩ := HCS.out kk sk hsk
                        obtain ⟨Ak, ck, rfl, hpk⟩ := hrk
                        rw [intV_len] at hxk hpk
                        obtain ⟨lk, hlk2⟩ : ∃ lk, sk.length = lk := ⟨_, rfl⟩
                        rw [hlk2] at hxk hpk
                        have hrowk : RowA wr (.slice Ak lk ck) (intV sk) := RowA.below (w := W1) ⟨Ak, ck, by rw [intV_len, hlk2], by rw [intV_len, hlk2]; exact hpk⟩ hbW
                        have hck : wr.cell? (aS.add kk) = some (.slice Ak lk ck) := (hbW.cell (p := aS.add kk) (by rw [addr_add_block]; exact HAS.out)).trans hxk
                        obtain ⟨hci, hrowi⟩ := HXI.out wr hbW
                        have hk2 : aS.add (kk * 1) = aS.add kk := by rw [Nat.mul_one]
                        have hMw := hM.out.below hB2.out
                        obtain ⟨b1, hb1⟩ : ∃ b, rb u i kk = b := ⟨_, rfl⟩
                        obtain ⟨b2, hb2⟩ : ∃ b, rb u kk i = b := ⟨_, rfl⟩
                        obtain ⟨b3, hb3⟩ : ∃ b, l.flatten.contains kk = b := ⟨_, rfl⟩
                        have hc1 := od_has (.slice Ai li ci) si kk wr hrowi (by have := HSIL.out; omega)
                        rw [HRBI.out kk, hb1] at hc1
                        have hc2 := od_has (.slice Ak lk ck) sk i wr hrowk (by omega)
                        rw [hrbk i, hb2] at hc2
                        have hc3 := od_has (.slice A9 m c9) l.flatten kk wr (own_rowA hMw.told) (by rw [HM2.out]; omega)
                        rw [← contains_dec, hb3] at hc3
                        have HC1 := hidE hc1
                        have HC2 := hidE hc2
                        have HC3 := hidE hc3
                        have hrs := rk_succ u l.flatten i kk
                        rw [hb1, hb2, hb3, HR0.out] at hrs
                        have hgs := grp_succ kk (rb u) i
                        rw [hb1, hb2] at hgs
                        have HRS2 := hidE hrs
                        have HGS := hidE hgs
                        have hbs : W2.heap.size ≤ wr.heap.size := hB2.out.size
                        have HOA := hidE (World.ownsRow.alloc hO.out (.cells #[.int .i64 (kk : Nat)] 3))
                        clear hsk hmk' hnk hrbk hxk hpk hlk2 hrowk hrowi hMw hb1 hb2 hb3 hc1 hc2 hc3 hrs hgs hbW
                        go_wp2_with fail
                        refine HC1.out.mono ?_
                        rintro e w3 ⟨rfl, rfl⟩
                        go_wp2_with fail
                        refine HC2.out.mono ?_
                        rintro e w3 ⟨rfl, rfl⟩
                        go_wp2_with fail
                        refine HC3.out.mono ?_
                        rintro e w3 ⟨rfl, rfl⟩
                        clear HC1 HC2 HC3 hck hci
                        cases b1 with
                        | false =>
                          go_wp2_with fail
                          go_roundg (k - (kk + 1))
                          case measure => omega
                          case rel => exact ⟨kk + 1, rfl, by go_num, by omega, by rw [HRS2.out]; simp, hB2, hidE (by rw [HGS.out]; simpa [HGL.out] using hO.out)⟩
                        | true =>
                          cases b2 with
                          | true =>
                            go_wp2_with (at_builtin; refine wpList_append_own_at _ rfl (.tmp 104) (.tmp 106) 30 rfl W2.heap.size 3 i0 _ 1 8 Try.underlying30 hi0 hz0 hz1 hz2 rfl (by decide) _ gl (intV (grp kk (rb u) i)) rfl HOA.out ⟨wr.heap.size, 0, none⟩ 1 1 [.int .i64 (kk : Nat)] rfl rfl (World.news_of_block (heap_alloc_new _ _)) (by intro u hu; simp at hu; subst hu; rfl) (by unfold maxLen; omega) (by omega) (by simp; omega) ?_; intro v3 w5 hown3 hgrow _ _; have HO3 := hidE hown3; have HG3 := hidE hgrow; clear hown3 hgrow)
                            have hbb : Below W2.heap.size W2 w5 := (hB2.out.alloc hbs _).grown HG3.out (by simp; omega) (fun g hg => (own_more hO.out g hg).1)
                            go_roundg (k - (kk + 1))
                            case measure => omega
                            case rel => exact ⟨kk + 1, rfl, by go_num, by omega, by rw [HRS2.out]; simp, hidE hbb, hidE (by rw [HGS.out]; simp only [Bool.and_self, if_true, List.length_append, HGL.out]; rw [intV_snoc]; exact HO3.out)⟩
                          | false =>
                            cases b3 with
                            | true =>
                              go_wp2_with fail
                              go_roundg (k - (kk + 1))
                              case measure => omega
                              case rel => exact ⟨kk + 1, rfl, by go_num, by omega, by rw [HRS2.out]; simp, hB2, hidE (by rw [HGS.out]; simpa [HGL.out] using hO.out)⟩
                            | false =>
                              go_wp2_with fail
                              go_roundg (k - (kk + 1))
                              case measure => omega
                              case rel => exact ⟨kk + 1, rfl, by go_num, by omega, by rw [HRS2.out]; simp, hB2, hidE (by rw [HGS.out]; simpa [HGL.out] using hO.out)⟩
                      · have hkk' : kk = k := by omega
                        subst hkk'
                        cases r0 with
                        | false =>
                          have hnx : Hid (∀ q, q < i + 1 → q ∈ l.flatten ∨ rk u l.flatten q kk = false) := hidE (fun q hq => by
                            by_cases e : q = i
                            · subst e; exact .inr HR0.out
                            · exact hQ.out q (by omega))
                          go_wp2_with fail
                          go_roundg (kk - (i + 1))
                          case measure => omega
                          case rel => exact ⟨i + 1, rfl, rfl, rfl, by go_num, by omega, hB2, hnx⟩
                        | true =>
                          obtain ⟨q1, q2, q3⟩ := pg_told hPG.out HVAL.out HLEN.out hik (of_decide_eq_false HB'.out) HR0.out hQ.out
                          have hfl : (l ++ [grp kk (rb u) i]).flatten.length = m + gl := by
                            simp only [List.flatten_append, List.length_append, List.flatten_cons, List.flatten_nil, List.append_nil, HM2.out, HGL.out]
                          rw [hfl] at q2 q3
                          rw [HM2.out] at q2
                          have hMw := hM.out.below hB2.out
                          obtain ⟨vs, h1, h2⟩ := hMw.out
                          have h0 := hMw.told
                          rw [HM2.out] at h0
                          rw [HM3.out] at h1
                          obtain ⟨gb, hgb⟩ := own_head hO.out (by omega)
                          subst hgb
                          have HQ1 := hidE q1
                          have HH0 := hidE h0
                          have HH1 := hidE h1
                          have HH2 := hidE h2
                          have HMW := hidE hMw
                          have HFL := hidE hfl
                          have HOB := hidE (World.ownsRow.alloc h1 (.cells #[.slice (some ⟨gb, 0, none⟩) gl c14] 30))
                          have hb1 : W1.heap.size ≤ wr.heap.size := hbW.size
                          have HBW := hidE hbW
                          clear q1 h0 h1 h2 hMw hfl hbW
                          go_wp2_with (first | (at_builtin; refine wpList_append_own_at _ rfl (.tmp 114) (.tmp 116) 22 rfl W1.heap.size 30 j0 _ 1 24 Try.underlying22 hj0 hy0 hy1 hy2 rfl (by decide) _ m2 vs rfl HOB.out ⟨wr.heap.size, 0, none⟩ 1 1 [.slice (some ⟨gb, 0, none⟩) gl c14] rfl rfl (World.news_of_block (heap_alloc_new _ _)) (by intro u hu; simp at hu; subst hu; rfl) (by unfold maxLen; omega) (by omega) (by simp; omega) ?_; intro v3 w5 hown3 hgrow _ hat3; have HO3 := hidE hown3; have HG3 := hidE hgrow; have HA3 := hidE hat3; have HT5 := hidE (tell_own HMW.out HM2.out hgrow); have HS5 := hidE (tell_src (tell_low hM.out) hO.out hgrow); have hs5 : wr.heap.size + 1 ≤ w5.heap.size := tell_size hgrow; clear hown3 hgrow hat3) | (at_builtin; refine wpList_append_own_at _ rfl (.tmp 118) (.tmp 119) 30 rfl W1.heap.size 3 i0 _ 1 8 Try.underlying30 hi0 hz0 hz1 hz2 rfl (by decide) _ m (intV l.flatten) rfl HT5.out ⟨gb, 0, none⟩ gl c14 (intV (grp kk (rb u) i)) rfl (by rw [intV_len, HGL.out, Nat.mul_one]) HS5.out int_one (by unfold maxLen; omega) (by omega) (by omega) ?_; intro v4 w6 hown4 hgrow4 _ hat4; have HO4 := hidE hown4; have HG4 := hidE hgrow4; have HA4 := hidE hat4; clear hown4 hgrow4 hat4))
                          have hms := HMW.out.push (fun b hb => (own_more hO.out b hb).1) hB1.out.size ⟨fun b hb => (own_more hM.out.told b hb).2, tell_low hM.out⟩ (by rw [HGL.out]; exact hO.out) (by rw [HM3.out]; exact HH1.out) HH2.out HG3.out (by rw [HM3.out]; exact HO3.out) HA3.out HG4.out (by rw [HM2.out, HGL.out]; exact HO4.out) HA4.out
                          have hbb : Below W1.heap.size W1 w6 := ((HBW.out.alloc hb1 _).grown HG3.out (by simp; omega) (fun g hg => (own_more HH1.out g hg).1)).grown HG4.out (by omega) (fun g hg => (own_more HT5.out g hg).1)
                          obtain ⟨A9', c9', e9⟩ := own_shape HO4.out
                          obtain ⟨A10', c10', e10⟩ := own_shape HO3.out
                          go_roundg (kk - (l ++ [grp kk (rb u) i]).flatten.length)
                          case measure => rw [HFL.out, HM2.out]; omega
                          case rel => exact ⟨l ++ [grp kk (rb u) i], c9', c10', A9', A10', rfl, by rw [HFL.out]; exact e9, by rw [List.length_append, HM3.out]; exact e10, by rw [HFL.out]; omega, by rw [HFL.out, List.length_append, HM3.out]; simp only [List.length_cons, List.length_nil]; omega, HQ1, hidE hbb, hidE hms⟩
                · exact (pg_stuck hPG.out HVAL.out HLEN.out (by rw [HM2.out]; exact hmk) (fun q hq => hQ.out q (by omega))).elim
            · have hfull : ∀ i, i < u.length → In l i := hPG.out.full (by rw [HLEN.out, hm]; omega)
              have HGR := hidE (groups_one HVAL.out (hPG.out.ok hfull))
              have HRD := hidE hM.out.rd
              clear hfull hm hm2
              go_wp2_with fail
              (try simp only [Exit.inBlock, Exit.then]); refine bodyPost_ret (results_tmp2 rfl _ _ _) rfl ?_
              exact ⟨_, _, rfl, hB.out.trans (hB1.out.mono hB.out.size), .inl ⟨HT.out, rfl, by rw [HU.out, ← HGR.out]; exact HRD.out⟩⟩
end Go.Proofs.Ytfmpmblhndnbeaa
