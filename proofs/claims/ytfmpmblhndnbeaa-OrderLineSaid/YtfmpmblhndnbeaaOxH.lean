/-
  OrderLine: things that use just those ahead of them are told one by one; a ring is one group; a chain is told from its end. However many.
-/
import Derived.Test.YtfmpmblhndnbeaaOxG
namespace Go.Proofs.Ytfmpmblhndnbeaa.OrderLine
open Go.RowKit Go.Shelf Go.ChangeShapes Go.WideShapes Go.Proofs.Ytfmpmblhndnbeaa.Od
set_option maxRecDepth 100000

theorem back_num {i p r q : Nat} (h : p = i - 1) (hq : i - 1 - r = q) (hr : r < i) : (p : Int) - (r : Nat) = (q : Nat) ∧ (i : Int) - 1 - (r : Nat) = (q : Nat) := by omega
set_option maxHeartbeats 6400000 in
theorem walkN (n : Nat) (h1 : 1 ≤ n) (h2 : n ≤ 200) (w : World) :
    Calls Try.prog 5 #[.int .i64 (n : Nat)] w fun e w' => e = .returned (.bool true) ∧ Below w.heap.size w w' := by
  have HC := hidE (ow_awake w)
  have d1 : decide ((n : Int) < 1) = false := by simp; omega
  have d2 : decide ((200 : Int) < (n : Nat)) = false := by simp; omega
  have hmk := fun W => make_rows n (by omega) W
  obtain ⟨i0, hi0, hz0, hz1, hz2⟩ := info_parts int_info
  go_enter Try.func5, Try.ntmps5
  go_wp2_with fail
  refine HC.out.mono ?_
  rintro e w1 ⟨rfl, b1⟩
  have HB1 := hidE b1
  clear HC b1
  go_wp2_with fail
  obtain ⟨a0, a1, hs2, hb2⟩ := laid2 w1 (.cells (List.replicate n (.slice none 0 0)).toArray 30) (.cells (List.replicate n (.slice none 0 0)).toArray 30)
  have hnil : ∀ (j : Nat) (v : Value) (l : List Nat) (W : World), (List.replicate n (Value.slice none 0 0))[j]? = some v → (List.replicate n ([] : List Nat))[j]? = some l → W.ownsRow (w1.heap.size + 2) 3 1 v l.length (intV l) := fun j v l W h1 h2 => by
    rw [List.getElem?_replicate] at h1 h2
    split at h1
    · rename_i hj
      rw [if_pos hj] at h2
      injection h1 with h1; injection h2 with h2
      subst h1 h2
      exact World.ownsRow_nil _ _ _ _
    · cases h1
  have hdis : ∀ (i j : Nat) (a b : Value) (g : Nat), (List.replicate n (Value.slice none 0 0))[i]? = some a → (List.replicate n (Value.slice none 0 0))[j]? = some b → a.ownBlock = some g → b.ownBlock = some g → i = j := fun i j a b g h1 h2 h3 _ => by
    rw [List.getElem?_replicate] at h1
    split at h1
    · injection h1 with h1; subst h1; cases h3
    · cases h1
  have HL0 : Hid (Rows (w1.heap.size + 2) ((w1.alloc (.cells (List.replicate n (.slice none 0 0)).toArray 30)).alloc (.cells (List.replicate n (.slice none 0 0)).toArray 30)) w1.heap.size (List.replicate n (.slice none 0 0)) (lineU n 0 0)) := hidE (by
    rw [lineU_start]
    exact { len := by simp, blk := a0, row := fun j v l h1 h2 => hnil j v l _ h1 h2, dis := hdis, bo := by omega })
  have HR0 : Hid (Rows (w1.heap.size + 2) ((w1.alloc (.cells (List.replicate n (.slice none 0 0)).toArray 30)).alloc (.cells (List.replicate n (.slice none 0 0)).toArray 30)) (w1.heap.size + 1) (List.replicate n (.slice none 0 0)) (ringU n 0)) := hidE (by
    rw [ringU_start]
    exact { len := by simp, blk := a1, row := fun j v l h1 h2 => hnil j v l _ h1 h2, dis := hdis, bo := by omega })
  have HB0 := hidE hb2
  clear a0 a1 hs2 hb2 hnil hdis hmk
  go_loopg [6] n (fun gg vi wr => ∃ i lv rv, gg = n - i ∧ vi = .int .i64 (i : Nat) ∧ i ≤ n ∧ Hid (Below w1.heap.size w1 wr) ∧ Hid (Rows (w1.heap.size + 2) wr w1.heap.size lv (lineU n i 0)) ∧ Hid (Rows (w1.heap.size + 2) wr (w1.heap.size + 1) rv (ringU n i)) ∧ Hid (∀ j, i ≤ j → j < n → lv[j]? = some (.slice none 0 0)))
  case atStart => exact ⟨0, _, _, rfl, rfl, by omega, HB0, HL0, HR0, hidE (fun j _ hj => by rw [List.getElem?_replicate, if_pos hj])⟩
  case round =>
    obtain ⟨i, lv, rv, rfl, rfl, hi, hB, hL, hR, hN⟩ := hrel
    clear HL0 HR0 HB0
    by_cases hlt : i < n
    · obtain ⟨W0, rfl⟩ : ∃ X, X = wr := ⟨_, rfl⟩
      have hlo : w1.heap.size + 2 ≤ W0.heap.size := by have := hR.out.blk.lt; omega
      go_wp2_with fail
      go_loopg [7] i (fun gg vk wx => ∃ k lv, gg = i - k ∧ vk = .int .i64 (k : Nat) ∧ k ≤ i ∧ Hid (Rows (w1.heap.size + 2) wx w1.heap.size lv (lineU n i k)) ∧ Hid (Chg (fun b => b = w1.heap.size ∨ W0.heap.size ≤ b) W0 wx) ∧ Hid (∀ v g, lv[i]? = some v → v.ownBlock = some g → W0.heap.size ≤ g) ∧ Hid (∀ j, i < j → j < n → lv[j]? = some (.slice none 0 0)))
      case atStart => exact ⟨0, lv, rfl, rfl, by omega, hL, hidE (Chg.refl _ _), hidE (fun v g h1 h2 => by rw [hN.out i (Nat.le_refl _) hlt] at h1; injection h1 with h1; subst h1; cases h2), hidE (fun j h1 h2 => hN.out j (by omega) h2)⟩
      case round =>
        obtain ⟨k, lv, rfl, rfl, hk, hL, hC, hO, hN⟩ := hrel
        have hlin : (lineU n i k)[i]? = some (List.range k) := by rw [lineU_at hlt]; unfold lineF; simp
        by_cases hki : k < i
        · obtain ⟨vy, hvy⟩ : ∃ vy, lv[i]? = some vy := ⟨_, List.getElem?_eq_getElem (by rw [hL.out.len, lineU_len]; exact hlt)⟩
          have hrow := hL.out.row i vy _ hvy hlin
          rw [List.length_range] at hrow
          obtain ⟨A6, c6, rfl⟩ := own_shape hrow
          have hcell : wr.cell? ⟨w1.heap.size, i, none⟩ = some (.slice A6 k c6) := by rw [hL.out.blk.cell]; simpa using hvy
          have hfr := hL.out.blk.frozen i
          have hlb := hL.out.blk.lt
          have HOA := hidE (World.ownsRow.alloc hrow (.cells #[.int .i64 (k : Nat)] 3))
          have HVY := hidE hvy
          have HLIN := hidE hlin
          have hob : ∀ g, (Value.slice A6 k c6).ownBlock = some g → w1.heap.size + 2 ≤ g ∧ _ := fun g hg => own_more hrow g hg
          have HOB := hidE hob
          have hB2 : w1.heap.size + 2 ≤ wr.heap.size := by have := hC.out.size; omega
          clear hrow hvy hlin hob
          go_wp2_with (at_builtin; refine wpList_append_own_at _ rfl (.tmp 43) (.tmp 45) 30 rfl (w1.heap.size + 2) 3 i0 _ 1 8 Try.underlying30 hi0 hz0 hz1 hz2 rfl (by decide) _ k (intV (List.range k)) rfl HOA.out ⟨wr.heap.size, 0, none⟩ 1 1 [.int .i64 (k : Nat)] rfl rfl (World.news_of_block (heap_alloc_new _ _)) (by intro u hu; simp at hu; subst hu; rfl) (by unfold maxLen; omega) (by omega) (by simp; omega) ?_; intro v3 w5 hown3 hgrow _ hat3; obtain ⟨A7, c7, rfl⟩ := own_shape hown3; obtain ⟨z1, z2, z3⟩ := hL.out.blk_put HVY.out HLIN.out hgrow; have HO3 := hidE hown3; have HG3 := hidE hgrow; have HA3 := hidE hat3; clear hown3 hgrow hat3)
          have hnew := hL.out.put (x := k) HVY.out HLIN.out HG3.out (by rw [List.length_range, intV_snoc]; exact HO3.out) HA3.out
          rw [lineU_step] at hnew
          have hch : Chg (fun b => b = w1.heap.size ∨ W0.heap.size ≤ b) W0 (w5.setCell ⟨w1.heap.size, i, none⟩ (.slice A7 (k + 1) c7)) := ((hC.out.alloc _).grown HG3.out (fun g hg => .inr (.inr (hO.out _ g HVY.out hg)))).setCell (.inr (.inl rfl)) _
          have hlv : lv.length = n := by rw [hL.out.len, lineU_len]
          have hsa : (wr.alloc (.cells #[.int .i64 (k : Nat)] 3)).heap.size = wr.heap.size + 1 := size_alloc _ _
          have hown2 : ∀ v g, (lv.set i (.slice A7 (k + 1) c7))[i]? = some v → v.ownBlock = some g → W0.heap.size ≤ g := fun v g h1 h2 => by
            rw [List.getElem?_set, if_pos rfl, if_pos (by rw [hlv]; exact hlt)] at h1
            injection h1 with h1; subst h1
            rcases HA3.out with h3 | h3
            · rw [h3] at h2; exact hO.out _ g HVY.out h2
            · rw [h3] at h2; injection h2 with h2; have := hC.out.size; omega
          have hnn : ∀ j, i < j → j < n → (lv.set i (.slice A7 (k + 1) c7))[j]? = some (.slice none 0 0) := fun j h1 h2 => by
            rw [List.getElem?_set, if_neg (by omega)]; exact hN.out j h1 h2
          go_roundg (i - (k + 1))
          case measure => omega
          case rel => exact ⟨k + 1, _, rfl, by go_num, by omega, hidE hnew, hidE hch, hidE hown2, hidE hnn⟩
        · have hki' : k = i := by omega
          subst hki'
          have hbr := rows_but hR.out hC.out (by omega) (by omega)
          have hcr : wr.cell? ⟨w1.heap.size + 1, k, none⟩ = _ := hbr.blk.cell k
          obtain ⟨vr, hvr⟩ : ∃ vr, rv[k]? = some vr := ⟨_, List.getElem?_eq_getElem (by rw [hR.out.len, ringU_len]; exact hlt)⟩
          have hcr2 : wr.cell? ⟨w1.heap.size + 1, k, none⟩ = some vr := by rw [hbr.blk.cell]; simpa using hvr
          have hfr := hbr.blk.frozen k
          have hlb := hbr.blk.lt
          have HBR := hidE hbr
          clear hcr hbr hvr
          have hint : (((k + 1) % n : Nat) : Int) = ((k : Int) + 1) % (n : Int) := by rw [Int.natCast_emod, Int.natCast_add]; rfl
          have hlay := rows_lay (y := k) (l := [(k + 1) % n]) (v' := .slice (some ⟨wr.heap.size, 0, none⟩) 1 1) HBR.out (w2 := wr.alloc (.cells #[.int .i64 (((k + 1) % n : Nat) : Int)] 3)) ((Below.refl _ wr).alloc (Nat.le_refl _) _) (own_base (owns_one wr 3 (.int .i64 (((k + 1) % n : Nat) : Int))) (by have := hC.out.size; omega)) (fun g hg => by injection hg with hg; subst hg; exact Nat.le_refl _)
          rw [ringU_step, World.setCell_alloc_past _ _ _ _ hlb, hint] at hlay
          have hch : Chg (fun b => b = w1.heap.size + 1) wr ((wr.setCell ⟨w1.heap.size + 1, k, none⟩ (.slice (some ⟨wr.heap.size, 0, none⟩) 1 1)).alloc (.cells #[.int .i64 (((k : Int) + 1) % (n : Int))] 3)) := ((Chg.refl (fun b => b = w1.heap.size + 1) wr).setCell (p := ⟨w1.heap.size + 1, k, none⟩) (.inr rfl) _).alloc _
          have hli := rows_keep hL.out hch (fun e => by have e : w1.heap.size = w1.heap.size + 1 := e; omega) (fun j v g h1 h2 e => by have e : g = w1.heap.size + 1 := e; have := rows_own hL.out h1 h2; omega)
          rw [lineU_next] at hli
          have hbb : Below w1.heap.size w1 ((wr.setCell ⟨w1.heap.size + 1, k, none⟩ (.slice (some ⟨wr.heap.size, 0, none⟩) 1 1)).alloc (.cells #[.int .i64 (((k : Int) + 1) % (n : Int))] 3)) := (hB.out.trans (hC.out.toBelow (by omega) (fun b hb e => by omega))).trans (hch.toBelow (by have := hC.out.size; omega) (fun b hb e => by have e : b = w1.heap.size + 1 := e; omega))
          have HLAY := hidE hlay
          have HLI := hidE hli
          have HBB := hidE hbb
          clear hlay hch hli hbb hint
          go_wp2_with fail
          go_roundg (n - (k + 1))
          case measure => omega
          case rel => exact ⟨k + 1, _, _, rfl, by go_num, by omega, HBB, HLI, HLAY, hidE (fun j h1 h2 => hN.out j (by omega) h2)⟩
    · have hin : i = n := by omega
      subst hin
      have hthL : thereB (intU (lineU i i 0)).length (intU (lineU i i 0)) = true := intU_there (lineU_len i i 0) (fun l hl x hx => by
        obtain ⟨j, hj⟩ := List.mem_iff_getElem?.1 hl
        have := line_use ⟨l, hj, hx⟩; omega)
      have hrL : RdR wr (.slice (some ⟨w1.heap.size, 0, none⟩) i i) ((intU (lineU i i 0)).map zV) := by
        rw [intU_V]
        have := hL.out.rd i
        rw [lineU_len] at this
        exact this.r (Nat.le_refl _)
      have hszL : ∀ l ∈ lineU i i 0, l.length ≤ 1000000 := fun l hl => by
        obtain ⟨j, hj⟩ := List.mem_iff_getElem?.1 hl
        have hjn : j < i := by have := (List.getElem?_eq_some_iff.1 hj).1; rwa [lineU_len] at this
        rw [lineU_at hjn] at hj
        injection hj with hj
        rw [← hj]
        unfold lineF
        rw [if_pos hjn, List.length_range]; omega
      have HG1 := hidE (ow_Groups _ (intU (lineU i i 0)) wr hrL (by rw [intU_len, lineU_len]; omega) (intU_sz hszL))
      have HTL := hidE hthL
      clear hthL hrL hszL
      go_wp2_with fail
      refine HG1.out.mono ?_
      rintro e w3 hgp
      obtain ⟨v3, rfl, b3, r3⟩ := hgp.good (g := ones i) HTL.out (by rw [natU_intU, line_groups])
      have hrr : Rows (w1.heap.size + 2) w3 (w1.heap.size + 1) rv (ringU i i) := hR.out.below b3 (Nat.le_refl _)
      have hthR : thereB (intU (ringU i i)).length (intU (ringU i i)) = true := intU_there (ringU_len i i) (fun l hl x hx => by
        obtain ⟨j, hj⟩ := List.mem_iff_getElem?.1 hl
        obtain ⟨_, e⟩ := ring_use ⟨l, hj, hx⟩
        rw [e]; exact Nat.mod_lt _ (by omega))
      have hrR : RdR w3 (.slice (some ⟨w1.heap.size + 1, 0, none⟩) i i) ((intU (ringU i i)).map zV) := by
        rw [intU_V]
        have := hrr.rd i
        rw [ringU_len] at this
        exact this.r (Nat.le_refl _)
      have hszR : ∀ l ∈ ringU i i, l.length ≤ 1000000 := fun l hl => by
        obtain ⟨j, hj⟩ := List.mem_iff_getElem?.1 hl
        have hjn : j < i := by have := (List.getElem?_eq_some_iff.1 hj).1; rwa [ringU_len] at this
        rw [ringU_at hjn] at hj
        injection hj with hj
        rw [← hj]
        unfold ringF
        rw [if_pos hjn]; simp
      have HG2 := hidE (ow_Groups _ (intU (ringU i i)) w3 hrR (by rw [intU_len, ringU_len]; omega) (intU_sz hszR))
      have HTR := hidE hthR
      have HRR := hidE hrr
      have HR3 := hidE r3
      have HB3 := hidE (HB1.out.trans ((hB.out.trans (b3.mono hB.out.size)).mono HB1.out.size))
      clear HG1 hgp hthR hrR hszR hrr r3 b3
      go_wp2_with fail
      refine HG2.out.mono ?_
      rintro e w4 hgp
      obtain ⟨v4, rfl, b4, r4⟩ := hgp.good (g := [List.range i]) HTR.out (by rw [natU_intU, ring_groups (by omega)])
      obtain ⟨A3, c3, e3, hp3⟩ := HR3.out.below b4
      have hol : (ones i).length = i := by simp [ones]
      rw [hol] at e3 hp3
      subst e3
      obtain ⟨A4, c4, e4, hp4⟩ := r4
      rw [List.length_singleton] at e4 hp4
      subst e4
      obtain ⟨p4, rfl, hb4, hc4⟩ := hp4 (by omega)
      obtain ⟨xr, hxr, A5, c5, e5, hp5⟩ := hc4 0 (List.range i) rfl
      rw [intV_len, List.length_range] at e5 hp5
      subst e5
      rw [show p4.add 0 = p4 by simp [Addr.add]] at hxr
      have hn1 : ((i : Int) != (i : Nat)) = false := by simp
      have HP3 := hidE hp3
      have HP5 := hidE hp5
      have HXR := hidE hxr
      have HB4 := hidE b4
      have HPB4 := hidE hb4
      have HRR4 := hidE (HRR.out.below b4 (Nat.le_refl _))
      clear HG2 hgp hp3 hp4 hp5 hc4 b4 hb4 HR3
      go_wp2_with fail
      go_loopg [12] i (fun gg vi wx => ∃ r, gg = i - r ∧ vi = .int .i64 (r : Nat) ∧ r ≤ i ∧ wx = w4)
      case atStart => exact ⟨0, rfl, rfl, by omega, rfl⟩
      case round =>
        obtain ⟨r, rfl, rfl, hr, rfl⟩ := hrel
        clear hxr
        have hxr := HXR.out
        by_cases hri : r < i
        · obtain ⟨a, rfl, hab, hcc⟩ := HP3.out (by omega)
          obtain ⟨xv, hxc, Al, cl, e, hpl⟩ := hcc r [r] ((ones_get i r [r]).2 ⟨hri, rfl⟩)
          rw [intV_len] at e hpl
          subst e
          obtain ⟨pl, rfl, hpb, hcl⟩ := hpl (by simp)
          have hx0 : wr.cell? pl = some (.int .i64 (r : Nat)) := by
            have := hcl 0 (.int .i64 (r : Nat)) rfl
            rwa [show pl.add 0 = pl by simp [Addr.add]] at this
          have hk1 : a.add (r * 1) = a.add r := by rw [Nat.mul_one]
          obtain ⟨p5, rfl, hpb5, hcl5⟩ := HP5.out (by omega)
          have hx5 : wr.cell? (p5.add r) = some (.int .i64 (r : Nat)) := hcl5 r _ (by simp [intV, hri])
          have hk2 : p5.add (r * 1) = p5.add r := by rw [Nat.mul_one]
          have hrn : ((r : Int) != (r : Nat)) = false := by simp
          replace hxc : wr.cell? (a.add r) = some (.slice (some pl) 1 cl) := hxc
          clear hcc hpl hcl hcl5 hpb hpb5 hab
          go_wp2_with fail
          go_roundg (i - (r + 1))
          case measure => omega
          case rel => exact ⟨r + 1, rfl, by go_num, by omega, rfl⟩
        · obtain ⟨p, hp⟩ : ∃ p, i = p + 1 := ⟨i - 1, by omega⟩
          have hsub : (i : Int) - 1 = (p : Nat) := by omega
          have hpi : p < i := by omega
          obtain ⟨vr, hvr⟩ : ∃ vr, rv[p]? = some vr := ⟨_, List.getElem?_eq_getElem (by rw [HRR4.out.len, ringU_len]; exact hpi)⟩
          have hcr2 : wr.cell? ⟨w1.heap.size + 1, p, none⟩ = some vr := by rw [HRR4.out.blk.cell]; simpa using hvr
          have hfr := HRR4.out.blk.frozen p
          have hlb := HRR4.out.blk.lt
          have hlay := rows_lay (y := p) (l := []) (v' := .slice none 0 0) HRR4.out (Below.refl _ wr) (World.ownsRow_nil _ _ _ _) (fun g hg => by cases hg)
          have hpe : p = i - 1 := by omega
          rw [hpe] at hlay
          have hcl : ((ringU i i).set (i - 1) []).length = i := by rw [List.length_set, ringU_len]
          have hth : thereB (intU ((ringU i i).set (i - 1) [])).length (intU ((ringU i i).set (i - 1) [])) = true := intU_there hcl (fun l hl x hx => by
            obtain ⟨j, hj⟩ := List.mem_iff_getElem?.1 hl
            exact ((chain_use (by omega) j x).1 ⟨l, hj, hx⟩).2)
          have hrd : RdR (wr.setCell ⟨w1.heap.size + 1, i - 1, none⟩ (.slice none 0 0)) (.slice (some ⟨w1.heap.size + 1, 0, none⟩) i i) ((intU ((ringU i i).set (i - 1) [])).map zV) := by
            rw [intU_V]
            have := hlay.rd i
            rw [hcl] at this
            exact this.r (Nat.le_refl _)
          have hsz : ∀ l ∈ (ringU i i).set (i - 1) [], l.length ≤ 1000000 := fun l hl => by
            rcases mem_set' hl with hl | rfl
            · obtain ⟨j, hj⟩ := List.mem_iff_getElem?.1 hl
              have hjn : j < i := by have := (List.getElem?_eq_some_iff.1 hj).1; rwa [ringU_len] at this
              rw [ringU_at hjn] at hj
              injection hj with hj
              rw [← hj]
              unfold ringF
              rw [if_pos hjn]; simp
            · simp
          have hG3 := ow_Groups _ (intU ((ringU i i).set (i - 1) [])) _ hrd (by rw [intU_len, hcl]; omega) (intU_sz hsz)
          rw [← hpe] at hG3 hth
          have HG3 := hidE hG3
          have HTH := hidE hth
          have HPE := hidE hpe
          have hbs : Below w1.heap.size wr (wr.setCell ⟨w1.heap.size + 1, p, none⟩ (.slice none 0 0)) := (Below.refl _ wr).setCell (p := ⟨w1.heap.size + 1, p, none⟩) (by show w1.heap.size ≤ w1.heap.size + 1; omega) _
          have HBS := hidE hbs
          clear hvr hlay hcl hth hrd hsz hG3 hpe hp hbs
          go_wp2_with fail
          refine HG3.out.mono ?_
          rintro e w6 hgp
          obtain ⟨v6, rfl, b6, r6⟩ := hgp.good (g := backs i) HTH.out (by rw [natU_intU, HPE.out]; exact chain_groups (by omega))
          obtain ⟨A6, c6, e6, hp6⟩ := r6
          have hol : (backs i).length = i := by simp [backs]
          rw [hol] at e6 hp6
          subst e6
          have HP6 := hidE hp6
          have HB6 := hidE (HB3.out.trans (((HB4.out.mono HB3.out.size).trans (HBS.out.mono (by have := HB1.out.size; omega))).trans (b6.mono (by have := HB3.out.size; have := HB4.out.size; simp; omega))))
          clear HG3 hgp hp6 b6 hcr2 hfr hlb hxr HP3 HP5 HXR
          go_wp2_with fail
          go_loopg [15] i (fun gg vi wx => ∃ r, gg = i - r ∧ vi = .int .i64 (r : Nat) ∧ r ≤ i ∧ wx = w6)
          case atStart => exact ⟨0, rfl, rfl, by omega, rfl⟩
          case round =>
            obtain ⟨r, rfl, rfl, hr, rfl⟩ := hrel
            by_cases hri : r < i
            · obtain ⟨a, rfl, hab, hcc⟩ := HP6.out (by omega)
              obtain ⟨q, hq⟩ : ∃ q, i - 1 - r = q := ⟨_, rfl⟩
              obtain ⟨xv, hxc, Al, cl, e, hpl⟩ := hcc r [q] ((backs_get i r [q]).2 ⟨hri, by rw [hq]⟩)
              rw [intV_len] at e hpl
              subst e
              obtain ⟨pl, rfl, hpb, hcl⟩ := hpl (by simp)
              have hx0 : wr.cell? pl = some (.int .i64 (q : Nat)) := by
                have := hcl 0 (.int .i64 (q : Nat)) rfl
                rwa [show pl.add 0 = pl by simp [Addr.add]] at this
              have hk1 : a.add (r * 1) = a.add r := by rw [Nat.mul_one]
              have hpp := HPE.out
              obtain ⟨hs1, hs2⟩ := back_num hpp hq hri
              have hrn : ((q : Int) != (q : Nat)) = false := by simp
              replace hxc : wr.cell? (a.add r) = some (.slice (some pl) 1 cl) := hxc
              clear hcc hpl hcl hpb hab hpp hq
              go_wp2_with fail
              go_roundg (i - (r + 1))
              case measure => omega
              case rel => exact ⟨r + 1, rfl, by go_num, by omega, rfl⟩
            · go_wp2_with fail
              go_ret
              exact ⟨rfl, HB6.out⟩

theorem walk (a : Int) (w : World) : Calls Try.prog 5 #[.int .i64 a] w fun e w' => e = .returned (.bool true) ∧ Below w.heap.size w w' := by
  by_cases h : 1 ≤ a ∧ a ≤ 200
  · obtain ⟨n, rfl⟩ : ∃ n : Nat, a = (n : Int) := ⟨a.toNat, by omega⟩
    exact walkN n (by omega) (by omega) w
  · have HC := hidE (ow_awake w)
    by_cases h1 : a < 1
    · have d1 : decide (a < 1) = true := by simp; omega
      clear h h1
      go_enter Try.func5, Try.ntmps5
      go_wp2_with fail
      refine HC.out.mono ?_
      rintro e w1 ⟨rfl, b1⟩
      have HB1 := hidE b1
      clear HC b1
      go_wp2_with fail
      go_ret
      exact ⟨rfl, HB1.out⟩
    · have d1 : decide (a < 1) = false := by simp; omega
      have d2 : decide (200 < a) = true := by simp; omega
      clear h h1
      go_enter Try.func5, Try.ntmps5
      go_wp2_with fail
      refine HC.out.mono ?_
      rintro e w1 ⟨rfl, b1⟩
      have HB1 := hidE b1
      clear HC b1
      go_wp2_with fail
      go_ret
      exact ⟨rfl, HB1.out⟩
end Go.Proofs.Ytfmpmblhndnbeaa.OrderLine
