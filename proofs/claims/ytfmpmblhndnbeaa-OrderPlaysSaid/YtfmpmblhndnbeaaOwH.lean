/-
  Order: uses, turned: the walk.
-/
import Derived.Test.YtfmpmblhndnbeaaOwG
import Derived.Laws.MakeOwn
import Derived.Laws.OwnMore
namespace Go.Proofs.Ytfmpmblhndnbeaa
open Go.RowKit Go.Shelf Go.Proofs.Ytfmpmblhndnbeaa.Od
set_option maxRecDepth 100000

theorem row_info : (Try.prog.info? 30).map (fun i => (i.zero, i.size, i.bytes)) = some (some (.slice none 0 0), 1, 24) := by kernel_rfl
theorem bool_info : (Try.prog.info? 4).map (fun i => (i.zero, i.size, i.bytes)) = some (some (.bool false), 1, 1) := by kernel_rfl
theorem made_one (z : Value) (n : Nat) : madeCells #[z] n = (List.replicate n z).toArray := by
  apply Array.toList_inj.1
  rw [toList_madeCells_one]
theorem make_rows (n : Nat) (hn : n ≤ 1000) (w : World) : (Instr.makeSlice 22 (.int .i64 (n : Nat)) (.int .i64 (n : Nat))).run Try.prog w = .ok (.slice (some ⟨w.heap.size, 0, none⟩) n n) (w.alloc (.cells (List.replicate n (.slice none 0 0)).toArray 30)) := by
  obtain ⟨i0, hi0, hz0, hz1, hz2⟩ := info_parts row_info
  have h := run_make (P := Try.prog) w 22 30 i0 _ Try.underlying22 hi0 hz0 .i64 .i64 (n : Int) (n : Int) (by omega) (Int.le_refl _) (by rw [hz2]; omega) (by omega)
  rw [Int.toNat_natCast, hz1, Nat.mul_one] at h
  rw [h]
  exact congrArg (fun x => Result.ok _ (w.alloc (.cells x _))) (made_one _ _)
theorem make_ints (n : Nat) (hn : n ≤ 1000) (w : World) : (Instr.makeSlice 30 (.int .i64 (n : Nat)) (.int .i64 (n : Nat))).run Try.prog w = .ok (.slice (some ⟨w.heap.size, 0, none⟩) n n) (w.alloc (.cells (List.replicate n (.int .i64 0)).toArray 3)) := by
  obtain ⟨i0, hi0, hz0, hz1, hz2⟩ := info_parts int_info
  have h := run_make (P := Try.prog) w 30 3 i0 _ Try.underlying30 hi0 hz0 .i64 .i64 (n : Int) (n : Int) (by omega) (Int.le_refl _) (by rw [hz2]; omega) (by omega)
  rw [Int.toNat_natCast, hz1, Nat.mul_one] at h
  rw [h]
  exact congrArg (fun x => Result.ok _ (w.alloc (.cells x _))) (made_one _ _)
theorem make_bools (n : Nat) (hn : n ≤ 1000) (w : World) : (Instr.makeSlice 50 (.int .i64 (n : Nat)) (.int .i64 (n : Nat))).run Try.prog w = .ok (.slice (some ⟨w.heap.size, 0, none⟩) n n) (w.alloc (.cells (List.replicate n (.bool false)).toArray 4)) := by
  obtain ⟨i0, hi0, hz0, hz1, hz2⟩ := info_parts bool_info
  have h := run_make (P := Try.prog) w 50 4 i0 _ Try.underlying50 hi0 hz0 .i64 .i64 (n : Int) (n : Int) (by omega) (Int.le_refl _) (by rw [hz2]; omega) (by omega)
  rw [Int.toNat_natCast, hz1, Nat.mul_one] at h
  rw [h]
  exact congrArg (fun x => Result.ok _ (w.alloc (.cells x _))) (made_one _ _)

set_option maxHeartbeats 1600000 in
theorem ow_turned (u : Uses) (v : Value) (w : World) (hU : RdU w v u) (hv : Valid u) (hn : u.length ≤ 1000) (hl : ∀ l ∈ u, l.length ≤ 1000000) :
    Calls Try.prog 13 #[v] w fun e w' => ∃ us vs, e = .returned (.slice (some ⟨w.heap.size, 0, none⟩) u.length u.length) ∧ Turn u us ∧ Rows (w.heap.size + 1) w' w.heap.size vs us ∧ (∀ l ∈ us, l.length ≤ 1001000000) ∧ Below w.heap.size w w' := by
  obtain ⟨A, c, rfl, hp⟩ := hU
  obtain ⟨n, hN⟩ : ∃ n, u.length = n := ⟨_, rfl⟩
  have HN := hidE hN
  have hst := TurnP.start u 1000000
  rw [hN] at hp hn hst ⊢
  have hmk := fun W => make_rows n hn W
  obtain ⟨i0, hi0, hz0, hz1, hz2⟩ := info_parts int_info
  obtain ⟨L, hL⟩ : ∃ L, 1000000 = L := ⟨_, rfl⟩
  rw [hL] at hl hst
  have HP := hidE hp
  have HV := hidE hv
  have HL := hidE hl
  have HLL := hidE hL
  have HS := hidE hst
  clear hp hv hN hl hL hst
  go_enter Try.func13, Try.ntmps13
  go_wp2_with fail
  have hR0 := hidE (Rows.made (w := w) (n := n) (w.heap.size + 1) rfl rfl)
  have hB0 := hidE ((Below.refl w.heap.size w).alloc (Nat.le_refl _) (.cells (List.replicate n (.slice none 0 0)).toArray 30))
  go_loopg [13] n (fun gg v wr => ∃ k us vs, gg = n - k ∧ v = .int .i64 (k : Nat) ∧ k ≤ n ∧ Hid (Below w.heap.size w wr) ∧ Hid (Rows (w.heap.size + 1) wr w.heap.size vs us) ∧ Hid (TurnP u L k 0 us))
  case atStart => exact ⟨0, _, _, rfl, rfl, by omega, hB0, hR0, HS⟩
  case round =>
    obtain ⟨k, us, vs, rfl, rfl, hk, hB, hR, hT⟩ := hrel
    clear hR0 hB0 hmk HS
    by_cases hlt : k < n
    · obtain ⟨a, rfl, hab, hcc⟩ := HP.out (by omega)
      obtain ⟨l, hl⟩ : ∃ l, u[k]? = some l := ⟨_, List.getElem?_eq_getElem (by rw [HN.out]; exact hlt)⟩
      obtain ⟨x, hxc, hxr⟩ := hcc k l hl
      have hck : wr.cell? (a.add k) = some x := (hB.out.cell (p := a.add k) (by rw [addr_add_block]; exact hab)).trans hxc
      have hk1 : a.add (k * 1) = a.add k := by rw [Nat.mul_one]
      obtain ⟨A2, c2, rfl, hp2⟩ := hxr
      rw [intV_len] at *
      obtain ⟨q, hq⟩ : ∃ q, l.length = q := ⟨_, rfl⟩
      have hql : q ≤ L := by rw [← hq]; exact HL.out l (List.mem_iff_getElem?.2 ⟨k, hl⟩)
      have hqm : q ≤ 1000000 := by rw [HLL.out]; exact hql
      rw [hq] at hck hp2
      have HQ := hidE hq
      have HLK := hidE hl
      have HP2 := hidE hp2
      clear hcc hl hxc hab hp2 hq
      go_wp2_with fail
      go_loopg [20] q (fun gg v wx => ∃ p us vs, gg = q - p ∧ v = .int .i64 (p : Nat) ∧ p ≤ q ∧ Hid (Below w.heap.size w wx) ∧ Hid (Rows (w.heap.size + 1) wx w.heap.size vs us) ∧ Hid (TurnP u L k p us))
      case atStart => exact ⟨0, us, vs, rfl, rfl, by omega, hB, hR, hT⟩
      case round =>
        obtain ⟨p, us, vs, rfl, rfl, hpq, hB, hR, hT⟩ := hrel
        by_cases hpl : p < q
        · obtain ⟨a2, rfl, hab2, hcc2⟩ := HP2.out (by omega)
          obtain ⟨y, hy⟩ : ∃ y, l[p]? = some y := ⟨_, List.getElem?_eq_getElem (by rw [HQ.out]; exact hpl)⟩
          have hcy : wr.cell? (a2.add p) = some (.int .i64 (y : Nat)) := (hB.out.cell (p := a2.add p) (by rw [addr_add_block]; exact hab2)).trans (hcc2 p _ (by simp [intV, hy]))
          have hk2 : a2.add (p * 1) = a2.add p := by rw [Nat.mul_one]
          have hyn : y < n := by rw [← HN.out]; exact HV.out k y ⟨l, HLK.out, List.mem_iff_getElem?.2 ⟨p, hy⟩⟩
          obtain ⟨m, hm⟩ : ∃ m, us[y]? = some m := ⟨_, List.getElem?_eq_getElem (by rw [hT.out.len, HN.out]; exact hyn)⟩
          obtain ⟨vy, hvy⟩ : ∃ vy, vs[y]? = some vy := ⟨_, List.getElem?_eq_getElem (by rw [hR.out.len, hT.out.len, HN.out]; exact hyn)⟩
          have hrow := hR.out.row y vy m hvy hm
          obtain ⟨A6, c6, rfl⟩ := own_shape hrow
          have hcell : wr.cell? ⟨w.heap.size, y, none⟩ = some (.slice A6 m.length c6) := by rw [hR.out.blk.cell]; simpa using hvy
          have hfr := hR.out.blk.frozen y
          have hlb := hR.out.blk.lt
          have hsz := hT.out.sz m (List.mem_iff_getElem?.2 ⟨y, hm⟩)
          have hsm : m.length ≤ 1001000000 := by
            rw [← HLL.out] at hsz; omega
          obtain ⟨mt, hmt⟩ : ∃ mt, m.length = mt := ⟨_, rfl⟩
          rw [hmt] at hsm hrow hcell hvy
          have HO := hidE (World.ownsRow.alloc hrow (.cells #[.int .i64 (k : Nat)] 3))
          have HBS := hidE hB.out.size
          have HM := hidE hm
          have HVY := hidE hvy
          have HMT := hidE hmt
          have HYY := hidE hy
          clear hrow hm hvy hsz hcc2 hy hmt hab2
          go_wp2_with (at_builtin; refine wpList_append_own_at _ rfl (.tmp 29) (.tmp 31) 30 rfl (w.heap.size + 1) 3 i0 _ 1 8 Try.underlying30 hi0 hz0 hz1 hz2 rfl (by decide) _ mt (intV m) rfl HO.out ⟨wr.heap.size, 0, none⟩ 1 1 [.int .i64 (k : Nat)] rfl rfl (World.news_of_block (heap_alloc_new _ _)) (by intro u hu; simp at hu; subst hu; rfl) (by unfold maxLen; omega) (by omega) (by have := hR.out.blk.lt; simp; omega) ?_; intro v3 w5 hown3 hgrow _ hat3; obtain ⟨A7, c7, rfl⟩ := own_shape hown3; obtain ⟨z1, z2, z3⟩ := hR.out.blk_put HVY.out HM.out hgrow; have HO3 := hidE hown3; have HG3 := hidE hgrow; have HA3 := hidE hat3; clear hown3 hgrow hat3)
          have hnew := hR.out.put (x := k) HVY.out HM.out HG3.out (by rw [HMT.out, intV_snoc]; exact HO3.out) HA3.out
          have hnb := hR.out.put_below (v' := .slice A7 (mt + 1) c7) HVY.out HM.out HG3.out hB.out (Nat.le_refl _)
          have hnt := hT.out.step HLK.out HYY.out HM.out
          go_roundg (q - (p + 1))
          case measure => omega
          case rel => exact ⟨p + 1, _, _, rfl, by go_num, by omega, hidE hnb, hidE hnew, hidE hnt⟩
        · have hpq' : p = q := by omega
          subst hpq'
          have hnx := hidE (TurnP.next (l := l) (by rw [HQ.out]; exact hT.out) HLK.out (by rw [HQ.out]; exact hql))
          go_wp2_with fail
          go_roundg (n - (k + 1))
          case measure => omega
          case rel => exact ⟨k + 1, us, vs, rfl, by go_num, by omega, hB, hR, hnx⟩
    · have hkn : k = n := by omega
      subst hkn
      go_wp2_with fail
      go_ret
      refine ⟨us, vs, rfl, TurnP.done (L := L) (by rw [HN.out]; exact hT.out), hR.out, fun l hl => ?_, hB.out⟩
      have := hT.out.sz l hl
      rw [← HLL.out] at this; omega
end Go.Proofs.Ytfmpmblhndnbeaa
