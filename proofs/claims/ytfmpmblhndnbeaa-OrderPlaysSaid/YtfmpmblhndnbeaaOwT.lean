/-
  Order: the first count that is none; what is done at each other group.
-/
import Derived.Test.YtfmpmblhndnbeaaOwS
namespace Go.Proofs.Ytfmpmblhndnbeaa
open Go.RowKit Go.Shelf Go.Proofs.Ytfmpmblhndnbeaa.Od
set_option maxRecDepth 100000

set_option maxHeartbeats 800000 in
theorem ow_first (W : List Int) (k : Nat) (v : Value) (w : World) (h : RowA w v (zV W)) (hn : W.length ≤ 1000) (hk : W[k]? = some 0) (hf : ∀ j, j < k → W[j]? ≠ some 0) :
    Calls Try.prog 23 #[v, .int .i64 0] w fun e w' => e = .returned (.int .i64 (k : Nat)) ∧ w = w' := by
  obtain ⟨A, c, rfl, hp⟩ := h
  rw [zV_len] at *
  obtain ⟨n, hN⟩ : ∃ n, W.length = n := ⟨_, rfl⟩
  rw [hN] at hp hn ⊢
  have HP := hidE hp
  have HN := hidE hN
  have HK := hidE hk
  have HF := hidE hf
  have hkn : k < n := by rw [← hN]; exact (List.getElem?_eq_some_iff.1 hk).1
  clear hp hN hk hf
  go_enter Try.func23, Try.ntmps23
  go_wp2_with fail
  go_loopg [8] n (fun gg v wr => ∃ j : Nat, gg = n - j ∧ v = .int .i64 (j : Nat) ∧ wr = w ∧ j ≤ k)
  case atStart => exact ⟨0, rfl, rfl, rfl, by omega⟩
  case round =>
    obtain ⟨j, rfl, rfl, rfl, hj⟩ := hrel
    obtain ⟨a, rfl, _, hcc⟩ := HP.out (by omega)
    have hlt : j < n := by omega
    obtain ⟨x, hx⟩ : ∃ x, W[j]? = some x := ⟨_, List.getElem?_eq_getElem (by rw [HN.out]; exact hlt)⟩
    have hck := hcc j _ (zV_at hx)
    have hk1 : a.add (j * 1) = a.add j := by rw [Nat.mul_one]
    have HX := hidE hx
    clear hcc hx
    by_cases e : j = k
    · subst e
      have hx0 : x = 0 := by have := HX.out; rw [HK.out] at this; injection this with this; exact this.symm
      subst hx0
      go_wp2_with fail
      go_ret
      exact ⟨rfl, rfl⟩
    · have hx0 : x ≠ 0 := fun e0 => HF.out j (by omega) (by rw [HX.out, e0])
      have d1 : ((0 : Int) == x) = false := by simp; omega
      clear hx0
      go_wp2_with fail
      go_roundg (n - (j + 1))
      case measure => omega
      case rel => exact ⟨j + 1, rfl, by go_num, rfl, by omega⟩

/-- the places of others among what is used -/
def othP (H : List (List Nat)) (g : Nat) (ys : List Nat) : List Nat := (ys.map (hm H)).filter fun o => o != g
theorem othP_snoc (H : List (List Nat)) (g : Nat) (ys : List Nat) (y : Nat) : othP H g (ys ++ [y]) = othP H g ys ++ (if hm H y = g then [] else [hm H y]) := by
  unfold othP
  rw [List.map_append, List.filter_append]
  congr 1
  by_cases e : hm H y = g <;> simp [e]
def othL (H : List (List Nat)) (u : Uses) (g : Nat) (l : List Nat) : List Nat := ((l.flatMap fun x => u.getD x []).map (hm H)).filter fun o => o != g
theorem othL_snoc (H : List (List Nat)) (u : Uses) (g : Nat) (l : List Nat) (x : Nat) : othL H u g (l ++ [x]) = othL H u g l ++ othP H g (u.getD x []) := by
  unfold othL othP
  rw [List.flatMap_append, List.map_append, List.filter_append]
  simp
theorem othL_all (H : List (List Nat)) (u : Uses) (g : Nat) {l : List Nat} (h : H[g]? = some l) : othL H u g l = oth H u g := by
  unfold othL oth
  rw [List.getD_eq_getElem?_getD, h]; rfl
theorem othP_len (H : List (List Nat)) (g : Nat) (ys : List Nat) : (othP H g ys).length ≤ ys.length := by
  unfold othP
  exact Nat.le_trans (List.length_filter_le _ _) (by simp)
/-- what a callback does with another group -/
def Doer (m : Nat) (kd : Nat) (caps : Array Value) (I : Nat → List Int → World → Prop) (f : List Int → Nat → List Int) (wb : Nat) : Prop :=
  ∀ (B : Nat) (W : List Int) (o : Nat) (w : World), I B W w → B ≤ 1000000000000000000 → o < m → Calls Try.prog kd (#[.int .i64 (o : Nat)] ++ caps) w fun e w' => e = .returned (.tuple #[]) ∧ I (B + 1) (f W o) w' ∧ Chg (fun g => g = wb) w w'

set_option maxHeartbeats 1600000 in
theorem ow_others (T gbx hbx hb wb n mm cm cw g : Nat) (ag aw : Option Addr) (u ways : Uses) (H : List (List Nat)) (kd : Nat) (caps : Array Value) (I : Nat → List Int → World → Prop) (f : List Int → Nat → List Int)
    (hD : Doer mm kd caps I f wb) (ekd : ∀ args w, (callFunc kd args).run Try.prog w = .ok (.enter kd args) w) (hmono : ∀ B B' W w, I B W w → B ≤ B' → I B' W w)
    (s : Srt u H) (hn : u.length = n) (hwn : ways.length = n) (hvw : ∀ l ∈ ways, ∀ x ∈ l, x < n) (hn2 : n ≤ 500) (hHl : H.length = mm) (hm2 : mm ≤ 500) (hg : g < mm) (hwl : ∀ l ∈ ways, l.length ≤ 1001000000) (hGl : ∀ l ∈ H, l.length ≤ 500)
    (B0 : Nat) (hB0 : B0 ≤ 100000000000000000) (W0 : List Int) (w : World) (hI : I B0 W0 w)
    (gb : Blk w gbx 22 #[.slice ag mm cm]) (gr : RdB T w (.slice ag mm cm) (H.map intV)) (hbb : Blk w hbx 30 #[.slice (some ⟨hb, 0, none⟩) n n]) (hd : Blk w hb 3 (homV n (hm H)).toArray) (hw : RdB T w (.slice aw n cw) (ways.map intV))
    (hT : T ≤ w.heap.size) (x2 : hbx ≠ wb) (x3 : hb ≠ wb) (x4 : T ≤ wb) :
    Calls Try.prog 21 #[.int .i64 (g : Nat), .slice aw n cw, .func (.func kd) #[] caps, .pointer (some ⟨gbx, 0, none⟩), .pointer (some ⟨hbx, 0, none⟩)] w fun e w' => e = .returned (.tuple #[]) ∧ I (B0 + 500 * 1001000000) ((oth H ways g).foldl f W0) w' ∧ Chg (fun b => b = wb) w w' := by
  obtain ⟨l, hl⟩ : ∃ l, H[g]? = some l := ⟨_, List.getElem?_eq_getElem (by rw [hHl]; exact hg)⟩
  have hlm : l ∈ H := List.mem_iff_getElem?.2 ⟨g, hl⟩
  have hll : ∀ x ∈ l, x < n := fun x hx => by rw [← hn]; exact s.lt l hlm x hx
  have hlen := hGl l hlm
  -- the group's own row
  obtain ⟨Ag, cg, e1, hp1⟩ := gr
  rw [List.length_map, hHl] at e1 hp1
  injection e1 with e1 _ e1'
  subst e1 e1'
  obtain ⟨pg, rfl, _, hc1⟩ := hp1 (by omega)
  obtain ⟨xv, hxc, hxr⟩ := hc1 g (intV l) (by rw [List.getElem?_map, hl]; rfl)
  obtain ⟨Al, cl, rfl, hpl⟩ := hxr
  rw [intV_len] at hxc hpl
  -- the ways' rows
  obtain ⟨Aw, cw', e2, hp2⟩ := hw
  rw [List.length_map, hwn] at e2 hp2
  injection e2 with e2 _ e2'
  subst e2 e2'
  obtain ⟨L, hL⟩ : ∃ L, 1001000000 = L := ⟨_, rfl⟩
  rw [hL] at hwl ⊢
  obtain ⟨q, hq⟩ : ∃ q, l.length = q := ⟨_, rfl⟩
  rw [hq] at hxc hpl hlen
  obtain ⟨b0, -, -⟩ := blk_facts1 gb
  have hk1 : pg.add (g * 1) = pg.add g := by rw [Nat.mul_one]
  have hvb : ∀ o, o < n → hm H o < mm := fun o ho => by rw [← hHl]; exact s.home_lt (by rw [hn]; exact ho)
  have HD := hidE hD
  have HM := hidE hmono
  have HVW := hidE hvw
  have HWL := hidE hwl
  have HWN := hidE hwn
  have HI := hidE hI
  have HL := hidE hl
  have HLL := hidE hll
  have HQ := hidE hq
  have HLE := hidE hL
  have HPL := hidE hpl
  have HP2 := hidE hp2
  have HHB := hidE hbb
  have HHD := hidE hd
  have HVB := hidE hvb
  clear hD hmono hvw hwl hwn hI hl hll hq hL hpl hp2 hbb hd hvb hp1 hc1 s hlm hn hGl gb hHl
  go_enter Try.func21, Try.ntmps21
  go_wp2_with fail
  clear b0 hxc
  go_loopg [17] q (fun gg v wr => ∃ i : Nat, gg = q - i ∧ v = .int .i64 (i : Nat) ∧ i ≤ q ∧ Hid (I (B0 + i * L) ((othL H ways g (l.take i)).foldl f W0) wr) ∧ Hid (Chg (fun b => b = wb) w wr))
  case atStart => exact ⟨0, rfl, rfl, by omega, hidE (by simpa [othL] using HI.out), hidE (Chg.refl _ _)⟩
  case round =>
    obtain ⟨i, rfl, rfl, hi, hI, hC⟩ := hrel
    by_cases hlt : i < q
    · obtain ⟨pl, rfl, hpb, hcl⟩ := HPL.out (by omega)
      obtain ⟨x, hx⟩ : ∃ x, l[i]? = some x := ⟨_, List.getElem?_eq_getElem (by rw [HQ.out]; exact hlt)⟩
      have hB : Below T w wr := hC.out.toBelow hT (fun b hb e => by have e : b = wb := e; omega)
      have hcx : wr.cell? (pl.add i) = some (.int .i64 (x : Nat)) := (hB.cell (p := pl.add i) (by rw [addr_add_block]; exact hpb)).trans (hcl i _ (by simp [intV, hx]))
      have hk2 : pl.add (i * 1) = pl.add i := by rw [Nat.mul_one]
      have hxn : x < n := HLL.out x (List.mem_iff_getElem?.2 ⟨i, hx⟩)
      obtain ⟨pw, rfl, hwb, hcw⟩ := HP2.out (by omega)
      obtain ⟨ys, hys⟩ : ∃ ys, ways[x]? = some ys := ⟨_, List.getElem?_eq_getElem (by rw [HWN.out]; exact hxn)⟩
      have hysm : ys ∈ ways := List.mem_iff_getElem?.2 ⟨x, hys⟩
      obtain ⟨yv, hyc, hyr⟩ := hcw x (intV ys) (by rw [List.getElem?_map, hys]; rfl)
      have hcy : wr.cell? (pw.add x) = some yv := (hB.cell (p := pw.add x) (by rw [addr_add_block]; exact hwb)).trans hyc
      have hk3 : pw.add (x * 1) = pw.add x := by rw [Nat.mul_one]
      obtain ⟨Ay, cy, rfl, hpy⟩ := hyr
      rw [intV_len] at hcy hpy
      obtain ⟨r, hr⟩ : ∃ r, ys.length = r := ⟨_, rfl⟩
      have hrl : r ≤ L := by rw [← hr]; exact HWL.out ys hysm
      have hrm : r ≤ 1001000000 := by rw [HLE.out]; exact hrl
      rw [hr] at hcy hpy
      have hyl : ∀ y ∈ ys, y < n := HVW.out ys hysm
      have hgd : ways.getD x [] = ys := by rw [List.getD_eq_getElem?_getD, hys]; rfl
      have HX := hidE hx
      have HPY := hidE hpy
      have HR := hidE hr
      have HYL := hidE hyl
      have HGD := hidE hgd
      have hiL : B0 + (i + 1) * L ≤ 1000000000000000000 := by
        have : (i + 1) * L ≤ 500 * L := Nat.mul_le_mul_right _ (by omega)
        rw [← HLE.out] at this ⊢
        omega
      clear hcl hx hpb hcw hys hyc hwb hysm hr hpy hyl hgd
      go_wp2_with fail
      go_loopg [26] r (fun gg v wx => ∃ j : Nat, gg = r - j ∧ v = .int .i64 (j : Nat) ∧ j ≤ r ∧ Hid (I (B0 + i * L + j) ((othL H ways g (l.take i) ++ othP H g (ys.take j)).foldl f W0) wx) ∧ Hid (Chg (fun b => b = wb) w wx))
      case atStart => exact ⟨0, rfl, rfl, by omega, hidE (by simpa [othP] using hI.out), hC⟩
      case round =>
        obtain ⟨j, rfl, rfl, hj, hI2, hC2⟩ := hrel
        by_cases hjr : j < r
        · obtain ⟨py, rfl, hyb, hcy2⟩ := HPY.out (by omega)
          obtain ⟨y, hy⟩ : ∃ y, ys[j]? = some y := ⟨_, List.getElem?_eq_getElem (by rw [HR.out]; exact hjr)⟩
          have hB2 : Below T w wr := hC2.out.toBelow hT (fun b hb e => by have e : b = wb := e; omega)
          have hcv : wr.cell? (py.add j) = some (.int .i64 (y : Nat)) := (hB2.cell (p := py.add j) (by rw [addr_add_block]; exact hyb)).trans (hcy2 j _ (by simp [intV, hy]))
          have hk4 : py.add (j * 1) = py.add j := by rw [Nat.mul_one]
          have hyn : y < n := HYL.out y (List.mem_iff_getElem?.2 ⟨j, hy⟩)
          have hbx := HHB.out.chg hC2.out (show ¬ hbx = wb from x2)
          obtain ⟨c0, -, -⟩ := blk_facts1 hbx
          have hbd := HHD.out.chg hC2.out (show ¬ hb = wb from x3)
          have c1 : wr.cell? ⟨hb, y, none⟩ = some (.int .i64 (hm H y : Nat)) := by rw [hbd.cell]; simpa using homV_at (hm H) hyn
          have hom := HVB.out y hyn
          obtain ⟨o, ho⟩ : ∃ o, hm H y = o := ⟨_, rfl⟩
          rw [ho] at c1 hom
          have hsn : othP H g (ys.take (j + 1)) = othP H g (ys.take j) ++ (if o = g then [] else [o]) := by
            rw [take_snoc hy, othP_snoc, ho]
          have HSN := hidE hsn
          clear hcy2 hy hyb hbx hbd ho hsn
          by_cases e : o = g
          · have d1 : (((o : Nat) : Int) != ((g : Nat) : Int)) = false := by subst e; simp
            have hnext : Hid (I (B0 + i * L + (j + 1)) ((othL H ways g (l.take i) ++ othP H g (ys.take (j + 1))).foldl f W0) wr) := hidE (by
              rw [HSN.out, if_pos e, List.append_nil]; exact HM.out _ _ _ _ hI2.out (by omega))
            clear e
            go_wp2_with fail
            go_roundg (r - (j + 1))
            case measure => omega
            case rel => exact ⟨j + 1, rfl, by go_num, by omega, hnext, hC2⟩
          · have d1 : (((o : Nat) : Int) != ((g : Nat) : Int)) = true := by simp; omega
            have hBB : B0 + i * L + j ≤ 1000000000000000000 := by rw [Nat.add_mul] at hiL; omega
            have HCALL := hidE (HD.out _ _ o wr hI2.out hBB hom)
            have hsn2 : Hid (∀ W, W = f ((othL H ways g (l.take i) ++ othP H g (ys.take j)).foldl f W0) o → W = (othL H ways g (l.take i) ++ othP H g (ys.take (j + 1))).foldl f W0) := hidE (by
              intro W hW
              rw [HSN.out, if_neg e, ← List.append_assoc, List.foldl_append, hW]; rfl)
            clear e
            go_wp2_with fail
            refine HCALL.out.mono ?_
            rintro e w5 ⟨rfl, hI5, hC5⟩
            rw [hsn2.out _ rfl] at hI5
            have HI5 := hidE hI5
            have HC5 := hidE (hC2.out.trans' hC5 (fun _ _ h => h))
            clear hI5 hC5 HCALL
            go_wp2_with fail
            go_roundg (r - (j + 1))
            case measure => omega
            case rel => exact ⟨j + 1, rfl, by go_num, by omega, HI5, HC5⟩
        · have hjr' : j = r := by omega
          subst hjr'
          have hnext : Hid (I (B0 + (i + 1) * L) ((othL H ways g (l.take (i + 1))).foldl f W0) wr) := hidE (by
            have h1 := hI2.out
            rw [List.take_of_length_le (show ys.length ≤ j by rw [HR.out]; exact Nat.le_refl _)] at h1
            rw [take_snoc HX.out, othL_snoc, HGD.out]
            exact HM.out _ _ _ _ h1 (by rw [Nat.add_mul]; omega))
          go_wp2_with fail
          go_roundg (q - (i + 1))
          case measure => omega
          case rel => exact ⟨i + 1, rfl, by go_num, by omega, hnext, hC2⟩
    · have hiq : i = q := by omega
      subst hiq
      have hend : Hid (I (B0 + 500 * L) ((oth H ways g).foldl f W0) wr) := hidE (by
        have h1 := hI.out
        rw [List.take_of_length_le (show l.length ≤ i by rw [HQ.out]; exact Nat.le_refl _), othL_all H ways g HL.out] at h1
        exact HM.out _ _ _ _ h1 (by have : i * L ≤ 500 * L := Nat.mul_le_mul_right _ (by omega); omega))
      go_wp2_with fail
      first | go_end0 | refine bodyPost_ret (results_none rfl _ _ _) rfl ?_
      exact ⟨rfl, hend.out, hC.out⟩
end Go.Proofs.Ytfmpmblhndnbeaa
