/-
  Contracts of the code's functions, part 45.
-/
import Derived.Test.YtefldbbiajkbnaaGreatDoorDaAR
/-
  The laws of package scope: ScopeDeclares walked.
-/
namespace Go.Proofs.YtefldbbiajkbnaaGreatDoor
open Go.RowKit Lx Tx Sx Go.Maps Go.WideMaps Go.Shelf
set_option maxRecDepth 100000

theorem ok_named {l : List De} (h : ∀ x ∈ l, De.Ok x) : Named l := by
  intro d hd x hx
  have hk := h d hd
  cases d with
  | data n ps cs =>
    simp only [nmsD, List.mem_cons, List.mem_append] at hx
    rcases hx with rfl | hx | hx
    · exact gd_ne hk.1
    · exact gd_ne (hk.2.1 x hx)
    · obtain ⟨c, hc, rfl⟩ := List.mem_map.1 hx
      exact gd_ne (hk.2.2 c hc).1
  | sig n t =>
    simp only [nmsD, List.mem_singleton] at hx
    exact hx ▸ gd_ne hk.1
  | bind n e =>
    simp only [nmsD, List.mem_cons] at hx
    rcases hx with rfl | hx
    · exact gd_ne hk.1
    · exact ok_nms e hk.2 x hx
theorem binds_take {p : List De} {i : Nat} {x : De} (hx : p[i]? = some x) : binds (p.take (i + 1)) = binds (p.take i) ++ bindOf x := by
  rw [List.take_add_one, hx]
  unfold binds
  simp [List.flatMap_append]
theorem binds_len : ∀ l : List De, (binds l).length ≤ l.length
  | [] => by simp [binds]
  | x :: r => by
    have h := binds_len r
    have : (bindOf x).length ≤ 1 := by cases x <;> simp [bindOf]
    unfold binds at h ⊢
    simp only [List.flatMap_cons, List.length_append, List.length_cons]
    omega
theorem binds_new {p : List De} {i : Nat} {n : Nm} {e : Ex} (hd : (binds p).Nodup) (hx : p[i]? = some (.bind n e)) : n ∉ binds (p.take i) := by
  have h1 : binds p = binds (p.take (i + 1)) ++ binds (p.drop (i + 1)) := by
    conv => lhs; rw [← List.take_append_drop (i + 1) p]
    unfold binds
    exact List.flatMap_append
  rw [h1, binds_take hx] at hd
  have h2 := (List.nodup_append.1 (List.nodup_append.1 hd).1).2.2
  intro hm
  exact h2 n hm n (by simp [bindOf]) rfl
theorem sig_mem {p : List De} {i : Nat} {n : Nm} {t : Ty} (hx : p[i]? = some (.sig n t)) : n ∈ sigs p :=
  List.mem_flatMap.2 ⟨_, List.mem_of_getElem? hx, by simp [sigOf]⟩
/-- a declaration's first two cells -/
theorem deCs_head {S : Nat → Prop} {w : World} {x : De} {cs : List Value} (h : pcD.Cs S w x cs) : cs[0]? = some (.int .i64 (kdD x : Nat)) ∧ cs[1]? = some (.string ⟨(nmD x).toArray⟩) := by
  cases x with
  | data n ps l => obtain ⟨V, v, A, a, rfl, -⟩ := h; exact ⟨rfl, rfl⟩
  | sig n t => obtain ⟨A, a, rfl, -⟩ := h; exact ⟨rfl, rfl⟩
  | bind n e => obtain ⟨P, rfl, -⟩ := h; exact ⟨rfl, rfl⟩
/-- its expression -/
theorem deCs_expr {S : Nat → Prop} {w : World} {n : Nm} {e : Ex} {cs : List Value} (h : pcD.Cs S w (.bind n e) cs) : ∃ es : List Value, pcE.Cs S w e es ∧ ∀ j u, es[j]? = some u → cs[8 + j]? = some u := by
  obtain ⟨P, rfl, h1, h2⟩ := h
  exact ⟨_, ⟨P, rfl, h1, h2⟩, fun j u hu => by rw [List.getElem?_append_right (by simp [tyZl])]; simpa [tyZl] using hu⟩
theorem nms_row {S : Nat → Prop} {w : World} {L : List Nm} {A : Option Addr} (h : NmsIn S w L A) {j : Nat} {y : Nm} (hy : L[j]? = some y) : ∃ g, A = some ⟨g, 0, none⟩ ∧ S g ∧ w.cell? ⟨g, j, none⟩ = some (.string ⟨y.toArray⟩) := by
  have hj := (List.getElem?_eq_some_iff.1 hy).1
  obtain ⟨g, hA, hg, hl⟩ := h (by intro e; rw [e] at hj; simp at hj)
  refine ⟨g, hA, hg, ?_⟩
  have := hl j (Sx.strV y) (by rw [List.getElem?_map, hy]; rfl)
  rw [Nat.zero_add] at this
  exact this

set_option maxHeartbeats 12800000 in
theorem s9_declares (s : ByteArray) (w : World) (hs : s.size ≤ maxLen) : Calls Tryz.prog 8 #[.string s] w fun e w' => e = .returned (.bool true) ∧ Below w.heap.size w w' := by
  have HAW := hidE (s9_awake w)
  have HP := hidE (fun U => sx_parse s U hs)
  obtain ⟨i0, hi0, hz0, hz1, hz2⟩ := info_parts str_info
  clear hs
  go_enter Tryz.func8, Tryz.ntmps8
  go_wp2_with fail
  refine HAW.out.mono ?_
  rintro e wa ⟨rfl, ba⟩
  have BA := hidE ba
  clear ba HAW
  go_wp2_with fail
  refine (HP.out _).mono ?_
  rintro e w1 ⟨b1, hcs⟩
  have B1 := hidE (BA.out.trans (b1.mono BA.out.size))
  clear HP
  rcases hcs with ⟨n, hn, hp, rfl⟩ | ⟨p, L, m, d, hok, hwt, hp, rfl, hm, hl⟩
  · have dn : ((n : Int) != 0) = true := neqT _ _ (by omega)
    clear hp hn b1
    go_wp2_with fail
    go_ret
    exact ⟨rfl, B1.out⟩
  · have hs1 := b1.size
    have HC := hidE (sc_Check p _ L m d w1 hl hm (fun g hg => hg.2) hwt hok)
    clear hp b1
    obtain ⟨x, k, hk⟩ : ∃ x k, chk p = (x, k) := ⟨_, _, rfl⟩
    rw [hk] at HC
    by_cases hk0 : k = 0
    · subst hk0
      obtain ⟨rfl, hnd, hsg, hfb⟩ := chk_ok hk
      have hlen : p.length ≤ 4000 := by
        have : ∀ l : List De, l.length ≤ desW l := fun l => by
          induction l with
          | nil => exact Nat.le_refl _
          | cons x r ih =>
            simp only [List.length_cons, desW]
            have : 1 ≤ x.wt := by cases x <;> simp [De.wt]
            omega
        have := this p
        omega
      have hbl : (binds p).length ≤ 4000 := by have := binds_len p; omega
      have HC2 : Hid (Calls Tryz.prog 35 #[.slice L m d] w1 fun e w' => e = .returned (.tuple #[.string ⟨#[]⟩, .int .i64 0]) ∧ Below w1.heap.size w1 w') := hidE HC.out
      have HND := hidE (fun i n e (hx : p[i]? = some (De.bind n e)) => binds_new hnd hx)
      have HSG := hidE (fun i n t (hx : p[i]? = some (De.sig n t)) => hsg n (sig_mem hx))
      have HFB := hidE hfb
      have HOK := hidE hok
      have HW := hidE hwt
      have HL := hidE hl
      have HM := hidE hm.symm
      have hm9 : m ≤ 4000 := by omega
      have HBL := hidE hbl
      clear HC hnd hsg hfb hk hok hwt hl hm hlen hbl
      go_wp2_with fail
      refine HC2.out.mono ?_
      rintro e w2 ⟨rfl, b2⟩
      have hs2 := b2.size
      have HB2 := hidE b2
      have B2 := hidE (B1.out.trans (b2.mono B1.out.size))
      clear b2 HC2
      go_wp2_with fail
      go_loopg [8, 9] m (fun gg v8 vi wr => ∃ (i j : Nat) (C : Option Addr) (cp : Nat), gg = m - i ∧ vi = .int .i64 (i : Nat) ∧ v8 = .slice C j cp ∧ i ≤ m ∧ j ≤ i ∧ Hid (Chg (fun _ => False) w2 wr) ∧ Hid (j = (binds (p.take i)).length) ∧ Hid (wr.ownsRow w2.heap.size 9 1 (.slice C j cp) j (Go.Proofs.YtefldbbiajkbnaaGreatDoor.strV (binds (p.take i)))))
      case atStart => exact ⟨0, 0, none, 0, rfl, rfl, rfl, by omega, by omega, hidE (Chg.refl _ _), hidE rfl, hidE (World.ownsRow_nil _ _ _ _)⟩
      case round =>
        obtain ⟨i, j, C, cp, rfl, rfl, rfl, hi, hj, hB, hJ, hO⟩ := hrel
        have hsr := hB.out.size
        by_cases hlt : i < m
        · obtain ⟨x, hx⟩ : ∃ x, p[i]? = some x := ⟨_, List.getElem?_eq_getElem (by rw [HM.out]; exact hlt)⟩
          obtain ⟨g, cs, rfl, hSg, hcs, hrow⟩ := HL.out.row i x hx
          have hgw : wr.heap[g]? = w1.heap[g]? := (hB.out.block g (by have := hSg.2; omega) (fun h => h)).trans (HB2.out.block g hSg.2)
          have hrow2 := Lie.keep (w := w1) hrow hgw
          obtain ⟨c0, c1⟩ := deCs_head hcs
          have f0 : wr.cell? ⟨g, i * 17, none⟩ = some (.int .i64 (kdD x : Nat)) := hrow2 0 _ c0
          have f1 : wr.cell? ⟨g, i * 17 + 1, none⟩ = some (.string ⟨(nmD x).toArray⟩) := hrow2 1 _ c1
          have hgl := lt_cell f0
          clear hSg hcs hrow hrow2 hgw c0 c1
          cases x with
          | data n ps cs2 =>
            have HT : Hid (binds (p.take (i + 1)) = binds (p.take i)) := hidE (by rw [binds_take hx]; simp [bindOf])
            replace f0 : wr.cell? ⟨g, i * 17, none⟩ = some (.int .i64 1) := f0
            clear hx f1
            go_wp2_with fail
            go_roundg (m - (i + 1))
            case measure => omega
            case rel => exact ⟨i + 1, j, C, cp, rfl, by go_num, rfl, by omega, by omega, hB, hidE (by rw [HT.out]; exact hJ.out), hidE (by rw [HT.out]; exact hO.out)⟩
          | sig n t =>
            have HT : Hid (binds (p.take (i + 1)) = binds (p.take i)) := hidE (by rw [binds_take hx]; simp [bindOf])
            replace f0 : wr.cell? ⟨g, i * 17, none⟩ = some (.int .i64 2) := f0
            clear hx f1
            go_wp2_with fail
            go_roundg (m - (i + 1))
            case measure => omega
            case rel => exact ⟨i + 1, j, C, cp, rfl, by go_num, rfl, by omega, by omega, hB, hidE (by rw [HT.out]; exact hJ.out), hidE (by rw [HT.out]; exact hO.out)⟩
          | bind n e =>
            replace f0 : wr.cell? ⟨g, i * 17, none⟩ = some (.int .i64 3) := f0
            obtain ⟨X, hX⟩ : ∃ X : ByteArray, ⟨n.toArray⟩ = X := ⟨_, rfl⟩
            replace f1 : wr.cell? ⟨g, i * 17 + 1, none⟩ = some (.string X) := hX ▸ f1
            have hn := HND.out i n e hx
            have HH : Hid (Calls Tryz.prog 37 #[.slice C j cp, .string X] wr fun e w' => e = .returned (.bool false) ∧ wr = w') := hidE (by
              have := ref2_has _ _ X wr (RowV.of_own hO.out) (by have := hJ.out; omega)
              rw [← hX] at this
              rw [show decide ((⟨n.toArray⟩ : ByteArray).data.toList ∈ binds (p.take i)) = false from decide_eq_false hn, hX] at this
              exact this)
            have HT : Hid (Go.Proofs.YtefldbbiajkbnaaGreatDoor.strV (binds (p.take (i + 1))) = Go.Proofs.YtefldbbiajkbnaaGreatDoor.strV (binds (p.take i)) ++ [.string X]) := hidE (by rw [binds_take hx, ← hX]; simp [Go.Proofs.YtefldbbiajkbnaaGreatDoor.strV, bindOf])
            have HT2 : Hid (j + 1 = (binds (p.take (i + 1))).length) := hidE (by rw [binds_take hx, List.length_append, ← hJ.out]; rfl)
            have HO3 := hidE (hO.out.alloc (.cells #[.string X] 9))
            clear hx hX hn
            go_wp2_with fail
            refine HH.out.mono ?_
            rintro e w3 ⟨rfl, rfl⟩
            clear HH
            go_wp2_with (at_builtin; refine wpList_append_lies _ rfl (.tmp 72) (.tmp 78) 56 rfl w2.heap.size 9 i0 _ 1 16 Tryz.underlying56 hi0 hz0 hz1 hz2 rfl (by decide) _ j (Go.Proofs.YtefldbbiajkbnaaGreatDoor.strV (binds (p.take i))) rfl HO3.out ⟨wr.heap.size, 0, none⟩ 1 1 [.string X] rfl rfl (new_cells' _ _ _ _ (by simp)) (by intro u hu; simp at hu; subst hu; rfl) (by omega) (by unfold maxLen; omega) (by omega) (by simp; omega) _ rfl ?_; intro g3 c3 w5 hown3 hgrow hat hlt3; have HO5 := hidE hown3; have HG5 := hidE hgrow; clear hown3 hgrow hat)
            go_roundg (m - (i + 1))
            case measure => omega
            case rel => exact ⟨i + 1, j + 1, some ⟨g3, 0, none⟩, c3, rfl, by go_num, rfl, by omega, by omega, hidE ((hB.out.alloc _).grown HG5.out (fun k hk => .inl (hO.out.lt k hk).1)), HT2, hidE (HT.out ▸ HO5.out)⟩
        · obtain rfl : i = m := by omega
          have HTA : Hid (p.take i = p) := hidE (List.take_of_length_le (by rw [HM.out]; exact Nat.le_refl _))
          have HR := hidE (HTA.out ▸ RowV.of_own hO.out : RowV wr (.slice C j cp) (Go.Proofs.YtefldbbiajkbnaaGreatDoor.strV (binds p)))
          have HB3 : Hid (Below w2.heap.size w2 wr) := hidE ⟨hB.out.os, hB.out.tape, hB.out.output, hB.out.size, fun j hj => hB.out.block j hj (fun h => h)⟩
          have HHAS : Hid (∀ (U : World), Below wr.heap.size wr U → ∀ (X : ByteArray) (q : Bool), decide (X.data.toList ∈ binds p) = q → Calls Tryz.prog 37 #[.slice C j cp, .string X] U fun e w' => e = .returned (.bool q) ∧ U = w') := hidE (fun U hU X q hq => hq ▸ ref2_has _ _ X U (HR.out.below hU) (by have := HBL.out; omega))
          obtain ⟨Wb, hWb⟩ : ∃ Wb, Wb = wr := ⟨_, rfl⟩
          subst hWb
          have HB4 := hidE (HB2.out.trans (HB3.out.mono hs2))
          have B4 := hidE (B2.out.trans (HB3.out.mono B2.out.size))
          have hs4 := HB4.out.size
          clear hB hO hJ HB3 HR hlt HTA HND B2 HB2 hs2
          go_wp2_with fail
          go_loopg [11] i (fun gg vi wr => ∃ k : Nat, gg = i - k ∧ vi = .int .i64 (k : Nat) ∧ k ≤ i ∧ Hid (Below Wb.heap.size Wb wr))
          case atStart => exact ⟨0, rfl, rfl, by omega, hidE (Below.refl _ _)⟩
          case round =>
            obtain ⟨k, rfl, rfl, hk, hB⟩ := hrel
            have hsc := hB.out.size
            by_cases hlt : k < i
            · obtain ⟨x, hx⟩ : ∃ x, p[k]? = some x := ⟨_, List.getElem?_eq_getElem (by rw [HM.out]; exact hlt)⟩
              obtain ⟨g, cs, rfl, hSg, hcs, hrow⟩ := HL.out.row k x hx
              have HKS : Hid (∀ U, Below wr.heap.size wr U → ∀ a, a < w1.heap.size → U.heap[a]? = w1.heap[a]?) := hidE (fun U hU a ha => (hU.block a (by omega)).trans ((hB.out.block a (by omega)).trans (HB4.out.block a ha)))
              have HRW : Hid (∀ U, Below wr.heap.size wr U → U.rangeAt g (k * 17) cs) := hidE (fun U hU => Lie.keep (w := w1) hrow (HKS.out U hU g hSg.2))
              have hrow2 := HRW.out wr (Below.refl _ _)
              obtain ⟨c0, c1⟩ := deCs_head hcs
              have f0 : wr.cell? ⟨g, k * 17, none⟩ = some (.int .i64 (kdD x : Nat)) := hrow2 0 _ c0
              have f1 : wr.cell? ⟨g, k * 17 + 1, none⟩ = some (.string ⟨(nmD x).toArray⟩) := hrow2 1 _ c1
              have hgl := lt_cell f0
              have HCS := hidE hcs
              clear hSg hcs hrow hrow2 c0 c1
              cases x with
              | data n ps cs2 =>
                replace f0 : wr.cell? ⟨g, k * 17, none⟩ = some (.int .i64 1) := f0
                obtain ⟨X, hX⟩ : ∃ X : ByteArray, ⟨(nmD (.data n ps cs2)).toArray⟩ = X := ⟨_, rfl⟩
                rw [hX] at f1
                obtain ⟨q, hq⟩ : ∃ q, decide (X.data.toList ∈ binds p) = q := ⟨_, rfl⟩
                have HH := hidE (HHAS.out wr hB.out X q hq)
                clear hx hX hq HCS HRW HKS
                go_wp2_with fail
                refine HH.out.mono ?_
                rintro e w3 ⟨rfl, rfl⟩
                clear HH
                go_wp2_with fail
                go_roundg (i - (k + 1))
                case measure => omega
                case rel => exact ⟨k + 1, rfl, by go_num, by omega, hB⟩
              | sig n t =>
                replace f0 : wr.cell? ⟨g, k * 17, none⟩ = some (.int .i64 2) := f0
                have hn := HSG.out k n t hx
                obtain ⟨X, hX⟩ : ∃ X : ByteArray, ⟨n.toArray⟩ = X := ⟨_, rfl⟩
                replace f1 : wr.cell? ⟨g, k * 17 + 1, none⟩ = some (.string X) := hX ▸ f1
                have HH := hidE (HHAS.out wr hB.out X true (by rw [← hX]; exact decide_eq_true hn))
                clear hx hX hn HCS HRW HKS
                go_wp2_with fail
                refine HH.out.mono ?_
                rintro e w3 ⟨rfl, rfl⟩
                clear HH
                go_wp2_with fail
                go_roundg (i - (k + 1))
                case measure => omega
                case rel => exact ⟨k + 1, rfl, by go_num, by omega, hB⟩
              | bind n e =>
                replace f0 : wr.cell? ⟨g, k * 17, none⟩ = some (.int .i64 3) := f0
                obtain ⟨X, hX⟩ : ∃ X : ByteArray, ⟨n.toArray⟩ = X := ⟨_, rfl⟩
                replace f1 : wr.cell? ⟨g, k * 17 + 1, none⟩ = some (.string X) := hX ▸ f1
                obtain ⟨q, hq⟩ : ∃ q, decide (X.data.toList ∈ binds p) = q := ⟨_, rfl⟩
                have HH := hidE (HHAS.out wr hB.out X q hq)
                have hmem := List.mem_of_getElem? hx
                obtain ⟨hf1, hf2⟩ := HFB.out n e hmem
                have hwt : e.wt ≤ 4000 := by
                  have h1 := desW_mem p _ hmem
                  have h2 := HW.out
                  simp only [De.wt] at h1
                  omega
                have hok : e.Ok := (HOK.out _ hmem).2
                have hla := len_all e
                have hlf : (freeE e).length ≤ 12000 := by omega
                have hlb : (boundE e).length ≤ 12000 := by omega
                obtain ⟨es, hes, hes2⟩ := deCs_expr HCS.out
                have HINF : Hid ((Tryz.prog.info? 39).map (·.size) = some es.length) := hidE (by rw [pcE.len hes]; kernel_rfl)
                have HROW : Hid (∀ U, Below wr.heap.size wr U → U.rangeAt g (k * 17 + 8) es) := hidE (fun U hU j u hu => by
                  have := HRW.out U hU (8 + j) u (hes2 j u hu)
                  rw [← Nat.add_assoc] at this
                  exact this)
                have HV : Hid (∀ U, Below wr.heap.size wr U → RdX (fun g => wa.heap.size ≤ g ∧ g < w1.heap.size) U e (.agg es.toArray)) := hidE (fun U hU => (rdX_cs.2 hes).keep (fun _ h => h) (fun a ha => HKS.out U hU a ha.2))
                have HFR := hidE (fun U (hU : Below wr.heap.size wr U) => sc_FreeP e _ _ U (HV.out U hU) (fun a ha => by have := hU.size; omega) hok (by omega))
                have HBO := hidE (fun U (hU : Below wr.heap.size wr U) => sc_BoundP e _ _ U (HV.out U hU) (fun a ha => by have := hU.size; omega) hok (by omega))
                have HF1 := hidE hf1
                have HF2 := hidE hf2
                have HR0 := hidE (HROW.out wr (Below.refl _ _))
                clear hx hX hq HCS HRW HKS hmem hf1 hf2 hwt hok hes hes2 HV
                go_wp2_with fail
                refine HH.out.mono ?_
                rintro e0 w3 ⟨rfl, rfl⟩
                clear HH
                go_wp2_with ((with_reducible refine wpList_load_mid ?_ 39 (.tmp 112) ?_ g (k * 17 + 8) ?_ es _ HR0.out Tryz.underlying39 ?_ HINF.out ?_); (exact rfl); (exact rfl); (exact rfl); (exact rfl))
                refine (HFR.out wr (Below.refl _ _)).mono ?_
                rintro e0 w5 ⟨A1, n1, c1, rfl, hn1, hm1, hb1⟩
                have HB5 := hidE hb1
                have hs5 := hb1.size
                have HM1 := hidE hm1
                have HN1 := hidE hn1.symm
                have h1n : n1 ≤ 12000 := by omega
                have HR5 := hidE (HROW.out w5 hb1)
                clear hm1 hb1 hn1 HFR HR0 f0 f1
                go_wp2_with ((with_reducible refine wpList_load_mid ?_ 39 (.tmp 118) ?_ g (k * 17 + 8) ?_ es _ HR5.out Tryz.underlying39 ?_ HINF.out ?_); (exact rfl); (exact rfl); (exact rfl); (exact rfl))
                refine (HBO.out w5 HB5.out).mono ?_
                rintro e0 w6 ⟨A2, n2, c2, rfl, hn2, hm2, hb2⟩
                have hs6 := hb2.size
                have HM1 := hidE (HM1.out.keep (fun _ h => h) (fun a ha => hb2.block a ha.2))
                have HM2 := hidE hm2
                have HN2 := hidE hn2.symm
                have h2n : n2 ≤ 12000 := by omega
                have HB6 := hidE (hB.out.trans ((HB5.out.trans (hb2.mono hs5)).mono hsc))
                have hs7 := HB6.out.size
                clear hm2 hb2 hn2 hla hlf hlb HBO HR5 HROW HB5 HINF
                go_wp2_with fail
                go_loopg [15] n1 (fun gg vi wx => ∃ j : Nat, gg = n1 - j ∧ vi = .int .i64 (j : Nat) ∧ j ≤ n1 ∧ wx = w6)
                case atStart => exact ⟨0, rfl, rfl, by omega, rfl⟩
                case round =>
                  obtain ⟨j, rfl, rfl, hj, rfl⟩ := hrel
                  by_cases hlt3 : j < n1
                  · obtain ⟨y, hy⟩ : ∃ y, (freeE e)[j]? = some y := ⟨_, List.getElem?_eq_getElem (by rw [HN1.out]; exact hlt3)⟩
                    obtain ⟨g1, rfl, -, fy⟩ := nms_row HM1.out hy
                    have hyb := HF1.out y (List.mem_of_getElem? hy)
                    obtain ⟨Y, hY⟩ : ∃ Y : ByteArray, ⟨y.toArray⟩ = Y := ⟨_, rfl⟩
                    rw [hY] at fy
                    have HH := hidE (HHAS.out _ HB6.out Y true (by rw [← hY]; exact decide_eq_true hyb))
                    have hgl := lt_cell fy
                    clear hy hyb hY
                    go_wp2_with fail
                    refine HH.out.mono ?_
                    rintro e0 w7 ⟨rfl, rfl⟩
                    clear HH
                    go_wp2_with fail
                    go_roundg (n1 - (j + 1))
                    case measure => omega
                    case rel => exact ⟨j + 1, rfl, by go_num, by omega, rfl⟩
                  · obtain rfl : j = n1 := by omega
                    clear hlt3 HM1 HN1 HF1
                    go_wp2_with fail
                    go_loopg [17] n2 (fun gg vi wx => ∃ j2 : Nat, gg = n2 - j2 ∧ vi = .int .i64 (j2 : Nat) ∧ j2 ≤ n2 ∧ wx = wr)
                    case atStart => exact ⟨0, rfl, rfl, by omega, rfl⟩
                    case round =>
                      obtain ⟨j2, rfl, rfl, hj2, rfl⟩ := hrel
                      by_cases hlt4 : j2 < n2
                      · obtain ⟨y, hy⟩ : ∃ y, (boundE e)[j2]? = some y := ⟨_, List.getElem?_eq_getElem (by rw [HN2.out]; exact hlt4)⟩
                        obtain ⟨g1, rfl, -, fy⟩ := nms_row HM2.out hy
                        have hyb := HF2.out y (List.mem_of_getElem? hy)
                        obtain ⟨Y, hY⟩ : ∃ Y : ByteArray, ⟨y.toArray⟩ = Y := ⟨_, rfl⟩
                        rw [hY] at fy
                        have HH := hidE (HHAS.out _ HB6.out Y false (by rw [← hY]; exact decide_eq_false hyb))
                        have hgl := lt_cell fy
                        clear hy hyb hY
                        go_wp2_with fail
                        refine HH.out.mono ?_
                        rintro e0 w7 ⟨rfl, rfl⟩
                        clear HH
                        go_wp2_with fail
                        go_roundg (n2 - (j2 + 1))
                        case measure => omega
                        case rel => exact ⟨j2 + 1, rfl, by go_num, by omega, rfl⟩
                      · obtain rfl : j2 = n2 := by omega
                        go_wp2_with fail
                        go_roundg (i - (k + 1))
                        case measure => omega
                        case rel => exact ⟨k + 1, rfl, by go_num, by omega, HB6⟩
            · obtain rfl : k = i := by omega
              go_wp2_with fail
              go_ret
              exact ⟨rfl, B4.out.trans (hB.out.mono B4.out.size)⟩
    · obtain ⟨hx, hk9⟩ := chk_bad (ok_named hok) hk hk0
      obtain ⟨X, hX⟩ : ∃ X : ByteArray, ⟨x.toArray⟩ = X := ⟨_, rfl⟩
      have hXn : ¬ X = ⟨#[]⟩ := fun e => hx (by
        have := congrArg (fun b : ByteArray => b.data.toList) (hX.trans e)
        simpa using this)
      have HC2 : Hid (Calls Tryz.prog 35 #[.slice L m d] w1 fun e w' => e = .returned (.tuple #[.string X, .int .i64 (k : Nat)]) ∧ Below w1.heap.size w1 w') := hidE (hX ▸ HC.out)
      have dq : (X.toList == []) = false := by rw [show ([] : List UInt8) = (⟨#[]⟩ : ByteArray).toList by rw [Lib.toList_data]]; exact strF X ⟨#[]⟩ hXn
      clear HC hk hk0 hok hwt hl hm hx hX hXn
      rcases hk9 with rfl | rfl | rfl
      all_goals
        go_wp2_with fail
        refine HC2.out.mono ?_
        rintro e w2 ⟨rfl, b2⟩
        have B2 := hidE (B1.out.trans (b2.mono B1.out.size))
        clear b2 HC2
        go_wp2_with fail
        go_ret
        exact ⟨rfl, B2.out⟩
end Go.Proofs.YtefldbbiajkbnaaGreatDoor
