/-
  Order: Groups: the walk.
-/
import Derived.Test.YtfmpmblhndnbeaaOwQ
import Derived.Test.YtfmpmblhndnbeaaOwV
namespace Go.Proofs.Ytfmpmblhndnbeaa
open Go.RowKit Go.Shelf Go.Proofs.Ytfmpmblhndnbeaa.Od
set_option maxRecDepth 100000

def natU (z : List (List Int)) : Uses := z.map fun l => l.map Int.toNat
theorem there_at {z : List (List Int)} {n : Nat} (h : thereB n z = true) : ∀ l ∈ z, ∀ x ∈ l, 0 ≤ x ∧ x < (n : Int) := by
  intro l hl x hx
  unfold thereB at h
  have h1 := (List.all_eq_true.1 h) l hl
  have h2 : l.any (offB n) = false := by simpa using h1
  have h3 : offB n x = false := by
    have := List.any_eq_false.1 h2 x hx
    simpa using this
  unfold offB at h3
  simp at h3
  omega
theorem natU_V {z : List (List Int)} (h : thereB z.length z = true) : (natU z).map intV = z.map zV := by
  unfold natU
  rw [List.map_map]
  refine List.map_congr_left fun l hl => ?_
  show intV (l.map Int.toNat) = zV l
  unfold intV zV
  rw [List.map_map]
  refine List.map_congr_left fun x hx => ?_
  have := (there_at h l hl x hx).1
  show Value.int .i64 ((x.toNat : Nat) : Int) = .int .i64 x
  rw [Int.toNat_of_nonneg this]
theorem natU_len (z : List (List Int)) : (natU z).length = z.length := by simp [natU]
theorem natU_valid {z : List (List Int)} (h : thereB z.length z = true) : Valid (natU z) := by
  intro i j ⟨l, h1, h2⟩
  unfold natU at h1
  rw [List.getElem?_map] at h1
  cases hz : z[i]? with
  | none => rw [hz] at h1; cases h1
  | some m =>
    rw [hz] at h1; injection h1 with h1; subst h1
    obtain ⟨x, hx, rfl⟩ := List.mem_map.1 h2
    have := there_at h m (List.mem_iff_getElem?.2 ⟨i, hz⟩) x hx
    rw [natU_len]; omega
theorem natU_sz {z : List (List Int)} {L : Nat} (h : ∀ l ∈ z, l.length ≤ L) : ∀ l ∈ natU z, l.length ≤ L := by
  intro l hl
  unfold natU at hl
  obtain ⟨m, hm, rfl⟩ := List.mem_map.1 hl
  rw [List.length_map]; exact h m hm
theorem RdU.r {w : World} {v : Value} {u : Uses} (h : RdU w v u) : RdR w v (u.map intV) := by
  obtain ⟨A, c, h1, h2⟩ := h
  refine ⟨A, c, by rw [List.length_map]; exact h1, fun h0 => ?_⟩
  rw [List.length_map] at h0
  obtain ⟨a, e1, e2, e3⟩ := h2 h0
  refine ⟨a, e1, e2, fun j l hl => ?_⟩
  rw [List.getElem?_map] at hl
  cases hj : u[j]? with
  | none => rw [hj] at hl; cases hl
  | some g => rw [hj] at hl; injection hl with hl; subst hl; exact e3 j g hj
/-- what Groups leaves -/
def GrPost (z : List (List Int)) (w : World) (e : Ending) (w' : World) : Prop :=
  ∃ v' x, e = .returned (.tuple #[v', .int .i64 x]) ∧ Below w.heap.size w w' ∧ ((thereB z.length z = true ∧ x = 0 ∧ RdU w' v' (groups (natU z))) ∨ (thereB z.length z = false ∧ x = 1 ∧ v' = .slice none 0 0))
theorem srt_sz {u : Uses} {H : List (List Nat)} (s : Srt u H) : H.length ≤ u.length ∧ ∀ l ∈ H, l.length ≤ u.length := by
  have hd : H.Pairwise fun a b => ∀ x ∈ a, ∀ y ∈ b, x ≠ y := by
    rw [List.pairwise_iff_getElem]
    intro i j hi hj hij x hx y hy e
    subst e
    have := s.dis i j _ _ x (List.getElem?_eq_getElem hi) (List.getElem?_eq_getElem hj) hx hy
    omega
  refine ⟨?_, fun l hl => lt_of_all ((s.up l hl).imp fun h => by omega) (s.lt l hl)⟩
  have hnd : H.flatten.Nodup := by
    unfold List.Nodup
    rw [List.pairwise_flatten]
    exact ⟨fun g hg => (s.up g hg).imp (fun h => by omega), hd⟩
  have h1 := lt_of_all hnd (fun j hj => by
    obtain ⟨g, hg, hi⟩ := List.mem_flatten.1 hj
    exact s.lt g hg j hi)
  have h2 : ∀ l : List (List Nat), (∀ g ∈ l, g ≠ []) → l.length ≤ l.flatten.length := by
    intro l
    induction l with
    | nil => intro _; simp
    | cons g l ih =>
      intro h
      have := ih (fun x hx => h x (by simp [hx]))
      have h3 : 0 < g.length := List.length_pos_iff.2 (h g (by simp))
      simp only [List.length_cons, List.flatten_cons, List.length_append]
      omega
  exact Nat.le_trans (h2 H s.ne) h1

set_option maxHeartbeats 1600000 in
theorem ow_Groups (v : Value) (z : List (List Int)) (w : World) (h : RdR w v (z.map zV)) (hn : z.length ≤ 500) (hl : ∀ l ∈ z, l.length ≤ 1000000) :
    Calls Try.prog 9 #[v] w (GrPost z w) := by
  have HC := hidE (ow_things v z w h (by omega) (fun l hl' => by have := hl l hl'; omega))
  have hsh := h
  obtain ⟨A, c, rfl, -⟩ := hsh
  rw [List.length_map] at h HC ⊢
  obtain ⟨n, hN⟩ : ∃ n, z.length = n := ⟨_, rfl⟩
  rw [hN] at hn h HC ⊢
  obtain ⟨b, hb⟩ : ∃ b, thereB n z = b := ⟨_, rfl⟩
  rw [hb] at HC
  have hb' : thereB z.length z = b := by rw [hN]; exact hb
  have HH := hidE h
  have HL := hidE hl
  have HN := hidE hN
  have HB := hidE hb'
  have d5 : decide ((500 : Int) < (n : Nat)) = false := by simp; omega
  clear h hl hN hb hb'
  cases b with
  | false =>
    go_enter Try.func9, Try.ntmps9
    go_wp2_with fail
    refine HC.out.mono ?_
    rintro e w1 ⟨rfl, b1⟩
    have HB1 := hidE b1
    clear HC b1
    go_wp2_with fail
    (try simp only [Exit.inBlock, Exit.then]); refine bodyPost_ret (results_tmp2 rfl _ _ _) rfl ?_
    exact ⟨_, _, rfl, HB1.out, .inr ⟨HB.out, rfl, rfl⟩⟩
  | true =>
    obtain ⟨u, hu⟩ : ∃ u, natU z = u := ⟨_, rfl⟩
    have hV := natU_V HB.out
    have hval := natU_valid HB.out
    have hlen := natU_len z
    have hsz := natU_sz HL.out
    rw [hu] at hV hval hlen hsz
    rw [HN.out] at hlen
    have HV := hidE hV
    have HVAL := hidE hval
    have HLEN := hidE hlen
    have HSZ := hidE hsz
    have HU := hidE hu
    clear hV hval hlen hsz hu
    go_enter Try.func9, Try.ntmps9
    go_wp2_with fail
    refine HC.out.mono ?_
    rintro e w1 ⟨rfl, b1⟩
    have hb1 : RdB w.heap.size w1 (.slice A n c) (u.map intV) := by rw [HV.out]; exact (RdR.b HH.out).below b1 (Nat.le_refl _)
    have hr1 : RdU w1 (.slice A n c) u := RdR.u (hb1.r b1.size)
    have HT := hidE (ow_turned u _ w1 hr1 HVAL.out (by have := HLEN.out; omega) HSZ.out)
    have HB1 := hidE b1
    have HR1 := hidE hb1
    clear HC b1 hb1 hr1
    go_wp2_with fail
    refine HT.out.mono ?_
    rintro e w2 ⟨us, vs, rfl, t1, t2, t3, b2⟩
    rw [HLEN.out]
    have hU2 : RdB w2.heap.size w2 (.slice A n c) (u.map intV) := (HR1.out.below b2 HB1.out.size).mono (by have := HB1.out.size; have := b2.size; omega)
    have hUS2 := t2.rd n
    have husl : us.length = n := by rw [t1.len, HLEN.out]
    rw [husl] at hUS2
    have HG := hidE (ow_together u us n c n A (some ⟨w1.heap.size, 0, none⟩) w2 HVAL.out HLEN.out hn (fun l hl => by have := HSZ.out l hl; omega) (fun l hl => by have := t3 l hl; omega) t1 hU2 hUS2)
    have HB2 := hidE b2
    have HU2 := hidE hU2
    have HUS2 := hidE hUS2
    have HTU := hidE t1
    have HT3 := hidE t3
    clear HT t1 t2 t3 b2 hU2 hUS2 husl
    go_wp2_with fail
    refine HG.out.mono ?_
    rintro e w3 ⟨H, v3, rfl, s3, r3, b3⟩
    have hr3 := r3
    obtain ⟨A3, c3, rfl, -⟩ := hr3
    obtain ⟨m, hm⟩ : ∃ m, H.length = m := ⟨_, rfl⟩
    rw [hm] at r3 ⊢
    obtain ⟨z1, z2⟩ := srt_sz s3
    have HI := hidE (ow_inOrder u _ H n m c3 c n A3 A (some ⟨w1.heap.size, 0, none⟩) w3 s3 HVAL.out HTU.out HLEN.out hn hm (by have := HLEN.out; omega) (fun l hl => by have := HSZ.out l hl; omega) (fun l hl => by have := HT3.out l hl; omega) (fun l hl => by have := z2 l hl; have := HLEN.out; omega) r3
      ((HU2.out.below b3 (Nat.le_refl _)).mono b3.size) ((HUS2.out.below b3 (Nat.le_refl _)).mono b3.size))
    have HB3 := hidE b3
    clear HG s3 r3 b3 z1 z2 hm
    go_wp2_with fail
    refine HI.out.mono ?_
    rintro e w4 ⟨v4, told, rfl, g4, r4, b4⟩
    have HE : Hid (RdU w4 v4 (groups (natU z)) ∧ Below w.heap.size w w4) := hidE ⟨by
      rw [HU.out, ← groups_one HVAL.out g4]; exact r4, ((HB1.out.trans (HB2.out.mono HB1.out.size)).trans (HB3.out.mono (by have := HB1.out.size; have := HB2.out.size; omega))).trans (b4.mono (by have := HB1.out.size; have := HB2.out.size; have := HB3.out.size; omega))⟩
    clear HI g4 r4 b4
    go_wp2_with fail
    (try simp only [Exit.inBlock, Exit.then]); refine bodyPost_ret (results_tmp2 rfl _ _ _) rfl ?_
    exact ⟨_, _, rfl, HE.out.2, .inl ⟨HB.out, rfl, HE.out.1⟩⟩
end Go.Proofs.Ytfmpmblhndnbeaa
