/-
  OrderPlays: the groups of any things, and their order, are as the document says. The walk.
-/
import Derived.Test.YtfmpmblhndnbeaaOxK
namespace Go.Proofs.Ytfmpmblhndnbeaa
open Go.RowKit Go.Shelf Go.ChangeShapes Go.WideShapes Go.Proofs.Ytfmpmblhndnbeaa.Od
set_option maxRecDepth 100000

theorem mem_flat_len {l : List Nat} {G : List (List Nat)} (h : l ∈ G) : l.length ≤ G.flatten.length := by
  obtain ⟨a, b, rfl⟩ := List.append_of_mem h
  simp only [List.flatten_append, List.flatten_cons, List.length_append]
  omega
theorem ne_flat_len : ∀ l : List (List Nat), (∀ g ∈ l, g ≠ []) → l.length ≤ l.flatten.length := by
  intro l
  induction l with
  | nil => intro _; simp
  | cons g l ih =>
    intro h
    have := ih (fun x hx => h x (by simp [hx]))
    have h3 : 0 < g.length := List.length_pos_iff.2 (h g (by simp))
    simp only [List.length_cons, List.flatten_cons, List.length_append]
    omega
/-- two answers on the same things, one after the other, are one -/
theorem post_same {z : List (List Int)} {w3 w4 : World} {v3 v4 : Value} {x3 x4 : Int} (hn : z.length ≤ 1000000)
    (h3 : (thereB z.length z = true ∧ x3 = 0 ∧ RdU w3 v3 (groups (natU z))) ∨ (thereB z.length z = false ∧ x3 = 1 ∧ v3 = .slice none 0 0))
    (h4 : (thereB z.length z = true ∧ x4 = 0 ∧ RdU w4 v4 (groups (natU z))) ∨ (thereB z.length z = false ∧ x4 = 1 ∧ v4 = .slice none 0 0)) (b4 : Below w3.heap.size w3 w4) :
    x4 = x3 ∧ ∃ G : List (List Nat), RdU w4 v3 G ∧ RdU w4 v4 G ∧ G.length ≤ 1000000 ∧ ∀ l ∈ G, l.length ≤ 1000000 := by
  rcases h3 with ⟨t3, rfl, r3⟩ | ⟨t3, rfl, rfl⟩ <;> rcases h4 with ⟨t4, rfl, r4⟩ | ⟨t4, rfl, rfl⟩
  · have hok := groups_ok (natU_valid t3)
    have hfl := hok.flat_len
    rw [natU_len] at hfl
    have h1 := ne_flat_len _ hok.ne
    exact ⟨rfl, _, r3.below b4, r4, by omega, fun l hl => by have := mem_flat_len hl; omega⟩
  · rw [t3] at t4; cases t4
  · rw [t3] at t4; cases t4
  · exact ⟨rfl, [], (GI.nil 0 _).rd, (GI.nil 0 _).rd, by simp, fun l hl => by simp at hl⟩

namespace OrderPlays
set_option maxHeartbeats 6400000 in
theorem walk (z : List (List Int)) (v : Value) (w : World) (hz : RdR w v (z.map zV)) :
    Calls Try.prog 3 #[v] w fun e w' => e = .returned (.bool true) ∧ Below w.heap.size w w' := by
  obtain ⟨A, c, hsh⟩ : ∃ A c, v = .slice A z.length c := by
    obtain ⟨A, c, rfl, -⟩ := hz
    exact ⟨A, c, by rw [List.length_map]⟩
  subst hsh
  obtain ⟨n, hn⟩ : ∃ n, z.length = n := ⟨_, rfl⟩
  rw [hn] at hz ⊢
  have HZ := hidE hz
  have HN := hidE hn
  have HC := hidE (ow_awake w)
  clear hz hn
  go_enter Try.func3, Try.ntmps3
  go_wp2_with fail
  refine HC.out.mono ?_
  rintro e w1 ⟨rfl, b1⟩
  have hz1 : RdR w1 (.slice A n c) (z.map zV) := ((RdR.b HZ.out).below b1 (Nat.le_refl _)).r b1.size
  obtain ⟨b, hb⟩ : ∃ b, fewB (z.map zV) 40 = b := ⟨_, rfl⟩
  have hf := od_few (.slice A n c) (z.map zV) 40 w1 hz1 (by omega)
  rw [hb] at hf
  have HF := hidE hf
  have HB1 := hidE b1
  have HZ1 := hidE hz1
  have HB := hidE hb
  clear HC b1 hz1 hf hb
  go_wp2_with fail
  refine HF.out.mono ?_
  rintro e w2 ⟨rfl, rfl⟩
  clear HF
  cases b with
  | false =>
    go_wp2_with fail
    go_ret
    exact ⟨rfl, HB1.out⟩
  | true =>
    obtain ⟨hl1, hl2⟩ := few_len HB.out
    rw [HN.out] at hl1
    have HG := hidE (ow_Groups _ z w1 HZ1.out (by rw [HN.out]; omega) (fun l hl => by have := hl2 l hl; omega))
    have HL2 := hidE hl2
    clear hl2
    go_wp2_with fail
    refine HG.out.mono ?_
    rintro e w3 ⟨v3, x3, rfl, b3, h3⟩
    have hz3 : RdR w3 (.slice A n c) (z.map zV) := ((RdR.b HZ1.out).below b3 (Nat.le_refl _)).r b3.size
    have HR := hidE (ow_Ref _ z w3 hz3 (by rw [HN.out]; omega) (fun l hl => by have := HL2.out l hl; omega))
    have HB3 := hidE (HB1.out.trans (b3.mono HB1.out.size))
    have HH3 := hidE h3
    clear HG b3 h3 hz3
    go_wp2_with fail
    refine HR.out.mono ?_
    rintro e w4 ⟨v4, x4, rfl, b4, h4⟩
    obtain ⟨hx, G, r3, r4, hG1, hG2⟩ := post_same (by rw [HN.out]; omega) HH3.out h4 b4
    subst hx
    have hs := od_same v3 v4 G G w4 r3 r4 hG1 hG2
    rw [decide_eq_true rfl] at hs
    have HS := hidE hs
    have HB4 := hidE (HB3.out.trans (b4.mono HB3.out.size))
    clear HR HH3 h4 b4 r3 r4 hG1 hG2 hs
    go_wp2_with fail
    refine HS.out.mono ?_
    rintro e w5 ⟨rfl, b5⟩
    have HB5 := hidE (HB4.out.trans (b5.mono HB4.out.size))
    clear HS b5
    go_wp2_with fail
    go_ret
    exact ⟨by simp, HB5.out⟩
/-! ### the row's step -/
theorem lifted (os : Os) (started : os.Started) (H : Type) (enc : TypeId × Value → H) :
    ReturnsInHanded {} Try.checked os 3 .any (Rows.orderPlaysSpec.pre6 enc Try.prog Try.f3 Rows.orderPlaysRow.domain false) (Rows.orderPlaysSpec.post enc Try.prog Try.f3 false true false false) := by
  refine returnsInHanded_of_change (C := Try.checked) ownK started (by kernel_rfl) Try.func3
    (ChangeSpec.witness6 (enc := enc) (C := Try.checked) false ⟨#[], #[.slice none 0 0], []⟩ 8 (by kernel_rfl) (by kernel_rfl) (by kernel_rfl) (by kernel_rfl)) ?_
  intro W base args ds gs before hval0 hW hcnd _
  have hval : ∀ (j : Nat) t v, Try.f3.params[j]? = some t → args[j]? = some v → Value.okWide Try.prog W .any base t v := hval0
  have hW' := hW
  obtain ⟨p, q, hA0, hV, rfl, hfz, hnd⟩ := hW
  have hA : DataW.TrodAll enc Try.prog W 0 (fun _ => true) true Try.f3.params.toList args.toList ds p := hA0
  rw [Try.params3] at hA hval
  obtain ⟨v0, vs0, d0, ds0, p0, q0, hargs, rfl, rfl, h0, r0⟩ := trodAll_cons hA
  obtain ⟨rfl, rfl, rfl⟩ := trodAll_nil r0
  obtain rfl : args = #[v0] := by cases args; simp_all
  obtain ⟨rfl, rfl⟩ := trodVars_none hV
  obtain ⟨A0, n0, c0, rfl⟩ := okWide_slice und_rows (hval 0 22 v0 rfl rfl)
  obtain ⟨z0, hz0⟩ := open_zz h0
  clear hA0 hval0
  simp only [List.append_nil] at hW'
  have lt0 : ∀ x ∈ p0, x.block < W.heap.size := fun x hx => by simpa using hW'.lt x (by simp [hx])
  refine (walk z0 _ W hz0).mono fun e W' ⟨he, hg⟩ => ?_
  subst he
  have ha := trodAll_cons_mk (Below.trod laidK (by kernel_rfl) (of_decide_eq_true (by kernel_rfl)) h0 hg lt0) trodAll_mk0
  simp only [List.append_nil] at ha
  exact ⟨_, rfl, _, _, _, [], p0, [], hW', trodAll_cons_mk (shut_bool Try.underlying4 _) trodAll_mk0, ha, rfl, hg.frame _, fun h => by cases h⟩

theorem over : Rows.orderPlaysRow.holds Try.pinned (OpenSpec.ofChange Rows.orderPlaysSpec) :=
  OpenClaim.holds_of_wide 3 Try.f3 rfl rfl rfl rfl rfl rfl rfl ⟨rfl, rfl, rfl, rfl, rfl⟩ rfl rfl rfl rfl rfl (by kernel_rfl) Try.func3 (by kernel_rfl)
    (of_decide_eq_true (by kernel_rfl)) (by unfold Func.isWrapper; first | (rw [if_pos (by decide +kernel)]; kernel_rfl) | (rw [if_neg (by decide +kernel)]; exact ⟨rfl, rfl⟩))
    (fun os started H enc _ => lifted os started H enc)

/-- the statement -/
theorem proved : Rows.OrderPlaysSaid :=
  over
#print axioms proved
end OrderPlays
end Go.Proofs.Ytfmpmblhndnbeaa
