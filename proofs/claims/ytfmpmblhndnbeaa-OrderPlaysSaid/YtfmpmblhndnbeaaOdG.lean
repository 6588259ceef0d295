/-
  Groups (layer 10): groups that are found are told one behind the other, the first one next that waits for none. No program stands here.
-/
import Derived.Test.YtfmpmblhndnbeaaOdF
namespace Go.Proofs.Ytfmpmblhndnbeaa.Od
theorem sum_add {α : Type} (l : List α) (f g : α → Nat) : (l.map fun x => f x + g x).sum = (l.map f).sum + (l.map g).sum := by
  induction l with
  | nil => rfl
  | cons a l ih => simp only [List.map_cons, List.sum_cons, ih]; omega
theorem sum_zero {α : Type} (l : List α) : (l.map fun _ => 0).sum = 0 := by
  induction l with
  | nil => rfl
  | cons a l ih => simp only [List.map_cons, List.sum_cons, ih]
theorem sum_swap {α β : Type} (a : List α) (b : List β) (f : α → β → Nat) : (a.map fun x => (b.map fun y => f x y).sum).sum = (b.map fun y => (a.map fun x => f x y).sum).sum := by
  induction a with
  | nil => simp only [List.map_nil, List.sum_nil, sum_zero]
  | cons x a ih => simp only [List.map_cons, List.sum_cons, ih, sum_add]
theorem count_in (l b : List Nat) (h : b.Nodup) : l.countP (fun y => b.contains y) = (b.map fun y => l.count y).sum := by
  induction b with
  | nil => simp
  | cons x b ih =>
    have hx := (List.nodup_cons.1 h).1
    have ih2 := ih (List.nodup_cons.1 h).2
    rw [List.map_cons, List.sum_cons, ← ih2]
    clear ih2 ih
    induction l with
    | nil => rfl
    | cons z l ih =>
      rw [List.countP_cons, List.countP_cons, List.count_cons, ih]
      by_cases e : z = x
      · subst e
        have h1 : (z :: b).contains z = true := by simp
        have h2 : b.contains z = false := by simpa using hx
        simp only [h1, h2]; simp; omega
      · have h1 : (x :: b).contains z = b.contains z := by simp [e]
        have h2 : (z == x) = false := by simpa using e
        simp only [h1, h2]; simp; omega

/-- groups by rising least numbers. -/
structure Srt (u : Uses) (G : List (List Nat)) : Prop where
  ne : ∀ g ∈ G, g ≠ []
  up : ∀ g ∈ G, g.Pairwise (· < ·)
  lt : ∀ g ∈ G, ∀ i ∈ g, i < u.length
  cl : ∀ g ∈ G, ∀ i ∈ g, ∀ j, j ∈ g ↔ Mut u i j
  dis : ∀ (k m : Nat) (g h : List Nat) (i : Nat), G[k]? = some g → G[m]? = some h → i ∈ g → i ∈ h → k = m
  all : ∀ i, i < u.length → In G i
  hd : ∀ (k m : Nat) (g h : List Nat), k < m → G[k]? = some g → G[m]? = some h → ∀ a ∈ h, ∃ b ∈ g, b < a
/-- the place of a thing's group. -/
def hm (G : List (List Nat)) (x : Nat) : Nat := G.findIdx fun g => g.contains x
variable {u us : Uses} {G : List (List Nat)}
theorem Srt.home (s : Srt u G) {x : Nat} (hx : x < u.length) : ∃ g, G[hm G x]? = some g ∧ x ∈ g := by
  have h := s.all x hx
  unfold In at h
  obtain ⟨g, h1, h2⟩ := List.mem_flatten.1 h
  have hl : hm G x < G.length := List.findIdx_lt_length_of_exists ⟨g, h1, by simpa using h2⟩
  refine ⟨G[hm G x], List.getElem?_eq_getElem hl, ?_⟩
  exact List.contains_iff_mem.1 (List.findIdx_getElem (w := hl))
theorem Srt.home_iff (s : Srt u G) {x k : Nat} {g : List Nat} (hx : x < u.length) (hk : G[k]? = some g) : hm G x = k ↔ x ∈ g := by
  obtain ⟨h, h1, h2⟩ := s.home hx
  constructor
  · intro e; rw [e, hk] at h1; injection h1 with h1; rw [h1]; exact h2
  · intro hg; exact s.dis _ _ _ _ x h1 hk h2 hg
theorem Srt.home_lt (s : Srt u G) {x : Nat} (hx : x < u.length) : hm G x < G.length := by
  obtain ⟨h, h1, _⟩ := s.home hx
  exact (List.getElem?_eq_some_iff.1 h1).1
/-- the places of other groups that a group uses, as often as it does. -/
def oth (G : List (List Nat)) (u : Uses) (g : Nat) : List Nat := (((G.getD g []).flatMap fun x => u.getD x []).map (hm G)).filter fun o => o != g
theorem oth_count (G : List (List Nat)) (u : Uses) (g k : Nat) (hgk : g ≠ k) : (oth G u g).count k = ((G.getD g []).map fun x => (u.getD x []).countP fun y => hm G y == k).sum := by
  unfold oth
  rw [List.count_filter (by simp; omega), List.count_eq_countP, List.countP_map, List.countP_flatMap]
  rfl
theorem getD_get {α : Type} {l : List α} {k : Nat} {d : α} (h : k < l.length) : l[k]? = some (l.getD k d) := by
  rw [List.getD_eq_getElem?_getD, List.getElem?_eq_getElem h]; rfl
theorem mem_getD {u : Uses} {x : Nat} {y : Nat} (h : y ∈ u.getD x []) : ∃ l ∈ u, y ∈ l := by
  obtain ⟨l, h1, h2⟩ := getD_use.1 h
  exact ⟨l, List.mem_iff_getElem?.2 ⟨x, h1⟩, h2⟩
theorem Srt.oth_eq (s : Srt u G) (hv : ∀ l ∈ us, ∀ x ∈ l, x < u.length) {g k : Nat} (hk : k < G.length) (hgk : g ≠ k) : (oth G us g).count k = ((G.getD g []).map fun x => ((G.getD k []).map fun y => (us.getD x []).count y).sum).sum := by
  rw [oth_count G us g k hgk]
  congr 1
  apply List.map_congr_left
  intro x _
  have hkk := getD_get (d := []) hk
  have hgk : G.getD k [] ∈ G := List.mem_iff_getElem?.2 ⟨k, hkk⟩
  rw [← count_in _ _ ((s.up _ hgk).imp fun h => by omega)]
  apply List.countP_congr
  intro y hy
  obtain ⟨l, h1, h2⟩ := mem_getD hy
  have := s.home_iff (hv l h1 y h2) hkk
  rw [beq_iff_eq, this, List.contains_iff_mem]
/-- as often as the one uses the other one, it is used by it. -/
theorem Srt.turn (s : Srt u G) (hv : Valid u) (t : Turn u us) {g k : Nat} (hg : g < G.length) (hk : k < G.length) (hgk : g ≠ k) : (oth G us k).count g = (oth G u g).count k := by
  have hvu : ∀ l ∈ u, ∀ x ∈ l, x < u.length := fun l hl x hx => by
    obtain ⟨i, hi⟩ := List.mem_iff_getElem?.1 hl
    exact hv i x ⟨l, hi, hx⟩
  rw [s.oth_eq t.lt hg (Ne.symm hgk), s.oth_eq hvu hk hgk, sum_swap]
  congr 1
  apply List.map_congr_left
  intro x hx
  congr 1
  apply List.map_congr_left
  intro y hy
  have hgg : G.getD g [] ∈ G := List.mem_iff_getElem?.2 ⟨g, getD_get hg⟩
  have hkk : G.getD k [] ∈ G := List.mem_iff_getElem?.2 ⟨k, getD_get hk⟩
  exact t.cnt x y (s.lt _ hgg x hx) (s.lt _ hkk y hy)
theorem oth_mem {g o : Nat} : o ∈ oth G u g ↔ o ≠ g ∧ ∃ x ∈ G.getD g [], ∃ y ∈ u.getD x [], hm G y = o := by
  unfold oth
  rw [List.mem_filter, List.mem_map]
  simp only [List.mem_flatMap]
  constructor
  · rintro ⟨⟨y, ⟨x, hx, hy⟩, e⟩, h⟩; exact ⟨by simpa using h, x, hx, y, hy, e⟩
  · rintro ⟨h, x, hx, y, hy, e⟩; exact ⟨⟨y, ⟨x, hx, hy⟩, e⟩, by simpa using h⟩
theorem Srt.oth_lt (s : Srt u G) (hv : ∀ l ∈ us, ∀ x ∈ l, x < u.length) {g : Nat} : ∀ o ∈ oth G us g, o < G.length := fun o ho => by
  obtain ⟨_, x, _, y, hy, rfl⟩ := oth_mem.1 ho
  obtain ⟨l, h1, h2⟩ := mem_getD hy
  exact s.home_lt (hv l h1 y h2)

/-- one less at a place. -/
def dec1 (W : List Int) (o : Nat) : List Int := W.modify o fun x => x - 1
def decs (W : List Int) (l : List Nat) : List Int := l.foldl dec1 W
theorem decs_len (W : List Int) (l : List Nat) : (decs W l).length = W.length := by
  unfold decs
  induction l generalizing W with
  | nil => rfl
  | cons o l ih => rw [List.foldl_cons, ih]; simp [dec1]
theorem decs_get (W : List Int) (l : List Nat) (g : Nat) : (decs W l)[g]? = W[g]?.map fun x => x - ((l.count g : Nat) : Int) := by
  unfold decs
  induction l generalizing W with
  | nil => simp
  | cons o l ih =>
    rw [List.foldl_cons, ih, dec1, List.getElem?_modify, List.count_cons]
    cases h : W[g]? with
    | none => simp
    | some x =>
      by_cases e : o = g
      · subst e; simp; omega
      · have : (o == g) = false := by simpa using e
        simp [e]
/-- the groups that are told. -/
def tld (G : List (List Nat)) (told : List Nat) : List (List Nat) := told.map fun k => G.getD k []
/-- what is kept from round to round. -/
structure InO (u : Uses) (G : List (List Nat)) (told : List Nat) (W : List Int) : Prop where
  pg : PG u (tld G told)
  nd : told.Nodup
  lt : ∀ k ∈ told, k < G.length
  len : W.length = G.length
  w : ∀ g, g < G.length → W[g]? = some (if g ∈ told then -1 else (((oth G u g).countP fun o => !told.contains o : Nat) : Int))
  cl : ∀ g ∈ told, ∀ o ∈ oth G u g, o ∈ told
theorem in_tld (s : Srt u G) {told : List Nat} (hl : ∀ k ∈ told, k < G.length) {x : Nat} (hx : x < u.length) : In (tld G told) x ↔ hm G x ∈ told := by
  unfold In tld
  rw [List.mem_flatten]
  constructor
  · rintro ⟨g, hg, hxg⟩
    obtain ⟨k, hk, rfl⟩ := List.mem_map.1 hg
    rw [(s.home_iff hx (getD_get (hl k hk))).2 hxg]; exact hk
  · intro h
    refine ⟨_, List.mem_map.2 ⟨_, h, rfl⟩, ?_⟩
    exact (s.home_iff hx (getD_get (hl _ h))).1 rfl
theorem InO.start {W : List Int} (hl : W.length = G.length) (h : ∀ g, g < G.length → W[g]? = some (((oth G u g).length : Nat) : Int)) : InO u G [] W where
  pg := .nil
  nd := .nil
  lt := by simp
  len := hl
  w g hg := by
    rw [h g hg]
    simp [List.countP_eq_length.2]
  cl := by simp
/-- who waits for none is ready, and who is ready waits for none. -/
theorem InO.zero {told : List Nat} {W : List Int} (o : InO u G told W) (s : Srt u G) (hv : Valid u) {k : Nat} (hk : k < G.length) {i : Nat} (hi : i ∈ G.getD k []) : (W[k]? = some 0) ↔ (k ∉ told ∧ Ready u (tld G told) i) := by
  have hkk : G.getD k [] ∈ G := List.mem_iff_getElem?.2 ⟨k, getD_get hk⟩
  have hil := s.lt _ hkk i hi
  rw [o.w k hk]
  by_cases hkt : k ∈ told
  · simp [hkt]
  · rw [if_neg hkt]
    have e1 : (some (((oth G u k).countP (fun o => !told.contains o) : Nat) : Int) = some 0) ↔ (oth G u k).countP (fun o => !told.contains o) = 0 := by
      constructor
      · intro h; injection h with h; omega
      · intro h; rw [h]; rfl
    rw [e1, List.countP_eq_zero]
    constructor
    · intro h
      refine ⟨hkt, ?_⟩
      have hcl : ∀ a, (a < u.length ∧ (a ∈ G.getD k [] ∨ In (tld G told) a)) → ∀ b, Use u a b → (b < u.length ∧ (b ∈ G.getD k [] ∨ In (tld G told) b)) := by
        rintro a ⟨hal, ha⟩ b hu
        have hbl := hv a b hu
        refine ⟨hbl, ?_⟩
        rcases ha with ha | ha
        · by_cases e : hm G b = k
          · exact .inl ((s.home_iff hbl (getD_get hk)).1 e)
          · have := h (hm G b) (oth_mem.2 ⟨e, a, ha, b, getD_use.2 hu, rfl⟩)
            simp at this
            exact .inr ((in_tld s o.lt hbl).2 this)
        · rw [in_tld s o.lt hal] at ha
          by_cases e : hm G b = hm G a
          · exact .inr ((in_tld s o.lt hbl).2 (e ▸ ha))
          · exact .inr ((in_tld s o.lt hbl).2 (o.cl _ ha _ (oth_mem.2 ⟨e, a, (s.home_iff hal (getD_get (o.lt _ ha))).1 rfl, b, getD_use.2 hu, rfl⟩)))
      intro j hj
      rcases (closed_rch (S := fun a => a < u.length ∧ (a ∈ G.getD k [] ∨ In (tld G told) a)) hcl hj ⟨hil, .inl hi⟩).2 with h1 | h1
      · exact .inl ((s.cl _ hkk i hi j).1 h1)
      · exact .inr h1
    · rintro ⟨_, hr⟩ x hx
      obtain ⟨h1, a, ha, b, hb, rfl⟩ := oth_mem.1 hx
      have hu := getD_use.1 hb
      have hbl := hv a b hu
      have hib : Rch u i b := ((s.cl _ hkk i hi a).1 ha).1.trans (.one hu)
      rcases hr b hib with h2 | h2
      · exact absurd ((s.home_iff hbl (getD_get hk)).2 ((s.cl _ hkk i hi b).2 h2)) h1
      · simp; exact (in_tld s o.lt hbl).1 h2
/-- one is left. -/
theorem InO.left {told : List Nat} {W : List Int} (o : InO u G told W) (s : Srt u G) (hv : Valid u) (h : told.length < G.length) : ∃ k, k < G.length ∧ W[k]? = some 0 := by
  obtain ⟨k, hk, hkt⟩ : ∃ k, k < G.length ∧ k ∉ told := by
    refine Classical.byContradiction (fun hn => ?_)
    have := (List.nodup_range (n := G.length)).length_le_of_subset (l₂ := told) (List.subset_def.2 (fun {a} ha => by
      refine Classical.byContradiction (fun h2 => hn ⟨a, List.mem_range.1 ha, h2⟩)))
    simp at this
    omega
  have hkk : G.getD k [] ∈ G := List.mem_iff_getElem?.2 ⟨k, getD_get hk⟩
  obtain ⟨i, hi⟩ : ∃ i, i ∈ G.getD k [] := by
    cases h : G.getD k [] with
    | nil => exact absurd h (s.ne _ hkk)
    | cons a r => exact ⟨a, by simp⟩
  have hil := s.lt _ hkk i hi
  obtain ⟨q, hq, hqn, hqr⟩ := some_ready (l := tld G told) hv i hil (fun hin => hkt (by
    have := (in_tld s o.lt hil).1 hin
    rwa [(s.home_iff hil (getD_get hk)).2 hi] at this))
  have hqk := s.home_lt hq
  exact ⟨hm G q, hqk, (o.zero s hv hqk ((s.home_iff hq (getD_get hqk)).1 rfl)).2 ⟨fun h => hqn ((in_tld s o.lt hq).2 h), hqr⟩⟩
theorem tld_snoc (told : List Nat) (k : Nat) : tld G (told ++ [k]) = tld G told ++ [G.getD k []] := by unfold tld; simp
/-- the first one that waits for none is next. -/
theorem InO.push {told : List Nat} {W : List Int} (o : InO u G told W) (s : Srt u G) (hv : Valid u) (t : Turn u us) {k : Nat} (hk : k < G.length) (h0 : W[k]? = some 0) (hf : ∀ m, m < k → W[m]? ≠ some 0) :
    InO u G (told ++ [k]) (decs (W.set k (-1)) (oth G us k)) := by
  have hkk : G.getD k [] ∈ G := List.mem_iff_getElem?.2 ⟨k, getD_get hk⟩
  obtain ⟨i, hi, hleast⟩ : ∃ i ∈ G.getD k [], ∀ j ∈ G.getD k [], i ≤ j := by
    have hup := s.up _ hkk
    cases h : G.getD k [] with
    | nil => exact absurd h (s.ne _ hkk)
    | cons a r =>
      rw [h] at hup
      refine ⟨a, by simp, fun j hj => ?_⟩
      rcases List.mem_cons.1 hj with rfl | hj
      · exact Nat.le_refl _
      · exact Nat.le_of_lt ((List.pairwise_cons.1 hup).1 j hj)
  have hil := s.lt _ hkk i hi
  obtain ⟨hkt, hr⟩ := (o.zero s hv hk hi).1 h0
  have hmi : hm G i = k := (s.home_iff hil (getD_get hk)).2 hi
  have hz : ∀ x ∈ oth G u k, x ∈ told := by
    have := o.w k hk
    rw [h0, if_neg hkt] at this
    injection this with this
    have h1 : (oth G u k).countP (fun o => !told.contains o) = 0 := by omega
    rw [List.countP_eq_zero] at h1
    intro x hx
    have := h1 x hx
    simpa using this
  have hlt' : ∀ x ∈ told ++ [k], x < G.length := fun x hx => by
    rcases List.mem_append.1 hx with h | h
    · exact o.lt x h
    · rw [List.mem_singleton.1 h]; exact hk
  exact {
    pg := by
      rw [tld_snoc]
      refine o.pg.push hv hil (fun hin => hkt (hmi ▸ (in_tld s o.lt hil).1 hin)) hr (fun q hq hqn hqr => ?_) _ (s.up _ hkk) (s.cl _ hkk i hi)
      have hql : q < u.length := by omega
      have hqh := s.home_lt hql
      have hqm : q ∈ G.getD (hm G q) [] := (s.home_iff hql (getD_get hqh)).1 rfl
      have hlt : hm G q < k := by
        rcases Nat.lt_trichotomy (hm G q) k with h | h | h
        · exact h
        · rw [h] at hqm; have := hleast q hqm; omega
        · obtain ⟨b, hb, hbq⟩ := s.hd k (hm G q) _ _ h (getD_get hk) (getD_get hqh) q hqm
          have := hleast b hb; omega
      exact hf _ hlt ((o.zero s hv hqh hqm).2 ⟨fun h => hqn ((in_tld s o.lt hql).2 h), hqr⟩)
    nd := List.nodup_append.2 ⟨o.nd, by simp, fun x hx y hy e => hkt (by rw [List.mem_singleton.1 hy] at e; exact e ▸ hx)⟩
    lt := hlt'
    len := by rw [decs_len, List.length_set, o.len]
    cl := fun g hg x hx => by
      rcases List.mem_append.1 hg with h | h
      · exact List.mem_append.2 (.inl (o.cl g h x hx))
      · rw [List.mem_singleton.1 h] at hx
        exact List.mem_append.2 (.inl (hz x hx))
    w := fun g hg => by
      rw [decs_get, List.getElem?_set]
      by_cases e : k = g
      · subst e
        have hno : (oth G us k).count k = 0 := List.count_eq_zero.2 (fun h => (oth_mem.1 h).1 rfl)
        rw [if_pos rfl, if_pos (by rw [o.len]; exact hk), if_pos (by simp), hno]; simp
      · rw [if_neg e, o.w g hg, s.turn hv t hg hk (fun h => e h.symm)]
        by_cases hgt : g ∈ told
        · have hno : (oth G u g).count k = 0 := List.count_eq_zero.2 (fun h => hkt (o.cl g hgt k h))
          rw [if_pos hgt, if_pos (by simp [hgt]), hno]; simp
        · rw [if_neg hgt, if_neg (by simp [hgt]; omega)]
          have : (oth G u g).countP (fun o => !told.contains o) = (oth G u g).countP (fun o => !(told ++ [k]).contains o) + (oth G u g).count k := by
            generalize oth G u g = l
            induction l with
            | nil => rfl
            | cons x l ih =>
              rw [List.countP_cons, List.countP_cons, List.count_cons, ih]
              by_cases ex : x = k
              · subst ex; simp [hkt]; omega
              · have : (x == k) = false := by simpa using ex
                by_cases hxt : x ∈ told <;> simp [hxt, ex] <;> omega
          rw [this]; simp }
/-- all are told: the groups. -/
theorem InO.done {told : List Nat} {W : List Int} (o : InO u G told W) (s : Srt u G) (h : G.length ≤ told.length) : GrpOK u (tld G told) := by
  refine o.pg.ok fun i hi => (in_tld s o.lt hi).2 ?_
  refine Classical.byContradiction (fun hn => ?_)
  have hnd : (hm G i :: told).Nodup := List.nodup_cons.2 ⟨hn, o.nd⟩
  have := hnd.length_le_of_subset (l₂ := List.range G.length) (List.subset_def.2 (fun {a} ha => by
    rcases List.mem_cons.1 ha with rfl | ha
    · exact List.mem_range.2 (s.home_lt hi)
    · exact List.mem_range.2 (o.lt a ha)))
  simp at this
  omega
end Go.Proofs.Ytfmpmblhndnbeaa.Od
