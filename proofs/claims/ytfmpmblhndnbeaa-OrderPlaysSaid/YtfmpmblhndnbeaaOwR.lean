/-
  Order: the place of each thing's group.
-/
import Derived.Test.YtfmpmblhndnbeaaOwN
namespace Go.Proofs.Ytfmpmblhndnbeaa
open Go.RowKit Go.Shelf Go.Proofs.Ytfmpmblhndnbeaa.Od
set_option maxRecDepth 100000

def homV (n : Nat) (f : Nat → Nat) : List Value := (List.range n).map fun j => .int .i64 (f j : Nat)
theorem homV_at {n x : Nat} (f : Nat → Nat) (h : x < n) : (homV n f)[x]? = some (.int .i64 (f x : Nat)) := by
  unfold homV; rw [List.getElem?_map, List.getElem?_range h]; rfl
theorem homV_set {n : Nat} (f : Nat → Nat) (x k : Nat) : (homV n f).set x (.int .i64 (k : Nat)) = homV n (fun j => if j = x then k else f j) := by
  refine List.ext_getElem? fun j => ?_
  rw [List.getElem?_set]
  unfold homV
  by_cases hj : j < n
  · rw [List.getElem?_map, List.getElem?_map, List.getElem?_range hj]
    by_cases e : x = j
    · subst e; simp [hj]
    · have : ¬ j = x := fun h => e h.symm
      simp [e, this]
  · have h1 : (List.range n)[j]? = none := List.getElem?_eq_none (by simp; omega)
    rw [List.getElem?_map, List.getElem?_map, h1]
    by_cases e : x = j
    · subst e; simp [hj]
    · simp [e]
theorem homV_zero (n : Nat) : homV n (fun _ => 0) = List.replicate n (.int .i64 0) := by
  unfold homV
  rw [List.map_const', List.length_range]; rfl
theorem homV_congr {n : Nat} {f g : Nat → Nat} (h : ∀ x, x < n → f x = g x) : homV n f = homV n g := by
  unfold homV
  exact List.map_congr_left fun x hx => by rw [h x (List.mem_range.1 hx)]
/-- the groups below k, and p things of k, have their place -/
def HomP (H : List (List Nat)) (k p : Nat) (f : Nat → Nat) : Prop := ∀ (x g : Nat) (h : List Nat), H[g]? = some h → x ∈ h → (g < k → f x = g) ∧ (g = k → x ∈ h.take p → f x = g)
theorem HomP.start (H : List (List Nat)) (f : Nat → Nat) : HomP H 0 0 f := fun x g h _ _ => ⟨fun h => by omega, fun _ h => by simp at h⟩
theorem HomP.step {u : Uses} {H : List (List Nat)} {k p x : Nat} {l : List Nat} {f : Nat → Nat} (h : HomP H k p f) (s : Srt u H) (hk : H[k]? = some l) (hp : l[p]? = some x) : HomP H k (p + 1) (fun j => if j = x then k else f j) := by
  intro y g m hg hy
  have hxl : x ∈ l := List.mem_iff_getElem?.2 ⟨p, hp⟩
  obtain ⟨h1, h2⟩ := h y g m hg hy
  constructor
  · intro hgk
    have : y ≠ x := fun e => by
      subst e
      have := s.dis g k m l y hg hk hy hxl
      omega
    show (if y = x then k else f y) = g
    rw [if_neg this]; exact h1 hgk
  · intro hgk hyt
    subst hgk
    rw [hk] at hg; injection hg with hg; subst hg
    show (if y = x then g else f y) = g
    by_cases e : y = x
    · rw [if_pos e]
    · rw [if_neg e]
      refine h2 rfl ?_
      rw [List.take_add_one, hp] at hyt
      rcases List.mem_append.1 hyt with h3 | h3
      · exact h3
      · simp at h3; exact absurd h3 e
theorem HomP.next {H : List (List Nat)} {k : Nat} {l : List Nat} {f : Nat → Nat} (h : HomP H k l.length f) (hk : H[k]? = some l) : HomP H (k + 1) 0 f := by
  intro y g m hg hy
  obtain ⟨h1, h2⟩ := h y g m hg hy
  refine ⟨fun hgk => ?_, fun _ h3 => by simp at h3⟩
  by_cases e : g = k
  · subst e
    rw [hk] at hg; injection hg with hg; subst hg
    exact h2 rfl (by simpa using hy)
  · exact h1 (by omega)
theorem HomP.done {u : Uses} {H : List (List Nat)} {f : Nat → Nat} (h : HomP H H.length 0 f) (s : Srt u H) {x : Nat} (hx : x < u.length) : f x = hm H x := by
  obtain ⟨g, h1, h2⟩ := s.home hx
  exact (h x _ g h1 h2).1 (s.home_lt hx)

set_option maxHeartbeats 1600000 in
theorem ow_homes (u : Uses) (H : List (List Nat)) (n : Nat) (v : Value) (w : World) (s : Srt u H) (hn : u.length = n) (hn2 : n ≤ 500) (hl : H.length ≤ 500) (hll : ∀ g ∈ H, g.length ≤ 1000000) (hH : RdU w v H) :
    Calls Try.prog 20 #[v, .int .i64 (n : Nat)] w fun e w' => e = .returned (.slice (some ⟨w.heap.size, 0, none⟩) n n) ∧ Blk w' w.heap.size 3 (homV n (hm H)).toArray ∧ Below w.heap.size w w' := by
  obtain ⟨A, c, rfl, hp⟩ := hH
  obtain ⟨m, hM⟩ : ∃ m, H.length = m := ⟨_, rfl⟩
  rw [hM] at hp hl ⊢
  have hmk := fun W => make_ints n (by omega) W
  have hlt := s.lt
  have HP := hidE hp
  have HM := hidE hM
  have HS := hidE s
  have HLT := hidE hlt
  have HN := hidE hn
  have HLL := hidE hll
  clear hp hM s hlt hn hll
  go_enter Try.func20, Try.ntmps20
  go_wp2_with fail
  have hR0 : Hid (Blk (w.alloc (.cells (List.replicate n (.int .i64 0)).toArray 3)) w.heap.size 3 (homV n (fun _ => 0)).toArray) := hidE (by rw [homV_zero]; exact heap_alloc_new w _)
  have hB0 := hidE ((Below.refl w.heap.size w).alloc (Nat.le_refl _) (.cells (List.replicate n (.int .i64 0)).toArray 3))
  go_loopg [14] m (fun gg v wr => ∃ k f, gg = m - k ∧ v = .int .i64 (k : Nat) ∧ k ≤ m ∧ Hid (Below w.heap.size w wr) ∧ Hid (Blk wr w.heap.size 3 (homV n f).toArray) ∧ Hid (HomP H k 0 f))
  case atStart => exact ⟨0, _, rfl, rfl, by omega, hB0, hR0, hidE (.start _ _)⟩
  case round =>
    obtain ⟨k, f, rfl, rfl, hk, hB, hR, hT⟩ := hrel
    clear hR0 hB0 hmk
    by_cases hlt : k < m
    · obtain ⟨a, rfl, hab, hcc⟩ := HP.out (by omega)
      obtain ⟨l, hl⟩ : ∃ l, H[k]? = some l := ⟨_, List.getElem?_eq_getElem (by rw [HM.out]; exact hlt)⟩
      obtain ⟨x, hxc, hxr⟩ := hcc k l hl
      have hck : wr.cell? (a.add k) = some x := (hB.out.cell (p := a.add k) (by rw [addr_add_block]; exact hab)).trans hxc
      have hk1 : a.add (k * 1) = a.add k := by rw [Nat.mul_one]
      obtain ⟨A2, c2, rfl, hp2⟩ := hxr
      rw [intV_len] at *
      have hlm : l ∈ H := List.mem_iff_getElem?.2 ⟨k, hl⟩
      obtain ⟨q, hq⟩ : ∃ q, l.length = q := ⟨_, rfl⟩
      have hql : q ≤ 1000000 := by rw [← hq]; exact HLL.out l hlm
      rw [hq] at hck hp2
      have HQ := hidE hq
      have HLK := hidE hl
      have HP2 := hidE hp2
      have HLM := hidE hlm
      clear hcc hl hxc hab hp2 hq hlm
      go_wp2_with fail
      go_loopg [21] q (fun gg v wx => ∃ p f, gg = q - p ∧ v = .int .i64 (p : Nat) ∧ p ≤ q ∧ Hid (Below w.heap.size w wx) ∧ Hid (Blk wx w.heap.size 3 (homV n f).toArray) ∧ Hid (HomP H k p f))
      case atStart => exact ⟨0, f, rfl, rfl, by omega, hB, hR, hT⟩
      case round =>
        obtain ⟨p, f, rfl, rfl, hpq, hB, hR, hT⟩ := hrel
        by_cases hpl : p < q
        · obtain ⟨a2, rfl, hab2, hcc2⟩ := HP2.out (by omega)
          obtain ⟨y, hy⟩ : ∃ y, l[p]? = some y := ⟨_, List.getElem?_eq_getElem (by rw [HQ.out]; exact hpl)⟩
          have hcy : wr.cell? (a2.add p) = some (.int .i64 (y : Nat)) := (hB.out.cell (p := a2.add p) (by rw [addr_add_block]; exact hab2)).trans (hcc2 p _ (by simp [intV, hy]))
          have hk2 : a2.add (p * 1) = a2.add p := by rw [Nat.mul_one]
          have hyn : y < n := by rw [← HN.out]; exact HLT.out l HLM.out y (List.mem_iff_getElem?.2 ⟨p, hy⟩)
          have hcell : wr.cell? ⟨w.heap.size, y, none⟩ = some (.int .i64 (f y : Nat)) := by rw [hR.out.cell]; simpa using homV_at f hyn
          have hfr := hR.out.frozen y
          have hlb := hR.out.lt
          have hnew : Hid (Blk (wr.setCell ⟨w.heap.size, y, none⟩ (.int .i64 (k : Nat))) w.heap.size 3 (homV n (fun j => if j = y then k else f j)).toArray) := hidE (by
            have := heap_setCell_same wr w.heap.size y _ _ (.int .i64 (k : Nat)) hR.out
            rw [List.setIfInBounds_toArray, homV_set] at this
            exact this)
          have hst := hidE (hT.out.step HS.out HLK.out hy)
          have hbb := hidE (hB.out.setCell (p := ⟨w.heap.size, y, none⟩) (Nat.le_refl _) (.int .i64 (k : Nat)))
          clear hcc2 hy hab2
          go_wp2_with fail
          go_roundg (q - (p + 1))
          case measure => omega
          case rel => exact ⟨p + 1, _, rfl, by go_num, by omega, hbb, hnew, hst⟩
        · have hpq' : p = q := by omega
          subst hpq'
          have hnx := hidE (HomP.next (l := l) (by rw [HQ.out]; exact hT.out) HLK.out)
          go_wp2_with fail
          go_roundg (m - (k + 1))
          case measure => omega
          case rel => exact ⟨k + 1, f, rfl, by go_num, by omega, hB, hR, hnx⟩
    · have hkn : k = m := by omega
      subst hkn
      go_wp2_with fail
      go_ret
      refine ⟨rfl, ?_, hB.out⟩
      rw [← homV_congr (f := f) (g := hm H) fun x hx => HomP.done (u := u) (by rw [HM.out]; exact hT.out) HS.out (by rw [HN.out]; exact hx)]
      exact hR.out
end Go.Proofs.Ytfmpmblhndnbeaa
