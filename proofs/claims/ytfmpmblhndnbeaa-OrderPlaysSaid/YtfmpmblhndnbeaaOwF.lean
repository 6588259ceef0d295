/-
  Order: whether all that is used is there.
-/
import Derived.Test.YtfmpmblhndnbeaaOwE
namespace Go.Proofs.Ytfmpmblhndnbeaa
open Go.RowKit Go.Shelf Go.Proofs.Ytfmpmblhndnbeaa.Od
set_option maxRecDepth 100000

def offB (n : Nat) (x : Int) : Bool := decide (x < 0) || decide ((n : Int) ≤ x)
theorem ow_off (g n c : Nat) (A : Option Addr) (t : TypeId) (x : Int) (w : World) (h : Blk w g t #[.slice A n c]) :
    Calls Try.prog 19 #[.int .i64 x, .pointer (some ⟨g, 0, none⟩)] w fun e w' => e = .returned (.bool (offB n x)) ∧ w = w' := by
  obtain ⟨p0, -, -⟩ := blk_facts1 h
  unfold offB
  clear h
  by_cases h1 : x < 0
  · have d1 : decide (x < 0) = true := by simp [h1]
    rw [d1]
    clear h1
    go_enter Try.func19, Try.ntmps19
    go_wp2
    go_ret
    exact ⟨rfl, rfl⟩
  · have d1 : decide (x < 0) = false := by simp [h1]
    obtain ⟨b, d2⟩ : ∃ b, decide ((n : Int) ≤ x) = b := ⟨_, rfl⟩
    rw [d1, d2]
    clear h1
    go_enter Try.func19, Try.ntmps19
    go_wp2
    go_ret
    exact ⟨rfl, rfl⟩

theorem any_take {α : Type} (U : List α) (p : α → Bool) (k : Nat) (l : α) (h : (U.take k).any p = false) (hl : U[k]? = some l) (hp : p l = false) : (U.take (k + 1)).any p = false := by
  rw [List.take_add_one, hl, List.any_append, h]; simp [hp]
set_option maxHeartbeats 800000 in
theorem ow_index (f : Int → Bool) (kc : Nat) (caps : Array Value) (v : Value) (z : List Int) (w : World) (h : RowA w v (zV z)) (hn : z.length ≤ 9223372036854775807)
    (hc : ∀ x : Int, Calls Try.prog kc (#[.int .i64 x] ++ caps) w fun e w' => e = .returned (.bool (f x)) ∧ w = w') (ek : ∀ args w, (callFunc kc args).run Try.prog w = .ok (.enter kc args) w) :
    Calls Try.prog 30 #[v, .func (.func kc) #[] caps] w fun e w' => (∃ r : Int, e = .returned (.int .i64 r) ∧ decide (0 ≤ r) = z.any f) ∧ w = w' := by
  obtain ⟨A, c, rfl, hp⟩ := h
  rw [zV_len] at *
  obtain ⟨n, hN⟩ : ∃ n, z.length = n := ⟨_, rfl⟩
  rw [hN] at hp hn ⊢
  have HP := hidE hp
  have HN := hidE hN
  have HC := hidE hc
  clear hp hN hc
  go_enter Try.func30, Try.ntmps30
  go_wp2_with fail
  go_loopg [8] n (fun gg v wr => ∃ k : Nat, gg = n - k ∧ v = .int .i64 k ∧ wr = w ∧ k ≤ n ∧ Hid ((z.take k).any f = false))
  case atStart => exact ⟨0, rfl, rfl, rfl, by omega, hidE (by simp)⟩
  case round =>
    obtain ⟨k, rfl, rfl, rfl, hk, hall⟩ := hrel
    by_cases hlt : k < n
    · obtain ⟨a, rfl, _, hcc⟩ := HP.out (by omega)
      obtain ⟨x, hx⟩ : ∃ x, z[k]? = some x := ⟨_, List.getElem?_eq_getElem (by rw [HN.out]; exact hlt)⟩
      have hck := hcc k _ (zV_at hx)
      have hk1 : a.add (k * 1) = a.add k := by rw [Nat.mul_one]
      have HX := hidE hx
      clear hcc hx
      obtain ⟨b, hb⟩ : ∃ b, f x = b := ⟨_, rfl⟩
      have HCC := hidE (HC.out x)
      rw [hb] at HCC
      have HB := hidE hb
      clear hb
      cases b with
      | true =>
        have hr := hidE (show z.any f = true by rw [List.any_eq_true]; exact ⟨x, List.mem_iff_getElem?.2 ⟨k, HX.out⟩, HB.out⟩)
        go_wp2_with fail
        refine HCC.out.mono ?_
        rintro e w1 ⟨rfl, rfl⟩
        clear HCC
        go_wp2_with fail
        go_ret
        exact ⟨⟨(k : Nat), rfl, by rw [hr.out]; simp⟩, rfl⟩
      | false =>
        have hr := hidE (any_take z f k x hall.out HX.out HB.out)
        go_wp2_with fail
        refine HCC.out.mono ?_
        rintro e w1 ⟨rfl, rfl⟩
        clear HCC
        go_wp2_with fail
        go_roundg (n - (k + 1))
        case measure => omega
        case rel => exact ⟨k + 1, rfl, by go_num, rfl, by omega, hr⟩
    · have hr := hidE (show z.any f = false by have := hall.out; rwa [List.take_of_length_le (by rw [HN.out]; omega)] at this)
      go_wp2_with fail
      go_ret
      exact ⟨⟨-1, rfl, by rw [hr.out]; simp⟩, rfl⟩
theorem ow_contains (f : Int → Bool) (kc : Nat) (caps : Array Value) (v : Value) (z : List Int) (w : World) (h : RowA w v (zV z)) (hn : z.length ≤ 9223372036854775807)
    (hc : ∀ x : Int, Calls Try.prog kc (#[.int .i64 x] ++ caps) w fun e w' => e = .returned (.bool (f x)) ∧ w = w') (ek : ∀ args w, (callFunc kc args).run Try.prog w = .ok (.enter kc args) w) :
    Calls Try.prog 18 #[v, .func (.func kc) #[] caps] w fun e w' => e = .returned (.bool (z.any f)) ∧ w = w' := by
  have HC := hidE (ow_index f kc caps v z w h hn hc ek)
  clear h hc ek
  go_enter Try.func18, Try.ntmps18
  go_wp2_with fail
  refine HC.out.mono ?_
  rintro e w1 ⟨⟨r, rfl, hr⟩, rfl⟩
  clear HC
  go_wp2_with fail
  go_ret
  exact ⟨by rw [← hr]; rfl, rfl⟩

def thereB (n : Nat) (z : List (List Int)) : Bool := z.all fun l => !l.any (offB n)
set_option maxHeartbeats 1600000 in
theorem ow_things (v : Value) (z : List (List Int)) (w : World) (h : RdR w v (z.map zV)) (hn : z.length ≤ 1000000) (hl : ∀ l ∈ z, l.length ≤ 9223372036854775807) :
    Calls Try.prog 12 #[v] w fun e w' => e = .returned (.bool (thereB z.length z)) ∧ Below w.heap.size w w' := by
  obtain ⟨A, c, rfl, hp⟩ := h
  rw [List.length_map] at hp ⊢
  obtain ⟨n, hN⟩ : ∃ n, z.length = n := ⟨_, rfl⟩
  rw [hN] at hp hn ⊢
  obtain ⟨R, hR⟩ : ∃ R, thereB n z = R := ⟨_, rfl⟩
  rw [hR]
  have HP := hidE hp
  have HN := hidE hN
  have HR := hidE hR
  have HL := hidE hl
  have hmf : ∀ (fn : Fn) (first cap : Array Value) (w : World), (Instr.makeFunc fn first cap).run Try.prog w = .ok (.func fn first cap) w := fun _ _ _ _ => rfl
  clear hp hN hR hl
  go_enter Try.func12, Try.ntmps12
  go_wp2_with fail
  have hb0 := hidE ((Below.refl w.heap.size w).alloc (Nat.le_refl _) (.cells #[.slice A n c] 22))
  have hbx : Hid (Blk (w.alloc (.cells #[.slice A n c] 22)) w.heap.size 22 #[.slice A n c]) := hidE (heap_alloc_new w _)
  go_loopg [7] n (fun gg v wr => ∃ k : Nat, gg = n - k ∧ v = .int .i64 k ∧ k ≤ n ∧ Hid (Below w.heap.size w wr) ∧ Hid (Blk wr w.heap.size 22 #[.slice A n c]) ∧ Hid ((z.take k).all (fun l => !l.any (offB n)) = true))
  case atStart => exact ⟨0, rfl, rfl, by omega, hb0, hbx, hidE (by simp)⟩
  case round =>
    obtain ⟨k, rfl, rfl, hk, hB, hX, hall⟩ := hrel
    clear hb0 hbx
    by_cases hlt : k < n
    · obtain ⟨a, rfl, hab, hcc⟩ := HP.out (by omega)
      obtain ⟨l, hl⟩ : ∃ l, z[k]? = some l := ⟨_, List.getElem?_eq_getElem (by rw [HN.out]; exact hlt)⟩
      obtain ⟨x, hxc, hxr⟩ := hcc k (zV l) (by rw [List.getElem?_map, hl]; rfl)
      have hck : wr.cell? (a.add k) = some x := (hB.out.cell (p := a.add k) (by rw [addr_add_block]; exact hab)).trans hxc
      have hk1 : a.add (k * 1) = a.add k := by rw [Nat.mul_one]
      have hxr' := hxr
      obtain ⟨A2, c2, rfl, _⟩ := hxr
      have hrow := hidE ((RowB.below (RowA.rowB hxr') hB.out (Nat.le_refl _)).rowA hB.out.size)
      clear hxr'
      obtain ⟨b, hb⟩ : ∃ b, l.any (offB n) = b := ⟨_, rfl⟩
      have hC := ow_contains (offB n) 19 #[.pointer (some ⟨w.heap.size, 0, none⟩)] _ l wr hrow.out (HL.out l (List.mem_iff_getElem?.2 ⟨k, hl⟩)) (fun x => ow_off w.heap.size n c _ _ x wr hX.out) (enters_of Try.func19 (by kernel_rfl) rfl)
      rw [hb] at hC
      have HC := hidE hC
      have hr1 : Hid (b = true → R = false) := hidE (fun e => by
        rw [← HR.out]; unfold thereB
        exact List.all_eq_false.2 ⟨l, List.mem_iff_getElem?.2 ⟨k, hl⟩, by rw [hb, e]; simp⟩)
      have hr2 : Hid (b = false → (z.take (k + 1)).all (fun l => !l.any (offB n)) = true) := hidE (fun e => by
        rw [List.take_add_one, hl, List.all_append, hall.out]; simp [hb, e])
      obtain ⟨p0, -, -⟩ := blk_facts1 hX.out
      clear hcc hl hxc hC hrow hb hab
      cases b with
      | true =>
        go_wp2_with fail
        refine HC.out.mono ?_
        rintro e w1 ⟨rfl, rfl⟩
        clear HC
        go_wp2_with fail
        go_ret
        exact ⟨ret_bool (hr1.out trivial).symm, hB.out⟩
      | false =>
        go_wp2_with fail
        refine HC.out.mono ?_
        rintro e w1 ⟨rfl, rfl⟩
        clear HC
        go_wp2_with fail
        go_roundg (n - (k + 1))
        case measure => omega
        case rel => exact ⟨k + 1, rfl, by go_num, by omega, hB, hX, hidE (hr2.out trivial)⟩
    · have hr := hidE (show R = true by
        rw [← HR.out]; unfold thereB
        have := hall.out
        rwa [List.take_of_length_le (by rw [HN.out]; omega)] at this)
      go_wp2_with fail
      go_ret
      exact ⟨ret_bool hr.out.symm, hB.out⟩
end Go.Proofs.Ytfmpmblhndnbeaa
