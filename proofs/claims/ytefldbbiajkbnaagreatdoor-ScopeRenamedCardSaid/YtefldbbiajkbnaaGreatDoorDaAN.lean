/-
  Contracts of the code's functions, part 40.
-/
import Derived.Test.YtefldbbiajkbnaaGreatDoorDaAM
import Derived.Deep.RegionHeld3
/-
  Package scope: the first name of which a method says yes.
-/
namespace Go.Proofs.YtefldbbiajkbnaaGreatDoor
open Go.RowKit Lx Tx Sx Go.Maps Go.WideMaps Go.Shelf
set_option maxRecDepth 100000

/-- a method that is asked of a name -/
def VisQ {τ : Type} (k : Nat) (bd : Array Value) (B : Nat) (J : Nat → τ → (Nat → Prop) → World → Prop) (ask : Nm → τ → Bool) (tr : Nm → τ → τ) : Prop :=
  ∀ (c : Nat) (s : τ) (M : Nat → Prop) (X : ByteArray) (w : World), J c s M w → X.size ≤ 24 → c + 1 ≤ B →
    Calls Tryz.prog k (bd ++ #[.string X]) w fun e w' => e = .returned (.bool (ask X.data.toList s)) ∧ Sta J M w (c + 1) (tr X.data.toList s) w'
def stA {τ : Type} (tr : Nm → τ → τ) (xs : List Nm) (s : τ) : τ := xs.foldl (fun s x => tr x s) s
/-- how many names are asked ahead of the first yes -/
def noes {τ : Type} (ask : Nm → τ → Bool) (tr : Nm → τ → τ) : List Nm → τ → Nat
  | [], _ => 0
  | x :: r, s => if ask x s = true then 0 else noes ask tr r (tr x s) + 1
theorem noes_at {τ : Type} (ask : Nm → τ → Bool) (tr : Nm → τ → τ) : ∀ (xs : List Nm) (s : τ) (i : Nat) (x : Nm), xs[i]? = some x → (∀ j y, j < i → xs[j]? = some y → ask y (stA tr (xs.take j) s) = false) → ask x (stA tr (xs.take i) s) = true → noes ask tr xs s = i
  | [], _, _, _, h, _, _ => by simp at h
  | y :: r, s, 0, x, h, _, h2 => by
    simp at h
    subst h
    rw [noes]
    exact if_pos h2
  | y :: r, s, i + 1, x, h, h1, h2 => by
    have h0 := h1 0 y (by omega) rfl
    rw [noes, if_neg (by rw [show ask y s = false from h0]; decide)]
    rw [noes_at ask tr r (tr y s) i x (by simpa using h) (fun j z hj hz => h1 (j + 1) z (by omega) (by simpa using hz)) h2]
theorem noes_all {τ : Type} (ask : Nm → τ → Bool) (tr : Nm → τ → τ) : ∀ (xs : List Nm) (s : τ), (∀ j y, xs[j]? = some y → ask y (stA tr (xs.take j) s) = false) → noes ask tr xs s = xs.length
  | [], _, _ => rfl
  | y :: r, s, h1 => by
    have h0 := h1 0 y rfl
    rw [noes, if_neg (by rw [show ask y s = false from h0]; decide)]
    rw [noes_all ask tr r (tr y s) (fun j z hz => h1 (j + 1) z (by simpa using hz))]
    rfl

theorem Sta.ask {τ : Type} {J : Nat → τ → (Nat → Prop) → World → Prop} {M0 : Nat → Prop} {w0 W : World} {c c' : Nat} {s s' : τ} (h : Sta J M0 w0 c s W) {P : Program} {F : Nat} {args : Array Value} {u : Value}
    (hc : ∀ M, J c s M W → Calls P F args W fun e w' => e = .returned u ∧ Sta J M W c' s' w') :
    Calls P F args W fun e w' => e = .returned u ∧ Sta J M0 w0 c' s' w' := by
  obtain ⟨M, h1, h2, h3⟩ := h
  refine (hc M h1).mono ?_
  rintro e w' ⟨rfl, hs⟩
  exact ⟨rfl, Sta.join h2 h3 hs⟩
set_option maxHeartbeats 3200000 in
theorem sc_indexS {τ : Type} (k : Nat) (bd : Array Value) (B : Nat) (J : Nat → τ → (Nat → Prop) → World → Prop) (ask : Nm → τ → Bool) (tr : Nm → τ → τ) (ek : ∀ args w, (callFunc k args).run Tryz.prog w = .ok (.enter k args) w) (HV : VisQ k bd B J ask tr) (hB9 : B ≤ 1000000)
    (xs : List Nm) (c : Nat) (s : τ) (M S : Nat → Prop) (V : Option Addr) (n v : Nat) (w : World) (hj : J c s M w) (hx : NmsIn S w xs V) (hn : n = xs.length) (hS : ∀ g, S g → g < w.heap.size ∧ ¬ M g) (hxs : ∀ x ∈ xs, x.length ≤ 24) (hB : c + n ≤ B) :
    Calls Tryz.prog 130 #[.slice V n v, .func (.func k) bd #[]] w fun e w' => ∃ r : Int, e = .returned (.int .i64 r) ∧
      ((r = -1 ∧ noes ask tr xs s = n) ∨ (r = (noes ask tr xs s : Nat) ∧ noes ask tr xs s < n)) ∧ ∃ d, d ≤ c + n ∧ Sta J M w d (stA tr (xs.take (noes ask tr xs s + 1)) s) w' := by
  have H0 := hidE (Sta.init hj)
  have HX := hidE hx
  have HN := hidE hn.symm
  have HS := hidE hS
  have HXS := hidE hxs
  have HVV := hidE HV
  have hn9 : n ≤ 1000000 := by omega
  clear hj hx hn hS hxs HV
  go_enter Tryz.func130, Tryz.ntmps130
  go_wp2_with fail
  go_loopg [8] n (fun gg vi wr => ∃ i : Nat, gg = n - i ∧ vi = .int .i64 (i : Nat) ∧ i ≤ n ∧ Hid (Sta J M w (c + i) (stA tr (xs.take i) s) wr) ∧ Hid (∀ j y, j < i → xs[j]? = some y → ask y (stA tr (xs.take j) s) = false))
  case atStart => exact ⟨0, rfl, rfl, by omega, H0, hidE (fun j y h => by omega)⟩
  case round =>
    obtain ⟨i, rfl, rfl, hi, hst, hno⟩ := hrel
    clear H0
    by_cases hlt : i < n
    · obtain ⟨x, hx⟩ : ∃ x, xs[i]? = some x := ⟨_, List.getElem?_eq_getElem (by rw [HN.out]; exact hlt)⟩
      have hxm := HXS.out x (List.mem_iff_getElem?.2 ⟨i, hx⟩)
      obtain ⟨g, rfl, hSg, hlie⟩ := HX.out (fun e => by rw [e] at hx; simp at hx)
      obtain ⟨X, hX⟩ : ∃ X : ByteArray, ⟨x.toArray⟩ = X := ⟨_, rfl⟩
      have hXx : X.data.toList = x := by rw [← hX]
      have hX24 : X.size ≤ 24 := by rw [← hX]; show x.toArray.size ≤ 24; simpa using hxm
      have f0 : wr.cell? ⟨g, i, none⟩ = some (.string X) := by
        have h1 := hlie i (Sx.strV x) (by rw [List.getElem?_map, hx]; rfl)
        rw [Nat.zero_add] at h1
        rw [← hX]
        exact cell_keep h1 (hst.out.block g (HS.out g hSg).1 (HS.out g hSg).2)
      have HSN : Hid (stA tr (xs.take (i + 1)) s = tr x (stA tr (xs.take i) s)) := hidE (by rw [List.take_add_one, hx]; unfold stA; rw [List.foldl_append]; rfl)
      have HASK := hidE (hst.out.ask (fun M2 j2 => HVV.out (c + i) _ M2 X wr j2 hX24 (by omega)))
      have hgl := lt_cell f0
      obtain ⟨q, hq⟩ : ∃ q, ask x (stA tr (xs.take i) s) = q := ⟨_, rfl⟩
      rw [hXx, hq, ← HSN.out] at HASK
      have HQ := hidE hq
      have HX3 := hidE hx
      clear hx hxm hSg hlie hX hXx hX24 hq
      go_wp2_with fail
      refine HASK.out.mono ?_
      rintro e w1 ⟨rfl, s1⟩
      cases q with
      | true =>
        have HR : Hid (noes ask tr xs s = i) := hidE (noes_at ask tr xs s i x HX3.out hno.out HQ.out)
        have HS1 := hidE s1
        clear s1 HASK
        go_wp2_with fail
        go_ret
        refine ⟨(i : Int), rfl, .inr ⟨by rw [HR.out], by rw [HR.out]; exact hlt⟩, ?_⟩
        rw [HR.out]
        exact ⟨c + (i + 1), by omega, HS1.out⟩
      | false =>
        have HNO : Hid (∀ j y, j < i + 1 → xs[j]? = some y → ask y (stA tr (xs.take j) s) = false) := hidE (fun j y hj hy => by
          by_cases h : j < i
          · exact hno.out j y h hy
          · obtain rfl : j = i := by omega
            have := HX3.out.symm.trans hy
            injection this with this
            rw [← this]
            exact HQ.out)
        have HS1 := hidE s1
        clear s1 HASK
        go_wp2_with fail
        go_roundg (n - (i + 1))
        case measure => omega
        case rel => exact ⟨i + 1, rfl, by go_num, by omega, HS1, HNO⟩
    · obtain rfl : i = n := by omega
      have hall := noes_all ask tr xs s (fun j y h => hno.out j y (by rw [← HN.out]; exact (List.getElem?_eq_some_iff.1 h).1) h)
      have HR : Hid (noes ask tr xs s = i) := hidE (hall.trans HN.out)
      clear hall hlt
      go_wp2_with fail
      go_ret
      refine ⟨-1, rfl, .inl ⟨rfl, HR.out⟩, ?_⟩
      have := hst.out
      refine ⟨c + i, Nat.le_refl _, ?_⟩
      rw [HR.out, List.take_of_length_le (by rw [HN.out]; omega)]
      rwa [List.take_of_length_le (by rw [HN.out]; exact Nat.le_refl _)] at this
end Go.Proofs.YtefldbbiajkbnaaGreatDoor

/-
  Package scope: has, lacks and again as methods that are handed on.
-/
namespace Go.Proofs.YtefldbbiajkbnaaGreatDoor
open Go.RowKit Lx Tx Sx Go.Maps Go.WideMaps Go.Shelf
set_option maxRecDepth 100000

/-- the names that were met, in block mb -/
structure JMet (mb : Nat) (c : Nat) (L : List Nm) (M : Nat → Prop) (w : World) : Prop where
  map : MapE mkMet w mb (units L)
  len : L.length ≤ c
  low : M mb
  all : ∀ g, M g → g < w.heap.size
theorem JMet.below {mb c : Nat} {L : List Nm} {M : Nat → Prop} {w w' : World} (h : JMet mb c L M w) (hb : Below w.heap.size w w') : Sta (JMet mb) M w (c + 1) L w' :=
  ⟨M, { map := h.map.keep (hb.block _ h.map.lt), len := by have := h.len; omega, low := h.low, all := fun g hg => Nat.lt_of_lt_of_le (h.all g hg) hb.size }, fun _ h => .inl h, Chg.of_below hb⟩
theorem sc_againQ (mb B : Nat) (hB : B ≤ 1000000) : VisQ 124 #[.map (some mb)] B (JMet mb) (fun x L => decide (x ∈ L)) (fun x L => L ++ [x]) := fun c L M X w hj hX hc =>
  (sc_again mb L X w hj.map hX (by have := hj.len; omega)).mono fun _ w' ⟨h1, h2, h3⟩ => ⟨h1, M, { map := h2, len := by have := hj.len; simp; omega, low := hj.low, all := fun g hg => Nat.lt_of_lt_of_le (hj.all g hg) h3.size }, fun _ h => .inl h, h3.mono (fun k _ h => by have e : k = mb := h; exact e ▸ hj.low)⟩
theorem sc_hasQ (mb B : Nat) : VisQ 128 #[.map (some mb)] B (JMet mb) (fun x L => decide (x ∈ L)) (fun _ L => L) := fun _ L _ X w hj hX _ =>
  (sc_has mb L X w hj.map hX).mono fun _ _ ⟨h1, h2⟩ => ⟨h1, hj.below h2⟩
theorem sc_lacksQ (mb B : Nat) : VisQ 127 #[.map (some mb)] B (JMet mb) (fun x L => !decide (x ∈ L)) (fun _ L => L) := fun _ L _ X w hj hX _ =>
  (sc_lacks mb L X w hj.map hX).mono fun _ _ ⟨h1, h2⟩ => ⟨h1, hj.below h2⟩
end Go.Proofs.YtefldbbiajkbnaaGreatDoor

/-
  Package scope: the first fault of a list of faults.
-/
namespace Go.Proofs.YtefldbbiajkbnaaGreatDoor
open Go.RowKit Lx Tx Sx Go.Maps Go.WideMaps Go.Shelf
set_option maxRecDepth 100000

/-- one fault's names are asked: what is found, the name where there is one; I goes on; what has just been made stays -/
def FAsk (I : Nat → World → Prop) (j : Nat) (V : Option Addr) (n v : Nat) (fn : Value) (ans : Option ByteArray) : Prop :=
  ∀ (W Wc : World), I j W → Below W.heap.size W Wc → Calls Tryz.prog 130 #[.slice V n v, fn] Wc fun e w' => ∃ r : Int, e = .returned (.int .i64 r) ∧ I (j + 1) w' ∧ (∀ k, W.heap.size ≤ k → k < Wc.heap.size → w'.heap[k]? = Wc.heap[k]?) ∧
    match ans with
    | none => r = -1
    | some X => ∃ i gx : Nat, r = (i : Nat) ∧ i < n ∧ V = some ⟨gx, 0, none⟩ ∧ w'.cell? ⟨gx, i, none⟩ = some (.string X)
structure Flt where
  V : Option Addr
  n : Nat
  v : Nat
  kf : Nat
  bd : Array Value
  e : Int
  ans : Option ByteArray
/-- the first fault: its name and its number -/
def fst1 : List Flt → ByteArray × Int
  | [] => (⟨#[]⟩, 0)
  | f :: r => match f.ans with | some X => (X, f.e) | none => fst1 r
theorem fst1_at : ∀ (l : List Flt) (i : Nat) (f : Flt) (X : ByteArray), l[i]? = some f → (∀ j f, j < i → l[j]? = some f → f.ans = none) → f.ans = some X → fst1 l = (X, f.e)
  | [], _, _, _, h, _, _ => by simp at h
  | g :: r, 0, f, X, h, _, h2 => by
    simp at h
    subst h
    rw [fst1, h2]
  | g :: r, i + 1, f, X, h, h1, h2 => by
    rw [fst1, h1 0 g (by omega) rfl]
    exact fst1_at r i f X (by simpa using h) (fun j k hj hk => h1 (j + 1) k (by omega) (by simpa using hk)) h2
theorem fst1_all : ∀ l : List Flt, (∀ (j : Nat) (f : Flt), l[j]? = some f → f.ans = none) → fst1 l = (⟨#[]⟩, 0)
  | [], _ => rfl
  | g :: r, h => by
    rw [fst1, h 0 g rfl]
    exact fst1_all r (fun j k hk => h (j + 1) k (by simpa using hk))

set_option maxHeartbeats 3200000 in
theorem sc_first (l : List Flt) (I : Nat → World → Prop) (g n d : Nat) (w : World) (hn : n = l.length) (hn9 : n ≤ 100000)
    (hrow : ∀ j f, l[j]? = some f → ∀ W, I j W → g < W.heap.size ∧ W.cell? ⟨g, j * 3, none⟩ = some (.slice f.V f.n f.v) ∧ W.cell? ⟨g, j * 3 + 1, none⟩ = some (.func (.func f.kf) f.bd #[]) ∧ W.cell? ⟨g, j * 3 + 2, none⟩ = some (.int .i64 f.e))
    (hask : ∀ j f, l[j]? = some f → FAsk I j f.V f.n f.v (.func (.func f.kf) f.bd #[]) f.ans ∧ f.n ≤ 1000000) (hI : I 0 w) (hkeep : ∀ j (W W' : World), I j W → Below W.heap.size W W' → I j W') :
    Calls Tryz.prog 82 #[.slice (some ⟨g, 0, none⟩) n d] w fun e w' => e = .returned (.tuple #[.string (fst1 l).1, .int .i64 (fst1 l).2]) ∧ ∃ j, j ≤ n ∧ I j w' ∧ ((∀ (j : Nat) (f : Flt), l[j]? = some f → f.ans = none) → j = n) := by
  have HN := hidE hn.symm
  have HR := hidE hrow
  have HA := hidE hask
  have HI := hidE hI
  have HK := hidE hkeep
  clear hn hrow hask hI hkeep
  go_enter Tryz.func82, Tryz.ntmps82
  go_wp2_with fail
  go_loopg [9] n (fun gg vi wr => ∃ i : Nat, gg = n - i ∧ vi = .int .i64 (i : Nat) ∧ i ≤ n ∧ Hid (I i wr) ∧ Hid (∀ j f, j < i → l[j]? = some f → f.ans = none))
  case atStart => exact ⟨0, rfl, rfl, by omega, HI, hidE (fun j f h => by omega)⟩
  case round =>
    obtain ⟨i, rfl, rfl, hi, hst, hno⟩ := hrel
    clear HI
    by_cases hlt : i < n
    · obtain ⟨f, hf⟩ : ∃ x, l[i]? = some x := ⟨_, List.getElem?_eq_getElem (by rw [HN.out]; exact hlt)⟩
      obtain ⟨hgl, f0, f1, f2⟩ := HR.out i f hf wr hst.out
      obtain ⟨ha, hfn⟩ := HA.out i f hf
      have HFF := hidE hf
      have HNX : Hid (f.ans = none → ∀ j k, j < i + 1 → l[j]? = some k → k.ans = none) := hidE (fun hfa j k hj hk => by
        by_cases h : j < i
        · exact hno.out j k h hk
        · obtain rfl : j = i := by omega
          have := hf.symm.trans hk
          injection this with this
          exact this ▸ hfa)
      have HAT : Hid (∀ X, f.ans = some X → fst1 l = (X, f.e)) := hidE (fun X h => fst1_at l i f X hf hno.out h)
      obtain ⟨V, m, v, kf, bd, e, ans⟩ := f
      simp only at f0 f1 f2 ha hfn
      have HCALL := hidE (ha wr (wr.alloc (.cells #[.slice V m v, .func (.func kf) bd #[], .int .i64 e] 192)) hst.out ((Below.refl _ wr).alloc (Nat.le_refl _) _))
      clear ha hf
      go_wp2_with fail
      refine HCALL.out.mono ?_
      rintro e' w1 ⟨r, rfl, hI1, hk, ho⟩
      have hb : Blk w1 wr.heap.size 192 #[.slice V m v, .func (.func kf) bd #[], .int .i64 e] := (hk _ (Nat.le_refl _) (by simp)).trans (heap_alloc_new wr _)
      have c0 : w1.cell? ⟨wr.heap.size, 0, none⟩ = some (.slice V m v) := hb.cell 0
      have c2 : w1.cell? ⟨wr.heap.size, 2, none⟩ = some (.int .i64 e) := hb.cell 2
      have HI1 := hidE hI1
      clear hI1 hk hb HCALL
      cases ans with
      | none =>
        have hr : r = -1 := ho
        subst hr
        clear ho
        have HNO := hidE (HNX.out rfl)
        go_wp2_with fail
        go_roundg (n - (i + 1))
        case measure => omega
        case rel => exact ⟨i + 1, rfl, by go_num, by omega, HI1, HNO⟩
      | some X =>
        obtain ⟨q, gx, rfl, hq, rfl, hc⟩ : ∃ i gx : Nat, r = (i : Nat) ∧ i < m ∧ V = some ⟨gx, 0, none⟩ ∧ w1.cell? ⟨gx, i, none⟩ = some (.string X) := ho
        have HF := hidE (HAT.out X rfl)
        have q0 : (0 : Int) ≤ (q : Int) := by omega
        have q1 : (q : Int) < (m : Int) := by omega
        go_wp2_with fail
        go_region_held3 (fun W : World => W.cell? ⟨wr.heap.size, 0, none⟩ = some (.slice (some ⟨gx, 0, none⟩) m v) ∧ W.cell? ⟨wr.heap.size, 2, none⟩ = some (.int .i64 e) ∧ W.cell? ⟨gx, q, none⟩ = some (.string X)) (first | exact ⟨c0, c2, hc⟩) (fail)
        all_goals
          go_wp2_with fail
          go_ret2
          exact ⟨by rw [HF.out]; rfl, i + 1, by omega, HK.out _ _ _ HI1.out (Below.refl _ _).drew, fun h => by have := h i _ HFF.out; cases this⟩
    · obtain rfl : i = n := by omega
      have HF := hidE (fst1_all l (fun j f h => hno.out j f (by have := (List.getElem?_eq_some_iff.1 h).1; have := HN.out; omega) h))
      go_wp2_with fail
      go_ret2
      exact ⟨by rw [HF.out]; rfl, i, Nat.le_refl _, hst.out, fun _ => rfl⟩
end Go.Proofs.YtefldbbiajkbnaaGreatDoor

/-
  Package scope: Check's look for a signature that is alone.
-/
namespace Go.Proofs.YtefldbbiajkbnaaGreatDoor
open Go.RowKit Lx Tx Sx Go.Maps Go.WideMaps Go.Shelf
set_option maxRecDepth 100000

/-- one fault is answered, of one name -/
def OneFault (w : World) (X : ByteArray) (F mb : Nat) (c : Int) (e : Ending) (w' : World) : Prop :=
  ∃ g k : Nat, e = .returned (.slice (some ⟨g, 0, none⟩) 1 1) ∧ w.heap.size ≤ g ∧ w.heap.size ≤ k ∧ g ≠ k ∧ Blk w' g 192 #[.slice (some ⟨k, 0, none⟩) 1 1, .func (.func F) #[.map (some mb)] #[], .int .i64 c] ∧ Blk w' k 9 #[.string X] ∧ Below w.heap.size w w'

set_option maxHeartbeats 3200000 in
theorem sc_alone (da co si bi : Nat) (k0 : Int) (X : ByteArray) (A0 : Option Addr) (m0 c0 : Nat) (A1 : Option Addr) (m1 c1 : Nat) (K0 : Int) (X0 : ByteArray) (Z0 : Int) (B0 : Option Addr) (n0 d0 : Nat) (k1 : Int) (X1 : ByteArray) (t1 : Bool) (K1 : Int) (X2 : ByteArray) (Z1 : Int) (B1 : Option Addr) (n1 d1 : Nat) (C1 : Option Addr) (p1 e1 : Nat) (D1 : Option Addr) (q1 f1 : Nat) (w : World) :
    Calls Tryz.prog 80 #[.agg #[.map (some da), .map (some co), .map (some si), .map (some bi)],
      .agg #[.int .i64 k0, .string X, .slice A0 m0 c0, .slice A1 m1 c1, .int .i64 K0, .string X0, .int .i64 Z0, .slice B0 n0 d0, .int .i64 k1, .string X1, .bool t1, .int .i64 K1, .string X2, .int .i64 Z1, .slice B1 n1 d1, .slice C1 p1 e1, .slice D1 q1 f1]] w fun e w' =>
        if k0 = 2 then OneFault w X 127 bi 92 e w' else e = .returned (.slice none 0 0) ∧ Below w.heap.size w w' := by
  obtain ⟨W, hW⟩ : ∃ W, (w.alloc (.cells #[.map (some da), .map (some co), .map (some si), .map (some bi)] 136)).alloc (.cells #[.int .i64 k0, .string X, .slice A0 m0 c0, .slice A1 m1 c1, .int .i64 K0, .string X0, .int .i64 Z0, .slice B0 n0 d0, .int .i64 k1, .string X1, .bool t1, .int .i64 K1, .string X2, .int .i64 Z1, .slice B1 n1 d1, .slice C1 p1 e1, .slice D1 q1 f1] 59) = W := ⟨_, rfl⟩
  have hb : Below w.heap.size w W := hW ▸ ((Below.refl _ w).alloc (Nat.le_refl _) _).alloc (by simp) _
  have hz : W.heap.size = w.heap.size + 1 + 1 := by rw [← hW]; simp
  have b1 : Blk W (w.heap.size + 1) 59 #[.int .i64 k0, .string X, .slice A0 m0 c0, .slice A1 m1 c1, .int .i64 K0, .string X0, .int .i64 Z0, .slice B0 n0 d0, .int .i64 k1, .string X1, .bool t1, .int .i64 K1, .string X2, .int .i64 Z1, .slice B1 n1 d1, .slice C1 p1 e1, .slice D1 q1 f1] := hW ▸ two_top _ _ _ _ rfl
  have b0 : Blk W w.heap.size 136 #[.map (some da), .map (some co), .map (some si), .map (some bi)] := hW ▸ Blk.alloc (heap_alloc_new w _) _
  have g0 : W.cell? ⟨w.heap.size + 1, 0, none⟩ = some (.int .i64 k0) := b1.cell 0
  have g1 : W.cell? ⟨w.heap.size + 1, 1, none⟩ = some (.string X) := b1.cell 1
  have g2 : W.cell? ⟨w.heap.size, 3, none⟩ = some (.map (some bi)) := b0.cell 3
  have HB := hidE hb
  clear b0 b1 hb
  by_cases h : k0 = 2
  · rw [show (fun (e : Ending) (w' : World) => if k0 = 2 then OneFault w X 127 bi 92 e w' else e = .returned (.slice none 0 0) ∧ Below w.heap.size w w') = OneFault w X 127 bi 92 from by funext e w'; rw [if_pos h]]
    subst h
    go_enter Tryz.func80, Tryz.ntmps80
    go_wp2_with fail
    go_ret
    refine ⟨w.heap.size + 1 + 1 + 1, w.heap.size + 1 + 1, rfl, by omega, by omega, by omega, ?_, ?_, (HB.out.alloc (by omega) _).alloc (by simp; omega) _⟩
    · rw [← hz]
      exact two_top _ _ _ _ rfl
    · rw [← hz]
      exact Blk.alloc (heap_alloc_new W _) _
  · rw [show (fun (e : Ending) (w' : World) => if k0 = 2 then OneFault w X 127 bi 92 e w' else e = .returned (.slice none 0 0) ∧ Below w.heap.size w w') = (fun e w' => e = .returned (.slice none 0 0) ∧ Below w.heap.size w w') from by funext e w'; rw [if_neg h]]
    have d : (k0 != 2) = true := by simpa using h
    go_enter Tryz.func80, Tryz.ntmps80
    go_wp2_with fail
    go_ret
    exact ⟨rfl, HB.out⟩
end Go.Proofs.YtefldbbiajkbnaaGreatDoor

/-
  Package scope: what Check's looks ask of names, as plain mathematics.
-/
namespace Go.Proofs.YtefldbbiajkbnaaGreatDoor
open Go.RowKit Lx Tx Sx Go.Maps Go.WideMaps Go.Shelf

theorem noes_rep : ∀ (xs L s : List Nm), (∀ x, x ∈ L ↔ x ∈ s) → xs[noes (fun x L => decide (x ∈ L)) (fun x L => L ++ [x]) xs L]? = rep s xs
  | [], _, _, _ => rfl
  | x :: r, L, s, h => by
    rw [noes, rep]
    by_cases hx : x ∈ L
    · rw [if_pos (decide_eq_true hx), if_pos ((h x).1 hx)]; rfl
    · rw [if_neg (by rw [decide_eq_false hx]; decide), if_neg (fun e => hx ((h x).2 e))]
      rw [List.getElem?_cons_succ]
      exact noes_rep r _ _ (fun y => by simp [h y, or_comm])
theorem noes_find (p : Nm → Bool) : ∀ (xs L : List Nm), xs[noes (fun x (_ : List Nm) => p x) (fun _ L => L) xs L]? = xs.find? p
  | [], _ => rfl
  | x :: r, L => by
    rw [noes, List.find?_cons]
    cases hx : p x with
    | true => rw [if_pos rfl]; rfl
    | false =>
      rw [if_neg (by decide)]
      rw [List.getElem?_cons_succ]
      exact noes_find p r L
theorem noes_has : ∀ (xs B : List Nm), xs[noes (fun x (L : List Nm) => decide (x ∈ L)) (fun _ L => L) xs B]? = xs.find? (fun x => decide (x ∈ B))
  | [], _ => rfl
  | x :: r, B => by
    rw [noes, List.find?_cons]
    cases hx : decide (x ∈ B) with
    | true => rw [if_pos rfl]; rfl
    | false =>
      rw [if_neg (by decide), List.getElem?_cons_succ]
      exact noes_has r B
theorem noes_lacks : ∀ (xs B : List Nm), xs[noes (fun x (L : List Nm) => !decide (x ∈ L)) (fun _ L => L) xs B]? = xs.find? (fun x => decide (x ∉ B))
  | [], _ => rfl
  | x :: r, B => by
    rw [noes, List.find?_cons]
    by_cases hx : x ∈ B
    · rw [if_neg (by simp [hx])]
      simp only [hx, not_true, decide_false]
      rw [List.getElem?_cons_succ]
      exact noes_lacks r B
    · rw [if_pos (by simp [hx])]
      simp [hx]
theorem stA_snoc : ∀ (xs L : List Nm), stA (fun x (L : List Nm) => L ++ [x]) xs L = L ++ xs
  | [], L => (List.append_nil L).symm
  | x :: r, L => by
    have := stA_snoc r (L ++ [x])
    rw [List.append_assoc] at this
    exact this
theorem stA_id : ∀ (xs L : List Nm), stA (fun _ (L : List Nm) => L) xs L = L
  | [], _ => rfl
  | _ :: r, L => stA_id r L
/-- the names that Check has met: data, constructors, signatures, bindings -/
structure Mets where
  d : List Nm
  c : List Nm
  s : List Nm
  b : List Nm
def Mets.next (m : Mets) : De → Mets
  | .data n _ cs => { m with d := m.d ++ [n], c := m.c ++ conNames cs }
  | .sig x _ => { m with s := m.s ++ [x] }
  | .bind x _ => { m with b := m.b ++ [x] }
def twOne (m : Mets) : De → Option Nm
  | .data n ps cs => if n ∈ m.d then some n else match rep [] ps with
    | some x => some x
    | none => rep m.c (conNames cs)
  | .sig x _ => if x ∈ m.s then some x else none
  | .bind x _ => if x ∈ m.b then some x else none
theorem rep_congr : ∀ (l s t : List Nm), (∀ x, x ∈ s ↔ x ∈ t) → rep s l = rep t l
  | [], _, _, _ => rfl
  | x :: r, s, t, h => by
    rw [rep, rep]
    by_cases hx : x ∈ s
    · rw [if_pos hx, if_pos ((h x).1 hx)]
    · rw [if_neg hx, if_neg (fun e => hx ((h x).2 e))]
      exact rep_congr r _ _ (fun y => by simp [h y])
theorem tw_congr : ∀ (l : List De) (d c s b d' c' s' b' : List Nm), (∀ x, x ∈ d ↔ x ∈ d') → (∀ x, x ∈ c ↔ x ∈ c') → (∀ x, x ∈ s ↔ x ∈ s') → (∀ x, x ∈ b ↔ x ∈ b') → tw d c s b l = tw d' c' s' b' l
  | [], _, _, _, _, _, _, _, _, _, _, _, _ => rfl
  | .data n ps cs :: r, d, c, s, b, d', c', s', b', hd, hc, hs, hb => by
    rw [tw, tw]
    by_cases hx : n ∈ d
    · rw [if_pos hx, if_pos ((hd n).1 hx)]
    · rw [if_neg hx, if_neg (fun e => hx ((hd n).2 e)), rep_congr _ c c' hc]
      rw [tw_congr r (n :: d) (conNames cs ++ c) s b (n :: d') (conNames cs ++ c') s' b' (fun y => by simp [hd y]) (fun y => by simp [hc y]) hs hb]
  | .sig x t :: r, d, c, s, b, d', c', s', b', hd, hc, hs, hb => by
    rw [tw, tw]
    by_cases hx : x ∈ s
    · rw [if_pos hx, if_pos ((hs x).1 hx)]
    · rw [if_neg hx, if_neg (fun e => hx ((hs x).2 e))]
      exact tw_congr r d c (x :: s) b d' c' (x :: s') b' hd hc (fun y => by simp [hs y]) hb
  | .bind x t :: r, d, c, s, b, d', c', s', b', hd, hc, hs, hb => by
    rw [tw, tw]
    by_cases hx : x ∈ b
    · rw [if_pos hx, if_pos ((hb x).1 hx)]
    · rw [if_neg hx, if_neg (fun e => hx ((hb x).2 e))]
      exact tw_congr r d c s (x :: b) d' c' s' (x :: b') hd hc hs (fun y => by simp [hb y])
theorem tw_step (m : Mets) (x : De) (r : List De) : tw m.d m.c m.s m.b (x :: r) = match twOne m x with
    | some y => some y
    | none => tw (m.next x).d (m.next x).c (m.next x).s (m.next x).b r := by
  cases x with
  | data n ps cs =>
    rw [tw]
    unfold twOne
    by_cases hx : n ∈ m.d
    · rw [if_pos hx]; simp [hx]
    · rw [if_neg hx]
      simp only [hx, if_false]
      cases h1 : rep [] ps with
      | some y => rfl
      | none =>
        simp only
        cases h2 : rep m.c (conNames cs) with
        | some y => rfl
        | none => exact tw_congr r _ _ _ _ _ _ _ _ (fun y => by simp [Mets.next, or_comm]) (fun y => by simp [Mets.next, or_comm]) (fun _ => Iff.rfl) (fun _ => Iff.rfl)
  | sig n t =>
    rw [tw]
    unfold twOne
    by_cases hx : n ∈ m.s
    · rw [if_pos hx]; simp [hx]
    · rw [if_neg hx]
      simp only [hx, if_false]
      exact tw_congr r _ _ _ _ _ _ _ _ (fun _ => Iff.rfl) (fun _ => Iff.rfl) (fun y => by simp [Mets.next, or_comm]) (fun _ => Iff.rfl)
  | bind n t =>
    rw [tw]
    unfold twOne
    by_cases hx : n ∈ m.b
    · rw [if_pos hx]; simp [hx]
    · rw [if_neg hx]
      simp only [hx, if_false]
      exact tw_congr r _ _ _ _ _ _ _ _ (fun _ => Iff.rfl) (fun _ => Iff.rfl) (fun _ => Iff.rfl) (fun y => by simp [Mets.next, or_comm])
theorem next_all : ∀ (l : List De) (m : Mets), l.foldl Mets.next m = ⟨m.d ++ l.flatMap (fun | .data n _ _ => [n] | _ => []), m.c ++ cons l, m.s ++ sigs l, m.b ++ binds l⟩
  | [], m => by simp [cons, sigs, binds]
  | x :: r, m => by
    rw [List.foldl_cons, next_all r]
    cases x <;> simp [Mets.next, cons, sigs, binds, conOf, sigOf, bindOf]

/-- what the look of this number tells of a declaration -/
def lookA (j : Nat) (m : Mets) (x : De) : Option (Nm × Nat) :=
  if j = 0 then (twOne m x).map fun y => (y, 90)
  else if j = 1 then (match x with | .sig n _ => if n ∈ m.b then none else some (n, 92) | _ => none)
  else (match x with | .bind _ e => mis m.b m.c e | _ => none)
def nextA (j : Nat) (m : Mets) (x : De) : Mets := if j = 0 then m.next x else m
/-- the first that a look tells of a list -/
def goL (j : Nat) : Mets → List De → Option (Nm × Nat)
  | _, [] => none
  | m, x :: r => match lookA j m x with
    | some y => some y
    | none => goL j (nextA j m x) r
def met0 : Mets := ⟨[wAny], [], [], []⟩
theorem goL0 : ∀ (l : List De) (m : Mets), goL 0 m l = (tw m.d m.c m.s m.b l).map fun y => (y, 90)
  | [], _ => rfl
  | x :: r, m => by
    rw [goL, tw_step, show lookA 0 m x = (twOne m x).map fun y => (y, 90) from rfl, show nextA 0 m x = m.next x from rfl, goL0 r]
    cases twOne m x <;> rfl
theorem goL1 : ∀ (l : List De) (m : Mets), goL 1 m l = ((sigs l).find? (fun x => decide (x ∉ m.b))).map fun y => (y, 92)
  | [], _ => rfl
  | x :: r, m => by
    rw [goL, show nextA 1 m x = m from rfl, goL1 r]
    cases x with
    | data n ps cs => rfl
    | bind n e => rfl
    | sig n t =>
      rw [show lookA 1 m (De.sig n t) = if n ∈ m.b then none else some (n, 92) from rfl, show sigs (De.sig n t :: r) = n :: sigs r from rfl, List.find?_cons]
      by_cases h : n ∈ m.b
      · simp [h]
      · simp [h]
theorem goL2 : ∀ (l : List De) (m : Mets), goL 2 m l = (exs l).findSome? (mis m.b m.c)
  | [], _ => rfl
  | x :: r, m => by
    rw [goL, show nextA 2 m x = m from rfl, goL2 r]
    cases x with
    | data n ps cs => rfl
    | sig n e => rfl
    | bind n e =>
      rw [show lookA 2 m (De.bind n e) = mis m.b m.c e from rfl, show exs (De.bind n e :: r) = e :: exs r from rfl, List.findSome?_cons]
      cases mis m.b m.c e <;> rfl
def metF (l : List De) : Mets := l.foldl Mets.next met0
theorem chk_looks (l : List De) : chk l = match goL 0 met0 l with
    | some y => y
    | none => match goL 1 (metF l) l with
      | some y => y
      | none => match goL 2 (metF l) l with
        | some y => y
        | none => ([], 0) := by
  have hb : (metF l).b = binds l := by unfold metF; rw [next_all]; rfl
  have hc : (metF l).c = cons l := by unfold metF; rw [next_all]; rfl
  rw [goL0, goL1, goL2, hb, hc]
  unfold chk
  rw [show tw met0.d met0.c met0.s met0.b l = tw [wAny] [] [] [] l from rfl]
  cases tw [wAny] [] [] [] l with
  | some y => rfl
  | none =>
    simp only [Option.map_none]
    cases (sigs l).find? (fun x => decide (x ∉ binds l)) with
    | some y => rfl
    | none => rfl
end Go.Proofs.YtefldbbiajkbnaaGreatDoor

/-
  Package scope: what Check's looks answer, and how the names that it has met lie in memory.
-/
namespace Go.Proofs.YtefldbbiajkbnaaGreatDoor
open Go.RowKit Lx Tx Sx Go.Maps Go.WideMaps Go.Shelf
set_option maxRecDepth 100000

mutual
theorem cost_wt : ∀ e : Ex, cost (evs e) ≤ 4 * e.wt
  | .var _ => by simp [evs, cost, evL, Ex.wt]
  | .con _ => by simp [evs, cost, evL, Ex.wt]
  | .lam x e => by
    have := cost_wt e
    simp only [evs, cost_cons, cost_append, cost_nil, evL, Ex.wt, List.length_cons, List.length_nil]
    omega
  | .app a b => by
    have := cost_wt a
    have := cost_wt b
    simp only [evs, cost_cons, cost_append, cost_nil, evL, Ex.wt, List.length_nil]
    omega
  | .lt x t a b => by
    have := cost_wt a
    have := cost_wt b
    simp only [evs, cost_cons, cost_append, cost_nil, evL, Ex.wt, List.length_cons, List.length_nil]
    omega
  | .cs e l => by
    have := cost_wt e
    have := cost_wtA l
    simp only [evs, cost_cons, cost_append, evL, Ex.wt, List.length_nil]
    omega
  | .ann e t => by
    have := cost_wt e
    simp only [evs, cost_cons, cost_append, cost_nil, evL, Ex.wt, List.length_nil]
    omega
theorem cost_wt1 : ∀ a : Al, cost (evs1 a) ≤ 4 * a.wt
  | .mk c vs b => by
    have := cost_wt b
    simp only [evs1, cost_cons, cost_append, cost_nil, evL, Al.wt]
    omega
theorem cost_wtA : ∀ l : List Al, cost (evsA l) ≤ 4 * wtA l
  | [] => by simp [evsA, cost]
  | a :: r => by
    have := cost_wt1 a
    have := cost_wtA r
    simp only [evsA, cost_append, wtA]
    omega
end

/-- a method that is asked of names is asked one name after the other -/
theorem fask_met {F : Nat} {ask : Nm → List Nm → Bool} {tr : Nm → List Nm → List Nm} (ek : ∀ args w, (callFunc F args).run Tryz.prog w = .ok (.enter F args) w) (mb : Nat) (HV : VisQ F #[.map (some mb)] 1000000 (JMet mb) ask tr)
    {I : Nat → World → Prop} {j : Nat} {L xs : List Nm} {V : Option Addr} {v : Nat} {S : Nat → Prop}
    (hI : ∀ W, I j W → MapE mkMet W mb (units L) ∧ NmsIn S W xs V ∧ ∀ g, S g → g < W.heap.size ∧ g ≠ mb)
    (hxs : ∀ x ∈ xs, x.length ≤ 24) (hL : L.length + xs.length ≤ 1000000)
    (hnext : ∀ W Wc w', I j W → Below W.heap.size W Wc → Chg (only mb) Wc w' → MapE mkMet w' mb (units (stA tr (xs.take (noes ask tr xs L + 1)) L)) → I (j + 1) w') :
    FAsk I j V xs.length v (.func (.func F) #[.map (some mb)] #[]) ((xs[noes ask tr xs L]?).map fun x => ⟨x.toArray⟩) := by
  intro W Wc hi hb
  obtain ⟨hm, hx, hS⟩ := hI W hi
  have hmc : MapE mkMet Wc mb (units L) := hm.keep (hb.block _ hm.lt)
  have hxc : NmsIn S Wc xs V := hx.keep (fun _ h => h) (fun g hg => hb.block g (hS g hg).1)
  have hj : JMet mb L.length L (only mb) Wc := ⟨hmc, Nat.le_refl _, rfl, fun g hg => by have e : g = mb := hg; rw [e]; exact hmc.lt⟩
  refine (sc_indexS F #[.map (some mb)] 1000000 (JMet mb) ask tr ek HV (Nat.le_refl _) xs L.length L (only mb) S V xs.length v Wc hj hxc rfl (fun g hg => ⟨Nat.lt_of_lt_of_le (hS g hg).1 hb.size, (hS g hg).2⟩) hxs hL).mono ?_
  rintro e w' ⟨r, rfl, hr, d, -, M', hj', -, hch⟩
  refine ⟨r, rfl, hnext W Wc w' hi hb hch hj'.map, fun k h1 h2 => hch.block k h2 (by have := hm.lt; unfold only; omega), ?_⟩
  rcases hr with ⟨rfl, hno⟩ | ⟨rfl, hlt⟩
  · rw [List.getElem?_eq_none (by omega)]
    exact rfl
  · obtain ⟨x, hx2⟩ : ∃ x, xs[noes ask tr xs L]? = some x := ⟨_, List.getElem?_eq_getElem hlt⟩
    rw [hx2]
    obtain ⟨g, hV, hg, hlie⟩ := hxc (fun e => by rw [e] at hlt; simp at hlt)
    refine ⟨_, g, rfl, hlt, hV, ?_⟩
    have h1 := hlie _ (Sx.strV x) (by rw [List.getElem?_map, hx2]; rfl)
    rw [Nat.zero_add] at h1
    exact cell_keep h1 (hch.block g (Nat.lt_of_lt_of_le (hS g hg).1 hb.size) (hS g hg).2)

/-- the maps of Check -/
def metB (da co : Nat) (g : Nat) : Prop := g = da ∨ g = co ∨ g = co + 1 ∨ g = co + 2
structure MetsAt (da co : Nat) (m : Mets) (W : World) : Prop where
  d : MapE mkMet W da (units m.d)
  c : MapE mkMet W co (units m.c)
  s : MapE mkMet W (co + 1) (units m.s)
  b : MapE mkMet W (co + 2) (units m.b)
theorem MetsAt.keep {da co : Nat} {m : Mets} {W W' : World} (h : MetsAt da co m W) (hk : ∀ g, metB da co g → W'.heap[g]? = W.heap[g]?) : MetsAt da co m W' :=
  ⟨h.d.keep (hk _ (.inl rfl)), h.c.keep (hk _ (.inr (.inl rfl))), h.s.keep (hk _ (.inr (.inr (.inl rfl)))), h.b.keep (hk _ (.inr (.inr (.inr rfl))))⟩
theorem MetsAt.lt {da co : Nat} {m : Mets} {W : World} (h : MetsAt da co m W) : ∀ g, metB da co g → g < W.heap.size := by
  rintro g (rfl | rfl | rfl | rfl)
  · exact h.d.lt
  · exact h.c.lt
  · exact h.s.lt
  · exact h.b.lt
theorem MetsAt.below {da co : Nat} {m : Mets} {W W' : World} (h : MetsAt da co m W) (hb : Below W.heap.size W W') : MetsAt da co m W' := h.keep (fun g hg => hb.block g (h.lt g hg))
def Mets.size (m : Mets) : Nat := m.d.length + m.c.length + m.s.length + m.b.length
/-- what is told of the first fault; where there is none, Q holds -/
def FPost (M : Nat → Prop) (w : World) (ans : Option (Nm × Nat)) (Q : World → Prop) (e : Ending) (w' : World) : Prop :=
  Chg M w w' ∧ ∃ X k, e = .returned (.tuple #[.string X, .int .i64 k]) ∧ (ans = none → X = ⟨#[]⟩ ∧ k = 0 ∧ Q w') ∧ ∀ y, ans = some y → X = ⟨y.1.toArray⟩ ∧ k = (y.2 : Nat)
/-- what a look answers: a list of faults; of what was there nothing has changed, and first changes the maps of Check and what the look has made -/
def LPostF (da co : Nat) (w : World) (ans : Option (Nm × Nat)) (Q : World → Prop) (e : Ending) (w' : World) : Prop :=
  ∃ A n c, e = .returned (.slice A n c) ∧ Below w.heap.size w w' ∧ Calls Tryz.prog 82 #[.slice A n c] w' (FPost (fun g => metB da co g ∨ w.heap.size ≤ g) w' ans Q)

set_option maxHeartbeats 1600000 in
theorem sc_first0 (A : Option Addr) (d : Nat) (w : World) : Calls Tryz.prog 82 #[.slice A 0 d] w fun e w' => e = .returned (.tuple #[.string ⟨#[]⟩, .int .i64 0]) ∧ Below w.heap.size w w' := by
  go_enter Tryz.func82, Tryz.ntmps82
  go_wp2_with fail
  go_loopg [9] 0 (fun gg vi wr => gg = 0 ∧ vi = .int .i64 0 ∧ Hid (Below w.heap.size w wr))
  case atStart => exact ⟨rfl, rfl, hidE (Below.refl _ _)⟩
  case round =>
    obtain ⟨rfl, rfl, hb⟩ := hrel
    go_wp2_with fail
    go_ret2
    exact ⟨rfl, hb.out⟩
/-- no fault -/
theorem LPostF.none {da co : Nat} {w w' : World} {Q : World → Prop} (hb : Below w.heap.size w w') (hQ : ∀ W, Below w'.heap.size w' W → Q W) : LPostF da co w none Q (.returned (.slice none 0 0)) w' :=
  ⟨_, _, _, rfl, hb, (sc_first0 _ _ w').mono fun e W ⟨h1, h2⟩ => ⟨Chg.of_below h2, _, _, h1, fun _ => ⟨rfl, rfl, hQ W h2⟩, fun y h => by cases h⟩⟩
end Go.Proofs.YtefldbbiajkbnaaGreatDoor

/-
  Package scope: one fault that first asks; the three faults of a data type.
-/
namespace Go.Proofs.YtefldbbiajkbnaaGreatDoor
open Go.RowKit Lx Tx Sx Go.Maps Go.WideMaps Go.Shelf
set_option maxRecDepth 100000

theorem ek_again : ∀ args w, (callFunc 124 args).run Tryz.prog w = .ok (.enter 124 args) w := enters_of Tryz.func124 (by kernel_rfl) rfl
theorem ek_has : ∀ args w, (callFunc 128 args).run Tryz.prog w = .ok (.enter 128 args) w := enters_of Tryz.func128 (by kernel_rfl) rfl
theorem ek_lacks : ∀ args w, (callFunc 127 args).run Tryz.prog w = .ok (.enter 127 args) w := enters_of Tryz.func127 (by kernel_rfl) rfl

theorem take_one {τ : Type} (ask : Nm → τ → Bool) (tr : Nm → τ → τ) (x : Nm) (s : τ) : [x].take (noes ask tr [x] s + 1) = [x] := List.take_of_length_le (by simp)
theorem take_all {τ : Type} (ask : Nm → τ → Bool) (tr : Nm → τ → τ) (xs : List Nm) (s : τ) (h : xs[noes ask tr xs s]? = none) : xs.take (noes ask tr xs s + 1) = xs := List.take_of_length_le (by have := List.getElem?_eq_none_iff.1 h; omega)

/-- one fault of one name -/
theorem first_one {F : Nat} {ask : Nm → List Nm → Bool} {tr : Nm → List Nm → List Nm} (ek : ∀ args w, (callFunc F args).run Tryz.prog w = .ok (.enter F args) w) (mb : Nat) (HV : VisQ F #[.map (some mb)] 1000000 (JMet mb) ask tr)
    {da co : Nat} (hmb : metB da co mb) {L : List Nm} {x : Nm} {c : Nat} {w W : World} {g k d : Nat} {Q : World → Prop} {ans : Option (Nm × Nat)}
    (hb : Below w.heap.size w W) (hm : MapE mkMet W mb (units L)) (hmw : mb < w.heap.size) (hg : Blk W g 192 #[.slice (some ⟨k, 0, none⟩) 1 1, .func (.func F) #[.map (some mb)] #[], .int .i64 (c : Nat)]) (hk : Blk W k 9 #[.string ⟨x.toArray⟩]) (hgw : w.heap.size ≤ g) (hkw : w.heap.size ≤ k)
    (hx : x.length ≤ 24) (hL : L.length + 1 ≤ 1000000) (hans : ans = if ask x L = true then some (x, c) else none)
    (hQ : ∀ W', Chg (only mb) W W' → MapE mkMet W' mb (units (tr x L)) → Q W') :
    LPostF da co w ans Q (.returned (.slice (some ⟨g, 0, none⟩) 1 d)) W := by
  obtain ⟨I, hI⟩ : ∃ I : Nat → World → Prop, I = fun j W' => Chg (only mb) W W' ∧ (j = 0 → MapE mkMet W' mb (units L)) ∧ (0 < j → MapE mkMet W' mb (units (tr x L))) := ⟨_, rfl⟩
  have hcell : ∀ j W', I j W' → W'.heap[g]? = W.heap[g]? ∧ W'.heap[k]? = W.heap[k]? := by
    intro j W' h
    rw [hI] at h
    exact ⟨h.1.block g hg.lt (by unfold only; omega), h.1.block k hk.lt (by unfold only; omega)⟩
  refine ⟨_, _, _, rfl, hb, ?_⟩
  refine (sc_first [⟨some ⟨k, 0, none⟩, 1, 1, F, #[.map (some mb)], (c : Nat), ([x][noes ask tr [x] L]?).map fun x => ⟨x.toArray⟩⟩] I g 1 d W rfl (show 1 ≤ 100000 by omega) ?_ ?_ ?_ ?_).mono ?_
  · intro j f hf W' hi
    have hh := (hcell j W' hi).1
    have hg' : Blk W' g _ _ := hg.same hh
    match j, hf with
    | 0, hf =>
      simp at hf
      subst hf
      exact ⟨hg'.lt, hg'.cell 0, hg'.cell 1, hg'.cell 2⟩
  · intro j f hf
    match j, hf with
    | 0, hf =>
      simp at hf
      subst hf
      refine ⟨fask_met (S := fun g => g = k) ek mb HV (fun W' hi => ⟨?_, ?_, ?_⟩) (by simpa using hx) hL ?_, show 1 ≤ 1000000 by omega⟩
      · rw [hI] at hi
        exact hi.2.1 rfl
      · intro _
        exact ⟨k, rfl, rfl, by
          have := lie_blk (hk.same (hcell 0 W' hi).2)
          simpa [Sx.strV] using this⟩
      · intro g' hg'
        have e : g' = k := hg'
        subst e
        exact ⟨(hk.same (hcell 0 W' hi).2).lt, by omega⟩
      · intro W' Wc w' hi hbl hc hmm
        rw [take_one] at hmm
        rw [hI] at hi ⊢
        exact ⟨(hi.1.below hbl).trans' hc (fun i _ h => h), fun h => by omega, fun _ => hmm⟩
  · rw [hI]
    exact ⟨Chg.refl _ _, fun _ => hm, fun h => by omega⟩
  · intro j W1 W2 h hbl
    rw [hI] at h ⊢
    have hlt : mb < W1.heap.size := Nat.lt_of_lt_of_le hm.lt h.1.size
    exact ⟨h.1.below hbl, fun e => (h.2.1 e).keep (hbl.block _ hlt), fun e => (h.2.2 e).keep (hbl.block _ hlt)⟩
  · rintro e w' ⟨rfl, j, hj, hi, hall⟩
    rw [hI] at hi
    refine ⟨hi.1.mono (fun g' _ h => by have e : g' = mb := h; exact .inl (e ▸ hmb)), _, _, rfl, ?_, ?_⟩
    · intro hno
      have hf : ask x L = false := by
        rw [hans] at hno
        cases ha : ask x L with
        | true => rw [ha, if_pos rfl] at hno; cases hno
        | false => rfl
      have hn : noes ask tr [x] L = 1 := by rw [noes, if_neg (by rw [hf]; decide)]; rfl
      have hj1 : j = 1 := hall (fun j f hf => by
        match j, hf with
        | 0, hf =>
          simp at hf
          subst hf
          simp [hn])
      subst hj1
      exact ⟨by simp [fst1, hn], by simp [fst1, hn], hQ w' hi.1 (hi.2.2 (by omega))⟩
    · intro y hy
      have ht : ask x L = true := by
        rw [hans] at hy
        cases ha : ask x L with
        | true => rfl
        | false => rw [ha, if_neg (by decide)] at hy; cases hy
      rw [hans, if_pos ht] at hy
      injection hy with hy
      subst hy
      have hn : noes ask tr [x] L = 0 := by rw [noes, if_pos ht]
      exact ⟨by simp [fst1, hn], by simp [fst1, hn]⟩

/-- what is told of parameters and constructors -/
def twRest (m : Mets) (ps : List Nm) (cs : List (Nm × Ty)) : Option Nm := match rep [] ps with
  | some x => some x
  | none => rep m.c (conNames cs)
theorem twRest_some {m : Mets} {ps : List Nm} {cs : List (Nm × Ty)} {y : Nm} (h : rep [] ps = some y) : twRest m ps cs = some y := by unfold twRest; rw [h]
theorem twRest_none {m : Mets} {ps : List Nm} {cs : List (Nm × Ty)} (h : rep [] ps = none) : twRest m ps cs = rep m.c (conNames cs) := by unfold twRest; rw [h]
theorem twOne_data (m : Mets) (n : Nm) (ps : List Nm) (cs : List (Nm × Ty)) : twOne m (.data n ps cs) = if n ∈ m.d then some n else twRest m ps cs := rfl
/-- what is left of the worlds while the three faults of a data type are asked -/
def ITw (da fm co : Nat) (D C : List Nm) (W : World) (j : Nat) (W' : World) : Prop :=
  Chg (fun g => (0 < j ∧ g = da) ∨ (1 < j ∧ g = fm) ∨ (2 < j ∧ g = co)) W W' ∧ (0 < j → MapE mkMet W' da (units D)) ∧ (2 < j → MapE mkMet W' co (units C))
theorem first_data {da co fm : Nat} (hd1 : da ≠ co) (hd2 : da ≠ co + 1) (hd3 : da ≠ co + 2) {m : Mets} {n : Nm} {ps : List Nm} {cs : List (Nm × Ty)} {S : Nat → Prop} {V A : Option Addr} {v cp N nb fb d : Nat} {w W : World}
    (hM : MetsAt da co m W) (hlow : ∀ g, metB da co g → g < w.heap.size) (hb : Below w.heap.size w W) (hfw : w.heap.size ≤ fm) (hfm : MapE mkMet W fm (units []))
    (hps : NmsIn S W ps V) (hS : ∀ g, S g → g < w.heap.size ∧ ¬ metB da co g) (hN : N = cs.length) (hrow : NmsIn (fun g => w.heap.size ≤ g ∧ g < W.heap.size ∧ g ≠ fm) W (conNames cs) A)
    (hk : Blk W nb 9 #[.string ⟨n.toArray⟩]) (hkw : w.heap.size ≤ nb) (hkf : nb ≠ fm)
    (hg : Blk W fb 192 #[.slice (some ⟨nb, 0, none⟩) 1 1, .func (.func 124) #[.map (some da)] #[], .int .i64 90, .slice V ps.length v, .func (.func 124) #[.map (some fm)] #[], .int .i64 90, .slice A N cp, .func (.func 124) #[.map (some co)] #[], .int .i64 90]) (hgw : w.heap.size ≤ fb) (hgf : fb ≠ fm)
    (hsz : m.size + ps.length + cs.length + 1 ≤ 100000) (hn : n.length ≤ 24) (hpl : ∀ x ∈ ps, x.length ≤ 24) (hcl : ∀ x ∈ conNames cs, x.length ≤ 24) :
    LPostF da co w (lookA 0 m (.data n ps cs)) (MetsAt da co (m.next (.data n ps cs))) (.returned (.slice (some ⟨fb, 0, none⟩) 3 d)) W := by
  have hdw := hlow da (.inl rfl)
  have hcw := hlow co (.inr (.inl rfl))
  have hsw := hlow (co + 1) (.inr (.inr (.inl rfl)))
  have hbw := hlow (co + 2) (.inr (.inr (.inr rfl)))
  have hbs := hb.size
  unfold Mets.size at hsz
  have hcn : (conNames cs).length = cs.length := by simp [conNames]
  obtain ⟨A0, hA0⟩ : ∃ a, [n][noes (fun x L => decide (x ∈ L)) (fun x L => L ++ [x]) [n] m.d]? = a := ⟨_, rfl⟩
  obtain ⟨A1, hA1⟩ : ∃ a, ps[noes (fun x L => decide (x ∈ L)) (fun x L => L ++ [x]) ps []]? = a := ⟨_, rfl⟩
  obtain ⟨A2, hA2⟩ : ∃ a, (conNames cs)[noes (fun x L => decide (x ∈ L)) (fun x L => L ++ [x]) (conNames cs) m.c]? = a := ⟨_, rfl⟩
  have r0 : A0 = if n ∈ m.d then some n else none := by rw [← hA0, noes_rep [n] m.d m.d (fun _ => Iff.rfl)]; rfl
  have r1 : A1 = rep [] ps := by rw [← hA1, noes_rep ps [] [] (fun _ => Iff.rfl)]
  have r2 : A2 = rep m.c (conNames cs) := by rw [← hA2, noes_rep _ m.c m.c (fun _ => Iff.rfl)]
  obtain ⟨C, hC⟩ : ∃ C, m.c ++ (conNames cs).take (noes (fun x L => decide (x ∈ L)) (fun x L => L ++ [x]) (conNames cs) m.c + 1) = C := ⟨_, rfl⟩
  have hkeep : ∀ j W1 W2, ITw da fm co (m.d ++ [n]) C W j W1 → Below W1.heap.size W1 W2 → ITw da fm co (m.d ++ [n]) C W j W2 := by
    intro j W1 W2 h hbl
    have s := h.1.size
    exact ⟨h.1.below hbl, fun e => (h.2.1 e).keep (hbl.block _ (by omega)), fun e => (h.2.2 e).keep (hbl.block _ (by omega))⟩
  refine ⟨_, _, _, rfl, hb, ?_⟩
  refine (sc_first [⟨some ⟨nb, 0, none⟩, 1, 1, 124, #[.map (some da)], 90, A0.map fun x => ⟨x.toArray⟩⟩, ⟨V, ps.length, v, 124, #[.map (some fm)], 90, A1.map fun x => ⟨x.toArray⟩⟩, ⟨A, N, cp, 124, #[.map (some co)], 90, A2.map fun x => ⟨x.toArray⟩⟩] (ITw da fm co (m.d ++ [n]) C W) fb 3 d W rfl (show 3 ≤ 100000 by omega) ?_ ?_ ⟨Chg.refl _ _, fun h => by omega, fun h => by omega⟩ hkeep).mono ?_
  · intro j f hf W' hi
    have hg' : Blk W' fb _ _ := hg.same (hi.1.block fb hg.lt (by omega))
    match j, hf with
    | 0, hf => simp at hf; subst hf; exact ⟨hg'.lt, hg'.cell 0, hg'.cell 1, hg'.cell 2⟩
    | 1, hf => simp at hf; subst hf; exact ⟨hg'.lt, hg'.cell 3, hg'.cell 4, hg'.cell 5⟩
    | 2, hf => simp at hf; subst hf; exact ⟨hg'.lt, hg'.cell 6, hg'.cell 7, hg'.cell 8⟩
  · intro j f hf
    match j, hf with
    | 0, hf =>
      simp at hf
      subst hf
      rw [← hA0]
      refine ⟨fask_met (S := fun g => g = nb) ek_again da (sc_againQ da 1000000 (Nat.le_refl _)) (fun W' hi => ⟨hM.d.keep (hi.1.block _ hM.d.lt (by omega)), fun _ => ⟨nb, rfl, rfl, ?_⟩, ?_⟩) (by simpa using hn) (by simp; omega) ?_, show 1 ≤ 1000000 by omega⟩
      · have := lie_blk (hk.same (hi.1.block nb hk.lt (by omega)))
        simpa [Sx.strV] using this
      · intro g' hg'
        have e : g' = nb := hg'
        subst e
        exact ⟨Nat.lt_of_lt_of_le hk.lt hi.1.size, by omega⟩
      · intro W' Wc w' hi hbl hc hmm
        rw [take_one] at hmm
        refine ⟨((hi.1.below hbl).mono (fun i _ h => by omega)).trans' hc (fun i _ h => ?_), fun _ => hmm, fun h => by omega⟩
        have e : i = da := h
        exact .inl ⟨by omega, e⟩
    | 1, hf =>
      simp at hf
      subst hf
      rw [← hA1]
      refine ⟨fask_met (S := S) ek_again fm (sc_againQ fm 1000000 (Nat.le_refl _)) (fun W' hi => ⟨hfm.keep (hi.1.block _ hfm.lt (by omega)), hps.keep (fun _ h => h) (fun g hg => ?_), ?_⟩) hpl (by simp; omega) ?_, show ps.length ≤ 1000000 by omega⟩
      · have := hS g hg
        exact hi.1.block g (by omega) (fun e => this.2 (by rcases e with e | e | e <;> simp at e; exact .inl e))
      · intro g' hg'
        have := hS g' hg'
        exact ⟨by have := hi.1.size; omega, by omega⟩
      · intro W' Wc w' hi hbl hc _
        have s := hi.1.size
        refine ⟨((hi.1.below hbl).mono (fun i _ h => by omega)).trans' hc (fun i _ h => ?_), fun _ => (hi.2.1 (by omega)).keep ((hc.block _ (by have := hbl.size; omega) (by unfold only; omega)).trans (hbl.block _ (by omega))), fun h => by omega⟩
        have e : i = fm := h
        exact .inr (.inl ⟨by omega, e⟩)
    | 2, hf =>
      simp at hf
      subst hf
      rw [← hA2, hN, ← hcn]
      refine ⟨fask_met (S := fun g => w.heap.size ≤ g ∧ g < W.heap.size ∧ g ≠ fm) ek_again co (sc_againQ co 1000000 (Nat.le_refl _)) (fun W' hi => ⟨hM.c.keep (hi.1.block _ hM.c.lt (by omega)), hrow.keep (fun _ h => h) (fun g hg => ?_), ?_⟩) hcl (by rw [hcn]; omega) ?_, show (conNames cs).length ≤ 1000000 by omega⟩
      · exact hi.1.block g hg.2.1 (by omega)
      · intro g' hg'
        exact ⟨by have := hi.1.size; omega, by omega⟩
      · intro W' Wc w' hi hbl hc hmm
        have s := hi.1.size
        rw [stA_snoc, hC] at hmm
        refine ⟨((hi.1.below hbl).mono (fun i _ h => by omega)).trans' hc (fun i _ h => ?_), fun _ => (hi.2.1 (by omega)).keep ((hc.block _ (by have := hbl.size; omega) (by unfold only; omega)).trans (hbl.block _ (by omega))), fun _ => hmm⟩
        have e : i = co := h
        exact .inr (.inr ⟨by omega, e⟩)
  · rintro e w' ⟨rfl, j, hj, hi, hall⟩
    refine ⟨hi.1.mono (fun g' _ h => by
      rcases h with ⟨-, h⟩ | ⟨-, h⟩ | ⟨-, h⟩
      · exact .inl (.inl h)
      · exact .inr (by omega)
      · exact .inl (.inr (.inl h))), _, _, rfl, ?_, ?_⟩
    · intro hno
      rw [show lookA 0 m (.data n ps cs) = (twOne m (.data n ps cs)).map fun y => (y, 90) from rfl, Option.map_eq_none_iff] at hno
      rw [twOne_data] at hno
      have hn0 : n ∉ m.d := fun h => by rw [if_pos h] at hno; cases hno
      rw [if_neg hn0] at hno
      rw [if_neg hn0] at r0
      cases h1 : rep [] ps with
      | some y => rw [twRest_some h1] at hno; cases hno
      | none =>
        rw [twRest_none h1] at hno
        rw [h1] at r1
        rw [hno] at r2
        subst r0 r1 r2
        have hj3 : j = 3 := hall (fun j f hf => by
          match j, hf with
          | 0, hf => simp at hf; subst hf; rfl
          | 1, hf => simp at hf; subst hf; rfl
          | 2, hf => simp at hf; subst hf; rfl)
        subst hj3
        have hCC : C = m.c ++ conNames cs := by rw [← hC, take_all _ _ _ _ hA2]
        refine ⟨rfl, rfl, hi.2.1 (by omega), (by have := hi.2.2 (by omega); rw [hCC] at this; exact this), hM.s.keep (hi.1.block _ hM.s.lt (by omega)), hM.b.keep (hi.1.block _ hM.b.lt (by omega))⟩
    · intro y hy
      rw [show lookA 0 m (.data n ps cs) = (twOne m (.data n ps cs)).map fun y => (y, 90) from rfl] at hy
      obtain ⟨z, hz, rfl⟩ := Option.map_eq_some_iff.1 hy
      rw [twOne_data] at hz
      by_cases hn0 : n ∈ m.d
      · rw [if_pos hn0] at hz r0
        injection hz with hz
        subst hz r0
        exact ⟨rfl, rfl⟩
      · rw [if_neg hn0] at hz r0
        subst r0
        cases h1 : rep [] ps with
        | some y =>
          rw [twRest_some h1] at hz
          rw [h1] at r1
          injection hz with hz
          subst hz r1
          exact ⟨rfl, rfl⟩
        | none =>
          rw [twRest_none h1] at hz
          rw [h1] at r1
          rw [hz] at r2
          subst r1 r2
          exact ⟨rfl, rfl⟩
end Go.Proofs.YtefldbbiajkbnaaGreatDoor
