/-
  Contracts of the code's functions, part 42.
-/
import Derived.Test.YtefldbbiajkbnaaGreatDoorDaAO
/-
  Package scope: the faults of a binding's expression, one behind the other.
-/
namespace Go.Proofs.YtefldbbiajkbnaaGreatDoor
open Go.RowKit Lx Tx Sx Go.Maps Go.WideMaps Go.Shelf
set_option maxRecDepth 100000

def Flt.cells (f : Flt) : List Value := [.slice f.V f.n f.v, .func (.func f.kf) f.bd #[], .int .i64 f.e]
theorem flat3 : ∀ (l : List Flt) (j : Nat) (f : Flt), l[j]? = some f → (l.flatMap Flt.cells)[j * 3]? = some (.slice f.V f.n f.v) ∧ (l.flatMap Flt.cells)[j * 3 + 1]? = some (.func (.func f.kf) f.bd #[]) ∧ (l.flatMap Flt.cells)[j * 3 + 2]? = some (.int .i64 f.e)
  | [], _, _, h => by simp at h
  | g :: r, 0, f, h => by
    simp at h
    subst h
    exact ⟨rfl, rfl, rfl⟩
  | g :: r, j + 1, f, h => by
    obtain ⟨h1, h2, h3⟩ := flat3 r j f (by simpa using h)
    have e : (g :: r).flatMap Flt.cells = g.cells ++ r.flatMap Flt.cells := rfl
    have hl : g.cells.length = 3 := rfl
    rw [e]
    refine ⟨?_, ?_, ?_⟩
    · rw [List.getElem?_append_right (by omega), hl, show (j + 1) * 3 - 3 = j * 3 by omega]; exact h1
    · rw [List.getElem?_append_right (by omega), hl, show (j + 1) * 3 + 1 - 3 = j * 3 + 1 by omega]; exact h2
    · rw [List.getElem?_append_right (by omega), hl, show (j + 1) * 3 + 2 - 3 = j * 3 + 2 by omega]; exact h3
def toB (x : Nm) : ByteArray := ⟨x.toArray⟩
/-- the fault of a binder -/
def bF (p : List Nm × BF) : Flt := ⟨p.2.V, p.2.n, p.2.v, 124, #[.map (some p.2.f)], 90, (rep [] p.1).map toB⟩
theorem bF_cells : ∀ (s : List (List Nm)) (L : List BF), L.length = s.length → ((s.zip L).map bF).flatMap Flt.cells = L.flatMap BF.cells
  | [], [], _ => rfl
  | [], _ :: _, h => by simp at h
  | _ :: _, [], h => by simp at h
  | xs :: s, r :: L, h => by
    have := bF_cells s L (by simpa using h)
    simp only [List.zip_cons_cons, List.map_cons, List.flatMap_cons, this]
    rfl
theorem fst1_mid (r : List Flt) : ∀ (s : List (List Nm)) (L : List BF), L.length = s.length → fst1 ((s.zip L).map bF ++ r) = match s.findSome? (rep []) with | some x => (toB x, 90) | none => fst1 r
  | [], [], _ => rfl
  | [], _ :: _, h => by simp at h
  | _ :: _, [], h => by simp at h
  | xs :: s, b :: L, h => by
    have := fst1_mid r s L (by simpa using h)
    rw [List.findSome?_cons]
    cases hx : rep [] xs with
    | some x =>
      simp only [List.zip_cons_cons, List.map_cons, List.cons_append]
      rw [fst1]
      simp only [bF, hx, Option.map_some]
    | none =>
      simp only [List.zip_cons_cons, List.map_cons, List.cons_append]
      rw [fst1]
      simp only [bF, hx, Option.map_none]
      exact this
theorem runM : ∀ (l : List Ev) (s : List (List Nm)), runS stM l s = s ++ l.filterMap (fun v => match v with | .bi xs => some xs | _ => none)
  | [], s => (List.append_nil s).symm
  | v :: l, s => by
    rw [runS_cons, runM l]
    cases v <;> simp [stM]
theorem find_bi (l : List Ev) : (runS stM l []).findSome? (rep []) = l.findSome? repV := by
  rw [runM, List.nil_append]
  induction l with
  | nil => rfl
  | cons v l ih =>
    cases v with
    | bi xs =>
      rw [show (Ev.bi xs :: l).filterMap (fun v => match v with | .bi xs => some xs | _ => none) = xs :: l.filterMap (fun v => match v with | .bi xs => some xs | _ => none) from rfl, List.findSome?_cons, List.findSome?_cons, ih]
      rfl
    | use x => simpa [List.findSome?_cons, repV] using ih
    | cn x => simpa [List.findSome?_cons, repV] using ih
    | beg x => simpa [List.findSome?_cons, repV] using ih
    | fin x => simpa [List.findSome?_cons, repV] using ih

/-- what the faults of a binding's expression ask, while they are asked -/
def IMf (co : Nat) (B C : List Nm) (L : List BF) (W : World) (j : Nat) (W' : World) : Prop :=
  Chg (fun g => g = co ∨ g = co + 2 ∨ ∃ (i : Nat) (r : BF), L[i]? = some r ∧ i + 2 ≤ j ∧ r.f = g) W W' ∧ MapE mkMet W' (co + 2) (units B) ∧ MapE mkMet W' co (units C)
theorem first_mis {da co : Nat} (hd : da < co) {m : Mets} {e : Ex} {s : List (List Nm)} {L : List BF} {M : Nat → Prop} {V0 V1 V2 : Option Addr} {v0 v1 v2 g n d : Nat} {w W : World} {nb nf nc : Nat}
    (hM : MetsAt da co m W) (hlow : ∀ g, metB da co g → g < w.heap.size) (hb : Below w.heap.size w W) (hs : s = runS stM (evs e) []) (hll : L.length = s.length)
    (hnb : nb = (boundE e).length) (hnf : nf = (freeE e).length) (hnc : nc = (consE e).length)
    (hrec : ∀ (i : Nat) (xs : List Nm) (r : BF), s[i]? = some xs → L[i]? = some r → r.n = xs.length ∧ NmsIn (fun g => g < W.heap.size ∧ ¬ M g) W xs r.V ∧ (∀ x ∈ xs, x.length ≤ 24) ∧ MapE mkMet W r.f (units []) ∧ M r.f ∧ w.heap.size ≤ r.f)
    (hMm : ∀ g, metB da co g → M g) (hnd : (L.map BF.f).Nodup) (h0 : NmsIn (fun g => (g < W.heap.size ∧ ¬ M g) ∧ w.heap.size ≤ g) W (boundE e) V0) (h1 : NmsIn (fun g => (g < W.heap.size ∧ ¬ M g) ∧ w.heap.size ≤ g) W (freeE e) V1) (h2 : NmsIn (fun g => (g < W.heap.size ∧ ¬ M g) ∧ w.heap.size ≤ g) W (consE e) V2)
    (hrow : W.ownsRow w.heap.size 192 3 (.slice (some ⟨g, 0, none⟩) n d) n ([.slice V0 nb v0, .func (.func 128) #[.map (some (co + 2))] #[], .int .i64 90] ++ L.flatMap BF.cells ++ [.slice V1 nf v1, .func (.func 127) #[.map (some (co + 2))] #[], .int .i64 91, .slice V2 nc v2, .func (.func 127) #[.map (some co)] #[], .int .i64 91]))
    (hgM : ∀ r ∈ L, r.f ≠ g) (hn : n = s.length + 3) (hsz : m.size + s.length ≤ 90000) (hl0 : ∀ x ∈ nms e, x.length ≤ 24) (hle : (boundE e).length + (freeE e).length + (consE e).length ≤ 90000) (hlx : ∀ xs ∈ s, xs.length ≤ 90000) :
    LPostF da co w (mis m.b m.c e) (MetsAt da co m) (.returned (.slice (some ⟨g, 0, none⟩) n d)) W := by
  have hdw := hlow da (.inl rfl)
  have hcw := hlow co (.inr (.inl rfl))
  have hsw := hlow (co + 1) (.inr (.inr (.inl rfl)))
  have hbw := hlow (co + 2) (.inr (.inr (.inr rfl)))
  have hbs := hb.size
  unfold Mets.size at hsz
  obtain ⟨hgw, hgl⟩ := hrow.lt g rfl
  obtain ⟨l, hl⟩ : ∃ l : List Flt, l = [⟨V0, nb, v0, 128, #[.map (some (co + 2))], 90, ((boundE e).find? (fun x => decide (x ∈ m.b))).map toB⟩] ++ (s.zip L).map bF ++ [⟨V1, nf, v1, 127, #[.map (some (co + 2))], 91, ((freeE e).find? (fun x => decide (x ∉ m.b))).map toB⟩, ⟨V2, nc, v2, 127, #[.map (some co)], 91, ((consE e).find? (fun x => decide (x ∉ m.c))).map toB⟩] := ⟨_, rfl⟩
  have hcells : l.flatMap Flt.cells = [.slice V0 nb v0, .func (.func 128) #[.map (some (co + 2))] #[], .int .i64 90] ++ L.flatMap BF.cells ++ [.slice V1 nf v1, .func (.func 127) #[.map (some (co + 2))] #[], .int .i64 91, .slice V2 nc v2, .func (.func 127) #[.map (some co)] #[], .int .i64 91] := by
    rw [hl, List.flatMap_append, List.flatMap_append, bF_cells s L hll]
    rfl
  have hzl : ((s.zip L).map bF).length = s.length := by simp [hll]
  have hlen : l.length = s.length + 3 := by rw [hl]; simp [hll]
  rw [← hcells] at hrow
  have hmid : ∀ i xs r, s[i]? = some xs → L[i]? = some r → l[i + 1]? = some (bF (xs, r)) := fun i xs r h1 h2 => by
    rw [hl, List.append_assoc, List.getElem?_append_right (by simp), show i + 1 - ([⟨V0, nb, v0, 128, #[.map (some (co + 2))], 90, ((boundE e).find? (fun x => decide (x ∈ m.b))).map toB⟩] : List Flt).length = i by simp, List.getElem?_append_left (by rw [hzl]; exact (List.getElem?_eq_some_iff.1 h1).1)]
    rw [List.getElem?_map, (List.getElem?_zip_eq_some (z := (xs, r))).2 ⟨h1, h2⟩]
    rfl
  have hI : ∀ j W', IMf co m.b m.c L W j W' → ∀ k, k ≠ co → k ≠ co + 2 → (∀ r ∈ L, r.f ≠ k) → k < W.heap.size → W'.heap[k]? = W.heap[k]? := fun j W' h k a1 a2 a3 a4 =>
    h.1.block k a4 (fun e => by
      rcases e with e | e | ⟨i, r, e1, -, e3⟩
      · exact a1 e
      · exact a2 e
      · exact a3 r (List.mem_of_getElem? e1) e3)
  have hF : ∀ r ∈ L, M r.f ∧ w.heap.size ≤ r.f := fun r hr => by
    obtain ⟨i, hi⟩ := List.mem_iff_getElem?.1 hr
    have hil := (List.getElem?_eq_some_iff.1 hi).1
    obtain ⟨-, -, -, -, a5, a6⟩ := hrec i _ r (List.getElem?_eq_getElem (by rw [← hll]; exact hil)) hi
    exact ⟨a5, a6⟩
  have hNS : ∀ j W', IMf co m.b m.c L W j W' → ∀ k, (k < W.heap.size ∧ ¬ M k) ∧ w.heap.size ≤ k → W'.heap[k]? = W.heap[k]? := fun j W' h k hk =>
    hI j W' h k (by omega) (by omega) (fun r hr e => hk.1.2 (e ▸ (hF r hr).1)) hk.1.1
  have hmono : ∀ j W1 W2, IMf co m.b m.c L W j W1 → Below W1.heap.size W1 W2 → IMf co m.b m.c L W j W2 := fun j W1 W2 h hbl => ⟨h.1.below hbl, h.2.1.keep (hbl.block _ h.2.1.lt), h.2.2.keep (hbl.block _ h.2.2.lt)⟩
  have hup : ∀ j W1 W2, IMf co m.b m.c L W j W1 → Chg (fun g => g = co ∨ g = co + 2 ∨ ∃ (i : Nat) (r : BF), L[i]? = some r ∧ i + 2 ≤ j + 1 ∧ r.f = g) W1 W2 → Chg (fun g => g = co ∨ g = co + 2 ∨ ∃ (i : Nat) (r : BF), L[i]? = some r ∧ i + 2 ≤ j + 1 ∧ r.f = g) W W2 := fun j W1 W2 h hc =>
    (h.1.mono (fun k _ hk => hk.imp id (Or.imp id (fun ⟨i, r, e1, e2, e3⟩ => ⟨i, r, e1, by omega, e3⟩)))).trans hc
  have hB24 : ∀ x ∈ boundE e, x.length ≤ 24 := fun x hx => hl0 x (bis_nms e x (by simpa [boundE, mem_addA] using hx))
  have hF24 : ∀ x ∈ freeE e, x.length ≤ 24 := fun x hx => hl0 x (fr_nms e x (by simpa [freeE, mem_addA] using hx))
  have hC24 : ∀ x ∈ consE e, x.length ≤ 24 := fun x hx => hl0 x (cns_nms e x (by simpa [consE, mem_addA] using hx))
  refine ⟨_, _, _, rfl, hb, ?_⟩
  refine (sc_first l (IMf co m.b m.c L W) g n d W (by rw [hlen, hn]) (by omega) ?_ ?_ ⟨Chg.refl _ _, hM.b, hM.c⟩ hmono).mono ?_
  · intro j f hf W' hi
    have hk := hI j W' hi g (by omega) (by omega) hgM hgl
    obtain ⟨x0, x1, x2⟩ := flat3 l j f hf
    have hc : ∀ i u, (l.flatMap Flt.cells)[i]? = some u → W'.cell? ⟨g, i, none⟩ = some u := fun i u hu => by
      have := hrow.cells (g := g) rfl i u hu
      rw [show (⟨g, 0, none⟩ : Addr).add i = ⟨g, i, none⟩ by unfold Addr.add; split <;> simp_all] at this
      exact cell_keep this hk
    exact ⟨by have := hi.1.size; omega, hc _ _ x0, hc _ _ x1, hc _ _ x2⟩
  · intro j f hf
    have hjl := (List.getElem?_eq_some_iff.1 hf).1
    have hco : M co := hMm co (.inr (.inl rfl))
    have hcb : M (co + 2) := hMm (co + 2) (.inr (.inr (.inr rfl)))
    have h5 : ∀ {W' Wc w' : World} {j : Nat}, IMf co m.b m.c L W j W' → Below W'.heap.size W' Wc → Chg (only (co + 2)) Wc w' → MapE mkMet w' (co + 2) (units m.b) → IMf co m.b m.c L W (j + 1) w' := fun {W' Wc w' j} hi hbl hc hmm =>
      ⟨hup j Wc w' (hmono j W' Wc hi hbl) (hc.mono (fun k _ h => .inr (.inl h))), hmm, ((hmono j W' Wc hi hbl).2.2).keep (hc.block _ (by have := hbl.size; have := hi.1.size; omega) (by unfold only; omega))⟩
    have h6 : ∀ {W' Wc w' : World} {j : Nat}, IMf co m.b m.c L W j W' → Below W'.heap.size W' Wc → Chg (only co) Wc w' → MapE mkMet w' co (units m.c) → IMf co m.b m.c L W (j + 1) w' := fun {W' Wc w' j} hi hbl hc hmm =>
      ⟨hup j Wc w' (hmono j W' Wc hi hbl) (hc.mono (fun k _ h => .inl h)), ((hmono j W' Wc hi hbl).2.1).keep (hc.block _ (by have := hbl.size; have := hi.1.size; omega) (by unfold only; omega)), hmm⟩
    by_cases j0 : j = 0
    · subst j0
      rw [hl] at hf
      simp at hf
      subst hf
      refine ⟨?_, show nb ≤ 1000000 by omega⟩
      have := fask_met (I := IMf co m.b m.c L W) (j := 0) (xs := boundE e) (L := m.b) (V := V0) (v := v0) (S := fun k => (k < W.heap.size ∧ ¬ M k) ∧ w.heap.size ≤ k) ek_has (co + 2) (sc_hasQ (co + 2) 1000000)
        (fun W' hi => ⟨hi.2.1, h0.keep (fun _ h => h) (fun k hk => hNS 0 W' hi k hk), fun k hk => ⟨by have := hi.1.size; omega, by omega⟩⟩) hB24 (by omega) (fun W' Wc w' hi hbl hc hmm => h5 hi hbl hc (by rw [stA_id] at hmm; exact hmm))
      rw [noes_has, ← hnb] at this
      exact this
    · by_cases j1 : j ≤ s.length
      · obtain ⟨i, rfl⟩ : ∃ i, j = i + 1 := ⟨j - 1, by omega⟩
        obtain ⟨xs, hxs⟩ : ∃ x, s[i]? = some x := ⟨_, List.getElem?_eq_getElem (by omega)⟩
        obtain ⟨r, hr⟩ : ∃ x, L[i]? = some x := ⟨_, List.getElem?_eq_getElem (by omega)⟩
        rw [hmid i xs r hxs hr] at hf
        injection hf with hf
        subst hf
        obtain ⟨a1, a2, a3, a4, a5, a6⟩ := hrec i xs r hxs hr
        have hxl := hlx xs (List.mem_of_getElem? hxs)
        refine ⟨?_, show r.n ≤ 1000000 by omega⟩
        have := fask_met (I := IMf co m.b m.c L W) (j := i + 1) (xs := xs) (L := []) (V := r.V) (v := r.v) (S := fun k => k < W.heap.size ∧ ¬ M k) ek_again r.f (sc_againQ r.f 1000000 (Nat.le_refl _))
          (fun W' hi => ⟨a4.keep (hi.1.block _ a4.lt (fun e => by
            rcases e with e | e | ⟨i2, r2, e1, e2, e3⟩
            · omega
            · omega
            · have := (List.getElem?_inj (i := i2) (j := i) (by rw [List.length_map]; exact (List.getElem?_eq_some_iff.1 e1).1) hnd).1 (by rw [List.getElem?_map, List.getElem?_map, e1, hr, Option.map_some, Option.map_some, e3])
              omega)), a2.keep (fun _ h => h) (fun k hk => hI _ W' hi k (fun e => hk.2 (e ▸ hco)) (fun e => hk.2 (e ▸ hcb)) (fun r hr e => hk.2 (e ▸ (hF r hr).1)) hk.1), fun k hk => ⟨by have := hi.1.size; omega, fun e => hk.2 (e ▸ a5)⟩⟩) a3 (by simp; omega)
          (fun W' Wc w' hi hbl hc _ => by
            have hi2 := hmono _ W' Wc hi hbl
            have hsz2 := hi2.1.size
            refine ⟨hup _ Wc w' hi2 (hc.mono (fun k _ h => .inr (.inr ⟨i, r, hr, by omega, ?_⟩))), hi2.2.1.keep (hc.block _ hi2.2.1.lt (by unfold only; omega)), hi2.2.2.keep (hc.block _ hi2.2.2.lt (by unfold only; omega))⟩
            have e : k = r.f := h
            exact e.symm)
        rw [noes_rep xs [] [] (fun _ => Iff.rfl), ← a1] at this
        exact this
      · have hpl : ([⟨V0, nb, v0, 128, #[.map (some (co + 2))], 90, ((boundE e).find? (fun x => decide (x ∈ m.b))).map toB⟩] ++ (s.zip L).map bF : List Flt).length = s.length + 1 := by rw [List.length_append, hzl]; simp; omega
        rw [hl, List.getElem?_append_right (by omega), hpl] at hf
        by_cases j2 : j = s.length + 1
        · subst j2
          rw [Nat.sub_self] at hf
          obtain rfl := Option.some.inj hf
          refine ⟨?_, show nf ≤ 1000000 by omega⟩
          have := fask_met (I := IMf co m.b m.c L W) (j := s.length + 1) (xs := freeE e) (L := m.b) (V := V1) (v := v1) (S := fun k => (k < W.heap.size ∧ ¬ M k) ∧ w.heap.size ≤ k) ek_lacks (co + 2) (sc_lacksQ (co + 2) 1000000)
            (fun W' hi => ⟨hi.2.1, h1.keep (fun _ h => h) (fun k hk => hNS _ W' hi k hk), fun k hk => ⟨by have := hi.1.size; omega, by omega⟩⟩) hF24 (by omega) (fun W' Wc w' hi hbl hc hmm => h5 hi hbl hc (by rw [stA_id] at hmm; exact hmm))
          rw [noes_lacks, ← hnf] at this
          exact this
        · obtain rfl : j = s.length + 2 := by omega
          rw [show s.length + 2 - (s.length + 1) = 1 by omega] at hf
          obtain rfl := Option.some.inj hf
          refine ⟨?_, show nc ≤ 1000000 by omega⟩
          have := fask_met (I := IMf co m.b m.c L W) (j := s.length + 2) (xs := consE e) (L := m.c) (V := V2) (v := v2) (S := fun k => (k < W.heap.size ∧ ¬ M k) ∧ w.heap.size ≤ k) ek_lacks co (sc_lacksQ co 1000000)
            (fun W' hi => ⟨hi.2.2, h2.keep (fun _ h => h) (fun k hk => hNS _ W' hi k hk), fun k hk => ⟨by have := hi.1.size; omega, by omega⟩⟩) hC24 (by omega) (fun W' Wc w' hi hbl hc hmm => h6 hi hbl hc (by rw [stA_id] at hmm; exact hmm))
          rw [noes_lacks, ← hnc] at this
          exact this
  · rintro e' w' ⟨rfl, j, hj, hi, -⟩
    have hfst : fst1 l = match mis m.b m.c e with | some y => (toB y.1, (y.2 : Int)) | none => (⟨#[]⟩, 0) := by
      rw [hl, List.append_assoc]
      show fst1 (_ :: ((s.zip L).map bF ++ _)) = _
      rw [fst1, fst1_mid _ s L hll, hs, find_bi]
      unfold mis
      cases (boundE e).find? (fun x => decide (x ∈ m.b)) with
      | some x => rfl
      | none =>
        simp only [Option.map_none]
        cases (evs e).findSome? repV with
        | some x => rfl
        | none =>
          simp only
          cases (freeE e).find? (fun x => decide (x ∉ m.b)) with
          | some x => rfl
          | none =>
            simp only [fst1, Option.map_none]
            cases (consE e).find? (fun x => decide (x ∉ m.c)) with
            | some x => rfl
            | none => rfl
    refine ⟨hi.1.mono (fun k _ h => ?_), _, _, rfl, ?_, ?_⟩
    · rcases h with h | h | ⟨i, r, e1, -, e3⟩
      · exact .inl (.inr (.inl h))
      · exact .inl (.inr (.inr (.inr h)))
      · exact .inr (e3 ▸ (hF r (List.mem_of_getElem? e1)).2)
    · intro hno
      rw [hfst, hno]
      refine ⟨rfl, rfl, hM.d.keep (hI j w' hi da (by omega) (by omega) (fun r hr => by have := (hF r hr).2; omega) hM.d.lt), hi.2.2, hM.s.keep (hI j w' hi (co + 1) (by omega) (by omega) (fun r hr => by have := (hF r hr).2; omega) hM.s.lt), hi.2.1⟩
    · intro y hy
      rw [hfst, hy]
      exact ⟨rfl, rfl⟩
end Go.Proofs.YtefldbbiajkbnaaGreatDoor

/-
  Package scope: names are short; how many names an expression has.
-/
namespace Go.Proofs.YtefldbbiajkbnaaGreatDoor
open Go.RowKit Lx Tx Sx

mutual
theorem ok_24 : ∀ (e : Ex), e.Ok → ∀ x ∈ nms e, x.length ≤ 24
  | .var y, h, x, hx => by
    simp only [nms, evs, List.flatMap_cons, List.flatMap_nil, useOf, List.append_nil, List.mem_singleton] at hx
    exact hx ▸ gd_len h (by decide)
  | .con y, h, x, hx => by
    simp only [nms, evs, List.flatMap_cons, List.flatMap_nil, useOf, List.append_nil, List.mem_singleton] at hx
    exact hx ▸ gd_len h (by decide)
  | .lam y e, h, x, hx => by
    have ih := ok_24 e h.2
    unfold nms at hx ih
    simp only [evs, List.flatMap_cons, List.flatMap_append, List.mem_append, useOf, List.flatMap_nil, List.not_mem_nil, or_false, false_or, List.mem_singleton] at hx
    rcases hx with rfl | hx
    · exact gd_len h.1 (by decide)
    · exact ih x hx
  | .app a b, h, x, hx => by
    have i1 := ok_24 a h.1
    have i2 := ok_24 b h.2
    unfold nms at hx i1 i2
    simp only [evs, List.flatMap_cons, List.flatMap_append, List.mem_append, useOf, List.flatMap_nil, List.not_mem_nil, or_false, false_or] at hx
    exact hx.elim (i1 x) (i2 x)
  | .lt y t a b, h, x, hx => by
    have i1 := ok_24 a h.2.2.1
    have i2 := ok_24 b h.2.2.2
    unfold nms at hx i1 i2
    simp only [evs, List.flatMap_cons, List.flatMap_append, List.mem_append, useOf, List.flatMap_nil, List.not_mem_nil, or_false, false_or, List.mem_singleton] at hx
    rcases hx with rfl | hx | hx
    · exact gd_len h.1 (by decide)
    · exact i1 x hx
    · exact i2 x hx
  | .cs e l, h, x, hx => by
    have i1 := ok_24 e h.1
    unfold nms at hx i1
    simp only [evs, List.flatMap_cons, List.flatMap_append, List.mem_append, useOf, List.not_mem_nil, false_or] at hx
    exact hx.elim (i1 x) (ok_24A l h.2 x)
  | .ann e t, h, x, hx => by
    have ih := ok_24 e h.1
    unfold nms at hx ih
    simp only [evs, List.flatMap_cons, List.flatMap_append, List.mem_append, useOf, List.flatMap_nil, List.not_mem_nil, or_false, false_or] at hx
    exact ih x hx
theorem ok_241 : ∀ (a : Al), a.Ok → ∀ x ∈ (evs1 a).flatMap useOf, x.length ≤ 24
  | .mk c vs b, h, x, hx => by
    have ih := ok_24 b h.2.2
    unfold nms at ih
    simp only [evs1, List.flatMap_cons, List.flatMap_append, List.mem_append, useOf, List.flatMap_nil, List.not_mem_nil, or_false, false_or, List.mem_singleton] at hx
    rcases hx with rfl | hx | hx
    · exact gd_len h.1 (by decide)
    · exact gd_len (h.2.1 x hx) (by decide)
    · exact ih x hx
theorem ok_24A : ∀ (l : List Al), okA l → ∀ x ∈ (evsA l).flatMap useOf, x.length ≤ 24
  | [], _, x, hx => by simp [evsA] at hx
  | a :: r, h, x, hx => by
    simp only [evsA, List.flatMap_append, List.mem_append] at hx
    exact hx.elim (ok_241 a h.1 x) (ok_24A r h.2 x)
end
theorem but_len (vs l : List Nm) : (but vs l).length ≤ l.length := List.length_filter_le _ _
mutual
theorem len_nms : ∀ (e : Ex), (fr e).length ≤ e.wt ∧ (cns e).length ≤ e.wt ∧ (bis e).length ≤ e.wt
  | .var _ => by simp [fr, cns, bis, Ex.wt]
  | .con _ => by simp [fr, cns, bis, Ex.wt]
  | .lam x e => by
    obtain ⟨h1, h2, h3⟩ := len_nms e
    have := but_len [x] (fr e)
    simp only [fr, cns, bis, Ex.wt, List.length_cons]
    omega
  | .app a b => by
    obtain ⟨h1, h2, h3⟩ := len_nms a
    obtain ⟨k1, k2, k3⟩ := len_nms b
    simp only [fr, cns, bis, Ex.wt, List.length_append]
    omega
  | .lt x t a b => by
    obtain ⟨h1, h2, h3⟩ := len_nms a
    obtain ⟨k1, k2, k3⟩ := len_nms b
    have := but_len [x] (fr b)
    simp only [fr, cns, bis, Ex.wt, List.length_append, List.length_cons]
    omega
  | .cs e l => by
    obtain ⟨h1, h2, h3⟩ := len_nms e
    obtain ⟨k1, k2, k3⟩ := len_nmsA l
    simp only [fr, cns, bis, Ex.wt, List.length_append]
    omega
  | .ann e t => by
    obtain ⟨h1, h2, h3⟩ := len_nms e
    simp only [fr, cns, bis, Ex.wt]
    omega
theorem len_nms1 : ∀ (a : Al), (fr1 a).length ≤ a.wt ∧ (cns1 a).length ≤ a.wt ∧ (bis1 a).length ≤ a.wt
  | .mk c vs b => by
    obtain ⟨h1, h2, h3⟩ := len_nms b
    have := but_len vs (fr b)
    simp only [fr1, cns1, bis1, Al.wt, List.length_append, List.length_cons]
    omega
theorem len_nmsA : ∀ (l : List Al), (frA l).length ≤ wtA l ∧ (cnsA l).length ≤ wtA l ∧ (bisA l).length ≤ wtA l
  | [] => by simp [frA, cnsA, bisA, wtA]
  | a :: r => by
    obtain ⟨h1, h2, h3⟩ := len_nms1 a
    obtain ⟨k1, k2, k3⟩ := len_nmsA r
    simp only [frA, cnsA, bisA, wtA, List.length_append]
    omega
end
theorem len_all (e : Ex) : (boundE e).length + (freeE e).length + (consE e).length ≤ 3 * e.wt := by
  obtain ⟨h1, h2, h3⟩ := len_nms e
  have := @addA_len [] (fr e)
  have := @addA_len [] (cns e)
  have := @addA_len [] (bis e)
  unfold boundE freeE consE
  simp only [List.length_nil] at *
  omega
theorem bi_len : ∀ (l : List Ev) (xs : List Nm), xs ∈ runS stM l [] → xs.length ≤ cost l := by
  intro l xs h
  rw [runM, List.nil_append] at h
  induction l with
  | nil => simp at h
  | cons v l ih =>
    rw [cost_cons]
    cases v with
    | bi ys =>
      simp at h
      rcases h with rfl | h
      · simp only [evL]; omega
      · have := ih (by simpa using h); omega
    | use x => have := ih (by simpa using h); omega
    | cn x => have := ih (by simpa using h); omega
    | beg x => have := ih (by simpa using h); omega
    | fin x => have := ih (by simpa using h); omega
end Go.Proofs.YtefldbbiajkbnaaGreatDoor
