/-
  Package types and what it stands on: contracts of the code's functions, part 23.
-/
import Derived.Test.YthgkpmgcikopnaaGreatDoorBuV
import Derived.Test.YthgkpmgcikopnaaGreatDoorBuU
import Derived.BigQuiet
/-
  Package types: what comes of Put and Fill, as mathematics.
-/
namespace Go.Proofs.YthgkpmgcikopnaaGreatDoor
open Go.RowKit Lx Tx
set_option maxRecDepth 100000

mutual
theorem NIn.mono {b c : List Name} (h : ∀ x ∈ b, x ∈ c) : (t : Ty) → NIn b t → NIn c t
  | .var x, hn => by rw [NIn] at hn ⊢; exact h x hn
  | .mt n, _ => by rw [NIn]; trivial
  | .con d l, hn => by rw [NIn] at hn ⊢; exact NInL.mono h l hn
  | .fn a b, hn => by rw [NIn] at hn ⊢; exact ⟨NIn.mono h a hn.1, NIn.mono h b hn.2⟩
  | .all x t, hn => by rw [NIn] at hn ⊢; exact ⟨h x hn.1, NIn.mono h t hn.2⟩
theorem NInL.mono {b c : List Name} (h : ∀ x ∈ b, x ∈ c) : (l : List Ty) → NInL b l → NInL c l
  | [], _ => by rw [NInL]; trivial
  | t :: r, hn => by rw [NInL] at hn ⊢; exact ⟨NIn.mono h t hn.1, NInL.mono h r hn.2⟩
end

def thrN (env : List Name) (t : Ty) (s : List Name) : List Name := thr atName (fun _ _ s => s) env t s
def thrNL (env : List Name) (l : List Ty) (s : List Name) : List Name := thrL atName (fun _ _ s => s) env l s
mutual
theorem names_in : (t : Ty) → ∀ env s, (∀ x ∈ s, x ∈ thrN env t s) ∧ NIn (thrN env t s) t ∧ (thrN env t s).length ≤ s.length + t.size
  | .var x, env, s => by
    show (∀ y ∈ s, y ∈ addN x s) ∧ NIn (addN x s) (.var x) ∧ (addN x s).length ≤ _
    refine ⟨fun y hy => (mem_addN x y s).2 (.inr hy), ?_, ?_⟩
    · rw [NIn]; exact (mem_addN x x s).2 (.inl rfl)
    · have := addN_len x s; rw [size_kids]; omega
  | .mt n, env, s => by
    show (∀ y ∈ s, y ∈ s) ∧ NIn s (.mt n) ∧ s.length ≤ _
    exact ⟨fun _ h => h, by rw [NIn]; trivial, Nat.le_add_right _ _⟩
  | .con c l, env, s => by
    have e : thrN env (.con c l) s = thrNL env l s := by unfold thrN thrNL; rw [thr]; rfl
    obtain ⟨h1, h2, h3⟩ := names_inL l env s
    rw [e, NIn, size_kids]
    exact ⟨h1, h2, by show _ ≤ s.length + (sizeL l + 1); omega⟩
  | .fn a b, env, s => by
    have e : thrN env (.fn a b) s = thrN env b (thrN env a s) := by unfold thrN; rw [thr]; rfl
    obtain ⟨h1, h2, h3⟩ := names_in a env s
    obtain ⟨j1, j2, j3⟩ := names_in b env (thrN env a s)
    rw [e, NIn, size_kids]
    exact ⟨fun x hx => j1 x (h1 x hx), ⟨NIn.mono j1 a h2, j2⟩, by simp [kids, sizeL]; omega⟩
  | .all x t, env, s => by
    have e : thrN env (.all x t) s = thrN (x :: env) t (addN x s) := by unfold thrN; rw [thr]; rfl
    obtain ⟨h1, h2, h3⟩ := names_in t (x :: env) (addN x s)
    rw [e, NIn, size_kids]
    have := addN_len x s
    exact ⟨fun y hy => h1 y ((mem_addN x y s).2 (.inr hy)), ⟨h1 x ((mem_addN x x s).2 (.inl rfl)), h2⟩, by simp [kids, sizeL]; omega⟩
theorem names_inL : (l : List Ty) → ∀ env s, (∀ x ∈ s, x ∈ thrNL env l s) ∧ NInL (thrNL env l s) l ∧ (thrNL env l s).length ≤ s.length + sizeL l
  | [], env, s => by
    have e : thrNL env [] s = s := by unfold thrNL; rw [thrL]
    rw [e, NInL]
    exact ⟨fun _ h => h, trivial, Nat.le_add_right _ _⟩
  | t :: r, env, s => by
    have e : thrNL env (t :: r) s = thrNL env r (thrN env t s) := by unfold thrNL thrN; rw [thrL]
    obtain ⟨h1, h2, h3⟩ := names_in t env s
    obtain ⟨j1, j2, j3⟩ := names_inL r env (thrN env t s)
    rw [e, NInL, sizeL]
    exact ⟨fun x hx => j1 x (h1 x hx), ⟨NIn.mono j1 t h2, j2⟩, by omega⟩
end
theorem nin_namesL (t : Ty) : NIn (namesL t) t ∧ (namesL t).length ≤ t.size := by
  obtain ⟨_, h2, h3⟩ := names_in t [] []
  exact ⟨h2, by simpa [namesL, thrN] using h3⟩
theorem freeL_mem (u : Ty) (x : Name) : x ∈ freeL u ↔ FvOcc x (db [] u) := by
  rw [freeL_eq]
  unfold Ty.free
  rw [free_db [] [] (fun _ => Iff.rfl), mem_freeD]
  simp
theorem freeL_len (u : Ty) : (freeL u).length ≤ u.size := by
  rw [freeL_eq]
  unfold Ty.free
  rw [free_db [] [] (fun _ => Iff.rfl)]
  have := free_size_db [] u []
  simpa using this

theorem put_bound {t u : Ty} (ht : t.size ≤ 1000000) (hu : u.size ≤ 1000000) : 0 + (t.fas + 1) * ((freeL u ++ namesL t).length + 1) < 10 ^ 15 := by
  have h1 := (nin_namesL t).2
  have h2 := freeL_len u
  have h3 := fas_size t
  rw [List.length_append]
  have := Nat.mul_le_mul (show t.fas + 1 ≤ 1000001 by omega) (show (freeL u).length + (namesL t).length + 1 ≤ 2000001 by omega)
  omega

/-- what comes of putting, told by places -/
theorem db_putT (isP : Ty → Bool) (t u : Ty) (ht : t.size ≤ 1000000) (hu : u.size ≤ 1000000) : db [] (putT isP t u) = repD (Fu isP u) (Gu isP u) (db [] t) := by
  unfold putT
  rw [placesOf_eq]
  by_cases h : cnt isP [] t = 0
  · rw [if_pos h, rep_none isP u t [] h]
  · rw [if_neg h]
    have hm := chg_put isP u (freeL u ++ namesL t) (freeL u) (fun x hx => (freeL_mem u x).2 hx) (fun x hx => List.mem_append_left _ hx) t [] [] [] 0 [] (Ren.nil _) (NIn.mono (fun x hx => List.mem_append_right _ hx) t (nin_namesL t).1) (fun _ y hy => (List.not_mem_nil hy).elim) (put_bound ht hu)
    rw [List.append_nil] at hm
    exact hm.1

theorem look_mem {V : Type} (x : Name) (y : V) : (env : List (Name × V)) → look x env = some y → ∃ p ∈ env, p.2 = y
  | [], h => by cases h
  | p :: r, h => by
    rw [look] at h
    by_cases e : p.1 = x
    · rw [if_pos e] at h; injection h with h; exact ⟨p, List.mem_cons_self, h⟩
    · rw [if_neg e] at h
      obtain ⟨q, hq, e2⟩ := look_mem x y r h
      exact ⟨q, List.mem_cons_of_mem _ hq, e2⟩
theorem bindP_ways (free but : List Name) (x : Name) (s : List Nat × Nat) : (bindP free but x s).1 = x ∧ (bindP free but x s).2.2 = s.2 ∨ (bindP free but x s).1 = nm 120 (nextK 120 but s.2) ∧ (bindP free but x s).2.2 = nextK 120 but s.2 + 1 := by
  unfold bindP
  split
  · exact .inr ⟨rfl, rfl⟩
  · exact .inl ⟨rfl, rfl⟩
mutual
theorem chg_nm (free but : List Name) (leaf : Ty → Ty) (hl : ∀ t, kd t = 1 ∨ kd t = 2 → Nm t → Nm (leaf t)) : (t : Ty) → ∀ (env : List (Name × Name)) (s : List Nat × Nat), (∀ p ∈ env, Gd 1 p.2) → Nm t → s.2 + (t.fas + 1) * (but.length + 1) < 10 ^ 15 →
    Nm (chg (bindP free but) leaf env t s).1 ∧ (chg (bindP free but) leaf env t s).2.2 ≤ s.2 + t.fas * (but.length + 1)
  | .var x, env, s, he, hn, hb => by
    rw [chg]
    refine ⟨?_, Nat.le_add_right _ _⟩
    cases h : look x env with
    | none => exact hl _ (.inl rfl) hn
    | some y =>
      obtain ⟨p, hp, rfl⟩ := look_mem x y env h
      exact .var _ (he p hp)
  | .mt n, env, s, he, hn, hb => by rw [chg]; exact ⟨hl _ (.inr rfl) hn, Nat.le_add_right _ _⟩
  | .con c l, env, s, he, hn, hb => by
    rw [chg]
    rw [Ty.fas] at hb ⊢
    cases hn with
    | con _ _ hc hk =>
      obtain ⟨h1, h2⟩ := chg_nmL free but leaf hl l env s he hk hb
      exact ⟨.con c _ hc h1, h2⟩
  | .fn a b, env, s, he, hn, hb => by
    rw [chg]
    rw [Ty.fas] at hb ⊢
    have e : (a.fas + b.fas + 1) * (but.length + 1) = a.fas * (but.length + 1) + (b.fas + 1) * (but.length + 1) := by rw [← Nat.add_mul, Nat.add_assoc]
    have e3 : (b.fas + 1) * (but.length + 1) = b.fas * (but.length + 1) + (but.length + 1) := by rw [Nat.add_mul, Nat.one_mul]
    have e4 : (a.fas + 1) * (but.length + 1) = a.fas * (but.length + 1) + (but.length + 1) := by rw [Nat.add_mul, Nat.one_mul]
    cases hn with
    | fn _ _ ha hb2 =>
      obtain ⟨h1, h2⟩ := chg_nm free but leaf hl a env s he ha (by omega)
      obtain ⟨j1, j2⟩ := chg_nm free but leaf hl b env (chg (bindP free but) leaf env a s).2 he hb2 (by omega)
      exact ⟨.fn _ _ h1 j1, Nat.le_trans j2 (by rw [Nat.add_mul]; omega)⟩
  | .all x t, env, s, he, hn, hb => by
    rw [chg]
    rw [Ty.fas] at hb ⊢
    have e4 : (t.fas + 1 + 1) * (but.length + 1) = t.fas * (but.length + 1) + (but.length + 1) + (but.length + 1) := by rw [Nat.add_mul, Nat.add_mul, Nat.one_mul]
    have e5 : (t.fas + 1) * (but.length + 1) = t.fas * (but.length + 1) + (but.length + 1) := by rw [Nat.add_mul, Nat.one_mul]
    obtain ⟨_, n1, n2⟩ := nextK_spec 120 but s.2 (by omega)
    cases hn with
    | all _ _ hx ht =>
      have hg : Gd 1 (bindP free but x s).1 ∧ (bindP free but x s).2.2 ≤ s.2 + (but.length + 1) := by
        rcases bindP_ways free but x s with ⟨e1, e2⟩ | ⟨e1, e2⟩
        · exact ⟨by rw [e1]; exact hx, by omega⟩
        · exact ⟨by rw [e1]; exact gd_nm _ (by omega), by omega⟩
      obtain ⟨h1, h2⟩ := chg_nm free but leaf hl t ((x, (bindP free but x s).1) :: env) (bindP free but x s).2 (fun p hp => by
        rcases List.mem_cons.1 hp with rfl | hp
        · exact hg.1
        · exact he p hp) ht (by omega)
      exact ⟨.all _ _ hg.1 h1, Nat.le_trans h2 (by omega)⟩
theorem chg_nmL (free but : List Name) (leaf : Ty → Ty) (hl : ∀ t, kd t = 1 ∨ kd t = 2 → Nm t → Nm (leaf t)) : (l : List Ty) → ∀ (env : List (Name × Name)) (s : List Nat × Nat), (∀ p ∈ env, Gd 1 p.2) → (∀ t ∈ l, Nm t) → s.2 + (fasL l + 1) * (but.length + 1) < 10 ^ 15 →
    (∀ t ∈ (chgL (bindP free but) leaf env l s).1, Nm t) ∧ (chgL (bindP free but) leaf env l s).2.2 ≤ s.2 + fasL l * (but.length + 1)
  | [], env, s, he, hn, hb => by rw [chgL]; exact ⟨fun t ht => (List.not_mem_nil ht).elim, Nat.le_add_right _ _⟩
  | a :: b, env, s, he, hn, hb => by
    rw [chgL]
    rw [fasL] at hb ⊢
    have e : (a.fas + fasL b + 1) * (but.length + 1) = a.fas * (but.length + 1) + (fasL b + 1) * (but.length + 1) := by rw [← Nat.add_mul, Nat.add_assoc]
    have e3 : (fasL b + 1) * (but.length + 1) = fasL b * (but.length + 1) + (but.length + 1) := by rw [Nat.add_mul, Nat.one_mul]
    have e4 : (a.fas + 1) * (but.length + 1) = a.fas * (but.length + 1) + (but.length + 1) := by rw [Nat.add_mul, Nat.one_mul]
    obtain ⟨h1, h2⟩ := chg_nm free but leaf hl a env s he (hn a List.mem_cons_self) (by omega)
    obtain ⟨j1, j2⟩ := chg_nmL free but leaf hl b env (chg (bindP free but) leaf env a s).2 he (fun t ht => hn t (List.mem_cons_of_mem _ ht)) (by omega)
    refine ⟨fun t ht => ?_, Nat.le_trans j2 (by rw [Nat.add_mul]; omega)⟩
    rcases List.mem_cons.1 ht with rfl | ht
    · exact h1
    · exact j1 t ht
end
theorem nm_putT (isP : Ty → Bool) (t u : Ty) (ht : t.size ≤ 1000000) (hu : u.size ≤ 1000000) (hn : Nm t) (hnu : Nm u) : Nm (putT isP t u) := by
  unfold putT
  split
  · exact hn
  · exact (chg_nm _ _ _ (fun l _ hl => by split; exact hnu; exact hl) t [] _ (fun _ h => (List.not_mem_nil h).elim) hn (put_bound ht hu)).1

section
variable {σ : Type}
mutual
theorem chg_size_le (bind : Name → σ → Name × σ) (leaf : Ty → Ty) (B : Nat) (hB : 1 ≤ B) (hl : ∀ t, kd t = 1 ∨ kd t = 2 → (leaf t).size ≤ B) : (t : Ty) → ∀ env s, (chg bind leaf env t s).1.size ≤ t.size * B
  | .var x, env, s => by
    rw [chg]
    have e : (Ty.var x).size = 1 := by rw [size_kids]; simp [kids, sizeL]
    rw [e, Nat.one_mul]
    cases look x env with
    | none => exact hl _ (.inl rfl)
    | some y =>
      show (Ty.var y).size ≤ B
      have e : (Ty.var y).size = 1 := by rw [size_kids]; simp [kids, sizeL]
      omega
  | .mt n, env, s => by
    rw [chg]
    have e : (Ty.mt n).size = 1 := by rw [size_kids]; simp [kids, sizeL]
    rw [e, Nat.one_mul]
    exact hl _ (.inr rfl)
  | .con c l, env, s => by
    rw [chg, size_kids, size_kids (.con c l), Nat.add_mul]
    have := chg_size_leL bind leaf B hB hl l env s
    show sizeL (chgL bind leaf env l s).1 + 1 ≤ sizeL l * B + 1 * B
    omega
  | .fn a b, env, s => by
    rw [chg, size_kids, size_kids (.fn a b), Nat.add_mul]
    have h1 := chg_size_le bind leaf B hB hl a env s
    have h2 := chg_size_le bind leaf B hB hl b env (chg bind leaf env a s).2
    simp only [kids, sizeL, Nat.add_mul, Nat.zero_mul, Nat.one_mul]
    omega
  | .all x t, env, s => by
    rw [chg, size_kids, size_kids (.all x t), Nat.add_mul]
    have h1 := chg_size_le bind leaf B hB hl t ((x, (bind x s).1) :: env) (bind x s).2
    simp only [kids, sizeL, Nat.add_mul, Nat.zero_mul, Nat.one_mul]
    omega
theorem chg_size_leL (bind : Name → σ → Name × σ) (leaf : Ty → Ty) (B : Nat) (hB : 1 ≤ B) (hl : ∀ t, kd t = 1 ∨ kd t = 2 → (leaf t).size ≤ B) : (l : List Ty) → ∀ env s, sizeL (chgL bind leaf env l s).1 ≤ sizeL l * B
  | [], env, s => by rw [chgL, sizeL]; exact Nat.zero_le _
  | a :: b, env, s => by
    rw [chgL, sizeL, sizeL, Nat.add_mul]
    have h1 := chg_size_le bind leaf B hB hl a env s
    have h2 := chg_size_leL bind leaf B hB hl b env (chg bind leaf env a s).2
    omega
end
end
theorem size_pos (t : Ty) : 1 ≤ t.size := by rw [size_kids]; omega
theorem size_putT (isP : Ty → Bool) (t u : Ty) : (putT isP t u).size ≤ t.size * u.size := by
  unfold putT
  split
  · have := Nat.mul_le_mul (Nat.le_refl t.size) (size_pos u); omega
  · refine chg_size_le _ _ u.size (size_pos u) (fun l hk => ?_) t [] _
    split
    · exact Nat.le_refl _
    · have h1 := size_pos u
      have : l.size = 1 := by
        cases l with
        | var x => rw [size_kids]; simp [kids, sizeL]
        | mt n => rw [size_kids]; simp [kids, sizeL]
        | con c l => simp [kd] at hk
        | fn a b => simp [kd] at hk
        | all x t => simp [kd] at hk
      omega

/-- a variable -/
theorem db_putV (a : Name) (t u : Ty) (ht : t.size ≤ 1000000) (hu : u.size ≤ 1000000) : db [] (putT (isPV a) t u) = subD a (db [] u) (db [] t) := by
  rw [db_putT (isPV a) t u ht hu]
  unfold subD
  congr 1
  funext x
  show (if (x == a) = true then db [] u else .fv x) = if x = a then db [] u else .fv x
  by_cases h : x = a
  · rw [if_pos (by simpa using h), if_pos h]
  · rw [if_neg (by simpa using h), if_neg h]
/-- an unknown -/
theorem db_putM (m : Nat) (t u : Ty) (ht : t.size ≤ 1000000) (hu : u.size ≤ 1000000) : db [] (putT (isPM (m : Int)) t u) = filD m (db [] u) (db [] t) := by
  rw [db_putT (isPM (m : Int)) t u ht hu]
  unfold filD
  congr 1
  funext n
  show (if ((n : Int) == (m : Int)) = true then db [] u else .mt n) = if n = m then db [] u else .mt n
  by_cases h : n = m
  · rw [if_pos (by simp [h]), if_pos h]
  · rw [if_neg (by simp; omega), if_neg h]
theorem db_putM_neg (m : Int) (hm : m < 0) (t u : Ty) (ht : t.size ≤ 1000000) (hu : u.size ≤ 1000000) : db [] (putT (isPM m) t u) = db [] t := by
  rw [db_putT (isPM m) t u ht hu]
  refine repD_id _ _ _ (fun x _ => rfl) (fun n _ => ?_)
  show (if ((n : Int) == m) = true then db [] u else .mt n) = .mt n
  rw [if_neg (by simp; omega)]

end Go.Proofs.YthgkpmgcikopnaaGreatDoor

/-
  The laws of types: the chapter's examples hold.
-/
namespace Go.Proofs.YthgkpmgcikopnaaGreatDoor
open Go.RowKit Lx Tx Go.Maps Go.WideMaps Go.Shelf
set_option maxRecDepth 100000

set_option maxHeartbeats 800000 in
theorem tc_canonOk (s : ByteArray) (t : Ty) (h : parse s.data.toList = .ok t) (w : World) (ht : Tab w) (hs : s.size ≤ maxLen) :
    Calls Tryz.prog 38 #[.string s] w fun e w' => e = .returned (.string ⟨t.canonT.print.toArray⟩) ∧ Below w.heap.size w w' := by
  obtain ⟨hn, -, hsz, hl⟩ := parse_nm _ _ h
  have HP := hidE (tc_parseOk s t h w hs)
  have HT := hidE ht
  obtain ⟨R, hR⟩ : ∃ R : ByteArray, ⟨t.canonT.print.toArray⟩ = R := ⟨_, rfl⟩
  rw [hR]
  clear h ht hs
  go_enter Tryz.func38, Tryz.ntmps38
  go_wp2_with fail
  refine HP.out.mono ?_
  rintro e w1 ⟨K, X, Z, A, m, c, rfl, hr, b1⟩
  have hbx := Bx.made hr
  have hb2 : Below w.heap.size w (w1.alloc (.cells #[.int .i64 K, .string X, .int .i64 Z, .slice A m c] 25)) := b1.alloc b1.size _
  obtain ⟨x0, x1, x2, x3⟩ := hbx.cells
  have hcan := hbx.canon hn (by omega) (HT.out.below hb2)
  rw [hR] at hcan
  have HC := hidE hcan
  have HB2 := hidE hb2
  clear hr b1 hbx hb2 hcan HP hn
  go_wp2_with fail
  refine HC.out.mono ?_
  rintro e w2 ⟨rfl, b2⟩
  have HB3 := hidE (HB2.out.trans (b2.mono HB2.out.size))
  clear b2 HC
  go_wp2_with fail
  go_ret
  exact ⟨rfl, HB3.out⟩

theorem nm_of {s : ByteArray} {t : Ty} (h : parse s.data.toList = .ok t) : Nm t ∧ t.size ≤ 1000000 := by
  obtain ⟨hn, -, hsz, hl⟩ := parse_nm _ _ h
  exact ⟨hn, by omega⟩

set_option maxHeartbeats 3200000 in
theorem tc_awake (w : World) (ht : Tab w) : Calls Tryz.prog 11 #[] w fun e w' => e = .returned (.bool true) ∧ Below w.heap.size w w' := by
  have HT := hidE ht
  have PA := fun w => tc_parseOk sA exA parse_A w (by unfold maxLen; decide)
  have PB := fun w => tc_parseOk sB exB parse_B w (by unfold maxLen; decide)
  have PG := fun w => tc_parseErr sG 20 parse_G w (by unfold maxLen; decide)
  have PH := fun w => tc_parseErr ⟨#[]⟩ 20 parse_H w (by unfold maxLen; decide)
  have PC := fun w ht => tc_canonOk sC exC parse_C w ht (by unfold maxLen; decide)
  have PD := fun w => tc_parseOk sD exD parse_D w (by unfold maxLen; decide)
  have PU := fun w => tc_parseOk sU exU parse_U w (by unfold maxLen; decide)
  rw [canon_C] at PC
  have HPA := hidE PA
  have HPB := hidE PB
  have HPG := hidE PG
  have HPH := hidE PH
  have HPC := hidE PC
  have HPD := hidE PD
  have HPU := hidE PU
  clear PA PB PG PH PC PD PU ht
  unfold sA at HPA
  unfold sB at HPB
  unfold sG at HPG
  unfold sC at HPC
  unfold sD at HPD
  unfold sU at HPU
  go_enter Tryz.func11, Tryz.ntmps11
  go_wp2_with fail
  refine (HPA.out _).mono ?_
  rintro e w1 ⟨K1, X1, Z1, A1, m1, c1, rfl, hr, b1⟩
  have BA := hidE (Bx.made hr)
  have W1 := hidE (b1.alloc b1.size (.cells #[.int .i64 K1, .string X1, .int .i64 Z1, .slice A1 m1 c1] 25))
  clear hr b1
  go_wp2_with fail
  refine (HPB.out _).mono ?_
  rintro e w2 ⟨K2, X2, Z2, A2, m2, c2, rfl, hr, b2⟩
  have BB := hidE (Bx.made hr)
  have W2 := hidE ((W1.out.trans (b2.mono W1.out.size)).alloc (Nat.le_trans W1.out.size b2.size) (.cells #[.int .i64 K2, .string X2, .int .i64 Z2, .slice A2 m2 c2] 25))
  have BA2 := hidE (BA.out.below (b2.alloc b2.size (.cells #[.int .i64 K2, .string X2, .int .i64 Z2, .slice A2 m2 c2] 25)))
  clear hr b2 BA
  go_wp2_with fail
  refine (HPG.out _).mono ?_
  rintro e w3 ⟨K3, X3, Z3, A3, m3, c3, rfl, b3⟩
  have W3 := hidE ((W2.out.trans (b3.mono W2.out.size)).alloc (Nat.le_trans W2.out.size b3.size) (.cells #[.int .i64 K3, .string X3, .int .i64 Z3, .slice A3 m3 c3] 25))
  have BA3 := hidE (BA2.out.below (b3.alloc b3.size (.cells #[.int .i64 K3, .string X3, .int .i64 Z3, .slice A3 m3 c3] 25)))
  have BB3 := hidE (BB.out.below (b3.alloc b3.size (.cells #[.int .i64 K3, .string X3, .int .i64 Z3, .slice A3 m3 c3] 25)))
  clear b3 BA2 BB
  go_wp2_with fail
  refine (HPH.out _).mono ?_
  rintro e w4 ⟨K4, X4, Z4, A4, m4, c4, rfl, b4⟩
  obtain ⟨V4, hV4⟩ : ∃ V, w4.alloc (.cells #[.int .i64 K4, .string X4, .int .i64 Z4, .slice A4 m4 c4] 25) = V := ⟨_, rfl⟩
  have h4 := b4.alloc b4.size (.cells #[.int .i64 K4, .string X4, .int .i64 Z4, .slice A4 m4 c4] 25)
  rw [hV4] at h4
  have W4 : Hid (Below w.heap.size w V4) := hidE (W3.out.trans (h4.mono W3.out.size))
  have BA4 := hidE (BA3.out.below h4)
  have BB4 := hidE (BB3.out.below h4)
  clear b4 h4 BA3 BB3
  obtain ⟨x0, x1, x2, x3⟩ := BA4.out.cells
  obtain ⟨nA, sA'⟩ := nm_of parse_A
  obtain ⟨nB, sB'⟩ := nm_of parse_B
  have pr := BA4.out.print nA sA' (HT.out.below W4.out)
  rw [print_A] at pr
  have PR := hidE pr
  clear pr
  go_wp2_with fail
  refine PR.out.mono ?_
  rintro e w5 ⟨rfl, b5⟩
  have W5 : Hid (Below w.heap.size w w5) := hidE (W4.out.trans (b5.mono W4.out.size))
  have BA5 := hidE (BA4.out.below b5)
  have BB5 := hidE (BB4.out.below b5)
  obtain ⟨y0, y1, y2, y3⟩ := BA5.out.cells
  have pr := BA5.out.canon nA sA' (HT.out.below W5.out)
  rw [canon_A] at pr
  have PR2 := hidE pr
  clear b5 pr PR BA4 BB4
  go_wp2_with fail
  refine PR2.out.mono ?_
  rintro e w6 ⟨rfl, b6⟩
  have W6 : Hid (Below w.heap.size w w6) := hidE (W5.out.trans (b6.mono W5.out.size))
  have BB6 := hidE (BB5.out.below b6)
  obtain ⟨z0, z1, z2, z3⟩ := BB6.out.cells
  have pr := BB6.out.print nB sB' (HT.out.below W6.out)
  rw [print_B] at pr
  have PR3 := hidE pr
  clear b6 pr PR2 BA5 BB5
  go_wp2_with fail
  refine PR3.out.mono ?_
  rintro e w7 ⟨rfl, b7⟩
  have W7 : Hid (Below w.heap.size w w7) := hidE (W6.out.trans (b7.mono W6.out.size))
  have BB7 := hidE (BB6.out.below b7)
  obtain ⟨u0, u1, u2, u3⟩ := BB7.out.cells
  have pr := BB7.out.free nB sB'
  unfold FreePst at pr
  rw [free_B] at pr
  have PR4 := hidE pr
  clear b7 pr PR3 BB6
  go_wp2_with fail
  refine PR4.out.mono ?_
  rintro e w8 ⟨A8, c8, rfl, -, b8⟩
  have W8 : Hid (Below w.heap.size w w8) := hidE (W7.out.trans (b8.mono W7.out.size))
  have BB8 := hidE (BB7.out.below b8)
  obtain ⟨v0, v1, v2, v3⟩ := BB8.out.cells
  have pr := BB8.out.metas nB sB'
  unfold MetasPst at pr
  rw [metas_B] at pr
  have PR5 := hidE pr
  clear b8 pr PR4 BB7
  go_wp2_with fail
  refine PR5.out.mono ?_
  rintro e w9 ⟨A9, c9, rfl, -, b9⟩
  have W9 : Hid (Below w.heap.size w w9) := hidE (W8.out.trans (b9.mono W8.out.size))
  clear b9 PR5 BB8
  have PR6 := hidE (HPC.out w9 (HT.out.below W9.out))
  go_wp2_with fail
  refine PR6.out.mono ?_
  rintro e w10 ⟨rfl, b10⟩
  have W10 : Hid (Below w.heap.size w w10) := hidE (W9.out.trans (b10.mono W9.out.size))
  clear b10 PR6
  go_wp2_with fail
  refine (HPD.out _).mono ?_
  rintro e w11 ⟨K11, X11, Z11, A11, m11, c11, rfl, hr, b11⟩
  have BD := hidE (Bx.made hr)
  have W11 := hidE ((W10.out.trans (b11.mono W10.out.size)).alloc (Nat.le_trans W10.out.size b11.size) (.cells #[.int .i64 K11, .string X11, .int .i64 Z11, .slice A11 m11 c11] 25))
  clear hr b11
  go_wp2_with fail
  refine (HPU.out _).mono ?_
  rintro e w12 ⟨K12, X12, Z12, A12, m12, c12, rfl, hr, b12⟩
  have hbu := Bx.made hr
  have h12 := b12.alloc b12.size (.cells #[.int .i64 K12, .string X12, .int .i64 Z12, .slice A12 m12 c12] 25)
  obtain ⟨V12, hV12⟩ : ∃ V, w12.alloc (.cells #[.int .i64 K12, .string X12, .int .i64 Z12, .slice A12 m12 c12] 25) = V := ⟨_, rfl⟩
  rw [hV12] at hbu h12
  have W12 : Hid (Below w.heap.size w V12) := hidE (W11.out.trans (h12.mono W11.out.size))
  have hbd := BD.out.below h12
  obtain ⟨a0, a1, a2, a3⟩ := hbd.cells
  obtain ⟨q0, q1, q2, q3⟩ := hbu.cells
  obtain ⟨nD, sD'⟩ := nm_of parse_D
  obtain ⟨nU, sU'⟩ := nm_of parse_U
  have PR7 := hidE (rd_put hbd.rd hbu.rd hbd.lt hbu.lt nD nU sD' sU' (HT.out.below W12.out) { data := #[98] })
  clear hr b12 h12 hbu hbd BD
  go_wp2_with fail
  refine PR7.out.mono ?_
  rintro e w13 ⟨K13, X13, Z13, A13, m13, c13, rfl, hr, b13⟩
  have W13 : Hid (Below w.heap.size w w13) := hidE (W12.out.trans (b13.mono W12.out.size))
  have hn13 := nm_putT (isPV ({ data := #[98] } : ByteArray).data.toList) exD exU sD' sU' nD nU
  have hs13 : (putT (isPV ({ data := #[98] } : ByteArray).data.toList) exD exU).size ≤ 1000000 := Nat.le_trans (size_putT _ _ _) (by decide)
  have pr := tc_canon _ _ _ w13 hr (fun g hg => hg) hn13 hs13 (HT.out.below W13.out)
  rw [show (putT (isPV ({ data := #[98] } : ByteArray).data.toList) exD exU) = putT (isPV [98]) exD exU from rfl, canon_D] at pr
  have PR8 := hidE pr
  clear hr b13 PR7 pr hn13 hs13
  go_wp2_with fail
  refine PR8.out.mono ?_
  rintro e w14 ⟨rfl, b14⟩
  have W14 : Hid (Below w.heap.size w w14) := hidE (W13.out.trans (b14.mono W13.out.size))
  clear b14 PR8
  go_wp2_with fail
  go_ret
  exact ⟨rfl, W14.out⟩

end Go.Proofs.YthgkpmgcikopnaaGreatDoor

/-
  Package types: two types side by side: their arguments.
-/
namespace Go.Proofs.YthgkpmgcikopnaaGreatDoor
open Go.RowKit Lx Tx Go.Maps Go.WideMaps Go.Shelf
set_option maxRecDepth 100000

/-- at the head of each round -/
def HeadSm (pb lb rb m : Nat) (el er : List (Name × Nat)) (l r : List Ty) (mt : Nat) (w0 : World) (gg : Nat) (vi : Value) (wr : World) : Prop :=
  ∃ i mt' : Nat, gg = m - i ∧ vi = .int .i64 (i : Nat) ∧ i ≤ m ∧ Hid (smL el er (l.take i) (r.take i) mt = (true, mt')) ∧ PairI pb lb rb el er mt' wr ∧ Chg (PM pb lb rb) w0 wr

set_option maxHeartbeats 3200000 in
theorem tc_sameArgs (n pb lb rb : Nat) (HC : SameOK n pb lb rb) (t u : Ty) (el er : List (Name × Nat)) (mt : Nat) (S Su : Nat → Prop) (v uv : Value) (w : World) (hn : t.size ≤ n + 1) (h6 : n ≤ 100000000) (hp : PairI pb lb rb el er mt w) (hv : RdV S w t v) (hu : RdV Su w u uv)
    (hS : ∀ g, S g → g < w.heap.size ∧ ¬ PM pb lb rb g) (hSu : ∀ g, Su g → g < w.heap.size ∧ ¬ PM pb lb rb g) (hnm : Nm t) (hnu : Nm u) (h1 : el.length + sizeL (kids t) ≤ 500000000) (h2 : er.length + sizeL (kids t) ≤ 500000000) (h3 : mt + sizeL (kids t) ≤ 1000000000) (hlen : (kids t).length = (kids u).length) :
    Calls Tryz.prog 96 #[.pointer (some ⟨pb, 0, none⟩), v, uv] w (SPst pb lb rb el er (smL el er (kids t) (kids u) mt) w) := by
  obtain ⟨K, X, Z, A, m, c, rfl, -, -, -, hm, ha⟩ := hv.parts
  obtain ⟨K', X', Z', A', m', c', rfl, -, -, -, hm', ha'⟩ := hu.parts
  obtain rfl : m = m' := by omega
  have hm6 : m ≤ n := by have := kids_len t; omega
  have hnk : ∀ i (hi : i < (kids t).length), Nm (kids t)[i] := fun i hi => nm_kid hnm i hi
  have hnku : ∀ i (hi : i < (kids u).length), Nm (kids u)[i] := fun i hi => nm_kid hnu i hi
  obtain ⟨l0, l1, ls, lb2⟩ := laid2 w (.cells #[.int .i64 K, .string X, .int .i64 Z, .slice A m c] 25) (.cells #[.int .i64 K', .string X', .int .i64 Z', .slice A' m c'] 25)
  obtain ⟨W2, hW2⟩ : ∃ W, (w.alloc (.cells #[.int .i64 K, .string X, .int .i64 Z, .slice A m c] 25)).alloc (.cells #[.int .i64 K', .string X', .int .i64 Z', .slice A' m c'] 25) = W := ⟨_, rfl⟩
  rw [hW2] at l0 l1 ls lb2
  have HP2 := hidE (hp.below lb2)
  have hltp : ∀ g, PM pb lb rb g → g < w.heap.size := hp.lt
  obtain ⟨p0, p1, p2, p3, -⟩ := blk_facts4 (show Blk W2 w.heap.size 25 _ from l0)
  have L1 : Hid (Blk W2 (w.heap.size + 1) 25 #[.int .i64 K', .string X', .int .i64 Z', .slice A' m c']) := hidE l1
  have LS := hidE ls
  have LB := hidE lb2
  have HM := hidE hm
  have HM' := hidE hm'
  have HA := hidE ha
  have HA' := hidE ha'
  have HS := hidE hS
  have HSU := hidE hSu
  have HNK := hidE hnk
  have HNKU := hidE hnku
  have HLT := hidE hltp
  have HN := hidE hn
  obtain ⟨R, hR⟩ : ∃ R, smL el er (kids t) (kids u) mt = R := ⟨_, rfl⟩
  have HR := hidE hR
  rw [hR]
  clear hv hu hm hm' ha ha' hS hSu hnm hnu hp l0 l1 ls lb2 hR hnk hnku hltp hlen hn
  go_enter Tryz.func96, Tryz.ntmps96
  go_wp2_with fail
  go_loopg [12] m (fun gg vi wr => HeadSm pb lb rb m el er (kids t) (kids u) mt W2 gg vi wr)
  case atStart => exact ⟨0, mt, rfl, rfl, Nat.zero_le _, hidE (by rw [List.take_zero, smL]), HP2.out, Chg.refl _ _⟩
  case round =>
    obtain ⟨i, mt', hgg, rfl, hi, htake, hpi, hc⟩ := hrel
    have HTK := hidE htake.out
    have HPI := hidE hpi
    have C1 := hidE hc
    have hs1 := hc.size
    rw [LS.out] at hs1
    clear htake hpi hc
    by_cases hlt : i < m
    · have hkk : ∀ g, S g → wr.heap[g]? = w.heap[g]? := fun g hg => (C1.out.block g (by have := (HS.out g hg).1; rw [LS.out]; omega) (HS.out g hg).2).trans (LB.out.block g (HS.out g hg).1)
      have hkk' : ∀ g, Su g → wr.heap[g]? = w.heap[g]? := fun g hg => (C1.out.block g (by have := (HSU.out g hg).1; rw [LS.out]; omega) (HSU.out g hg).2).trans (LB.out.block g (HSU.out g hg).1)
      obtain ⟨g, a, K1, X1, Z1, A1, n1, c1, rfl, hg, e0, e1, e2, e3, hua, hrd, hsa⟩ := kid_cells HA.out HM.out hlt hkk
      obtain ⟨g', b, K2, X2, Z2, A2, n2, c2, rfl, hg', f0, f1, f2, f3, hub, hrd', -⟩ := kid_cells HA'.out HM'.out hlt hkk'
      have hna : Nm a := by obtain ⟨hi', rfl⟩ := List.getElem?_eq_some_iff.1 hua; exact HNK.out i hi'
      have hnb : Nm b := by obtain ⟨hi', rfl⟩ := List.getElem?_eq_some_iff.1 hub; exact HNKU.out i hi'
      have hsl : sizeL ((kids t).take i) + a.size ≤ sizeL (kids t) := by
        obtain ⟨hi', rfl⟩ := List.getElem?_eq_some_iff.1 hua
        have := sizeL_next (kids t) i _ ⟨hi', rfl⟩
        have := sizeL_take_le (kids t) (i + 1)
        omega
      have hmt' : mt' ≤ mt + sizeL ((kids t).take i) := by have := (smL_num ((kids t).take i) el er ((kids u).take i) mt).2; rw [HTK.out] at this; exact this
      have hst := smL_take el er (kids t) (kids u) i mt mt' a b hua hub HTK.out
      have hil : i < (kids t).length := by rw [HM.out]; exact hlt
      have hil' : i < (kids u).length := by rw [HM'.out]; exact hlt
      have hfl : ∀ z, smT el er a b mt' = (false, z) → R = (false, z) := fun z hz => by rw [← HR.out]; exact smL_false el er (kids t) (kids u) i mt z hil hil' (by rw [hst, hz])
      have hal : ∀ q, q < wr.heap.size → ((wr.alloc (.cells #[.int .i64 K1, .string X1, .int .i64 Z1, .slice A1 n1 c1] 25)).drew).heap[q]? = wr.heap[q]? := fun q hq => Below.heap_alloc _ _ _ hq
      have hsz1 : ((wr.alloc (.cells #[.int .i64 K1, .string X1, .int .i64 Z1, .slice A1 n1 c1] 25)).drew).heap.size = wr.heap.size + 1 := size_alloc _ _
      have hcall := HC a b el er mt' S Su _ _ ((wr.alloc (.cells #[.int .i64 K1, .string X1, .int .i64 Z1, .slice A1 n1 c1] 25)).drew) (by have := HN.out; omega) h6 (HPI.out.keep fun q hq => hal q (HPI.out.lt q hq)) (hrd.keep (fun _ h => h) (fun q hq => hal q (by have := (HS.out q hq).1; omega))) (hrd'.keep (fun _ h => h) (fun q hq => hal q (by have := (HSU.out q hq).1; omega)))
        (fun q hq => ⟨by have := (HS.out q hq).1; omega, (HS.out q hq).2⟩) (fun q hq => ⟨by have := (HSU.out q hq).1; omega, (HSU.out q hq).2⟩) hna hnb (by omega) (by omega) (by omega)
      obtain ⟨⟨q, z⟩, hqz⟩ : ∃ p, smT el er a b mt' = p := ⟨_, rfl⟩
      rw [hqz] at hcall hst
      have HCALL := hidE hcall
      have HST := hidE hst
      have HFL := hidE hfl
      have HQZ := hidE hqz
      have hgl := lt_cell f0
      have hgn : g' ≠ wr.heap.size := by omega
      have hgP : g' < w.heap.size ∧ ¬ PM pb lb rb g' := HSU.out g' hg'
      have K1B : Hid (Blk ((wr.alloc (.cells #[.int .i64 K1, .string X1, .int .i64 Z1, .slice A1 n1 c1] 25)).drew) wr.heap.size 25 #[.int .i64 K1, .string X1, .int .i64 Z1, .slice A1 n1 c1]) := hidE (heap_alloc_new wr _)
      have U1B : Hid (Blk ((wr.alloc (.cells #[.int .i64 K1, .string X1, .int .i64 Z1, .slice A1 n1 c1] 25)).drew) (w.heap.size + 1) 25 #[.int .i64 K', .string X', .int .i64 Z', .slice (some ⟨g', 0, none⟩) m c']) := hidE ((hal _ (by omega)).trans (L1.out.chg C1.out (fun h => by have := HLT.out _ h; omega)))
      have SOF : Hid (∀ W : World, Blk W wr.heap.size 25 #[.int .i64 K1, .string X1, .int .i64 Z1, .slice A1 n1 c1] → Blk W (w.heap.size + 1) 25 #[.int .i64 K', .string X', .int .i64 Z', .slice (some ⟨g', 0, none⟩) m c'] → W.heap[g']? = wr.heap[g']? →
          W.cell? ⟨wr.heap.size, 0, none⟩ = some (.int .i64 K1) ∧ W.cell? ⟨wr.heap.size, 1, none⟩ = some (.string X1) ∧ W.cell? ⟨wr.heap.size, 2, none⟩ = some (.int .i64 Z1) ∧ W.cell? ⟨wr.heap.size, 3, none⟩ = some (.slice A1 n1 c1) ∧ W.cell? ⟨w.heap.size + 1, 3, none⟩ = some (.slice (some ⟨g', 0, none⟩) m c') ∧
          W.cell? ⟨g', i * 4, none⟩ = some (.int .i64 K2) ∧ W.cell? ⟨g', i * 4 + 1, none⟩ = some (.string X2) ∧ W.cell? ⟨g', i * 4 + 2, none⟩ = some (.int .i64 Z2) ∧ W.cell? ⟨g', i * 4 + 3, none⟩ = some (.slice A2 n2 c2)) :=
        hidE fun W b1 b2 hk => ⟨b1.cell 0, b1.cell 1, b1.cell 2, b1.cell 3, b2.cell 3, (World.cell?_of_block (w := wr) (a := ⟨g', i * 4, none⟩) hk).trans f0, (World.cell?_of_block (w := wr) (a := ⟨g', i * 4 + 1, none⟩) hk).trans f1, (World.cell?_of_block (w := wr) (a := ⟨g', i * 4 + 2, none⟩) hk).trans f2, (World.cell?_of_block (w := wr) (a := ⟨g', i * 4 + 3, none⟩) hk).trans f3⟩
      have HG0 : Hid (((wr.alloc (.cells #[.int .i64 K1, .string X1, .int .i64 Z1, .slice A1 n1 c1] 25)).drew).heap[g']? = wr.heap[g']?) := hidE (hal g' hgl)
      clear hkk hkk' hua hub hrd hrd' hna hnb hst hfl hcall hqz hil hil' f0 f1 f2 f3 hsa
      go_wp2_with fail
      go_region_held3 (fun W => W.cell? ⟨wr.heap.size, 0, none⟩ = some (.int .i64 K1) ∧ W.cell? ⟨wr.heap.size, 1, none⟩ = some (.string X1) ∧ W.cell? ⟨wr.heap.size, 2, none⟩ = some (.int .i64 Z1) ∧ W.cell? ⟨wr.heap.size, 3, none⟩ = some (.slice A1 n1 c1) ∧ W.cell? ⟨w.heap.size + 1, 3, none⟩ = some (.slice (some ⟨g', 0, none⟩) m c') ∧
          W.cell? ⟨g', i * 4, none⟩ = some (.int .i64 K2) ∧ W.cell? ⟨g', i * 4 + 1, none⟩ = some (.string X2) ∧ W.cell? ⟨g', i * 4 + 2, none⟩ = some (.int .i64 Z2) ∧ W.cell? ⟨g', i * 4 + 3, none⟩ = some (.slice A2 n2 c2)) (first | (with_reducible exact SOF.out _ K1B.out U1B.out HG0.out) | (with_reducible exact SOF.out _ K2B.out U2B.out HG2.out))
        ((first | ((with_reducible refine HCALL.out.mono ?_); rintro e w5 ⟨rfl, hp5, c5⟩; have K2B := hidE (K1B.out.chg c5 (fun h => by have := HLT.out _ h; omega)); have U2B := hidE (U1B.out.chg c5 (fun h => by have := HLT.out _ h; omega)); have HG2 := hidE ((c5.block g' (by omega) hgP.2).trans HG0.out); have HP5 := hidE hp5; have C5 := hidE c5; clear hp5 c5)))
      all_goals
        clear HCALL
      have C6 := hidE (((C1.out.alloc (.cells #[.int .i64 K1, .string X1, .int .i64 Z1, .slice A1 n1 c1] 25)).drew).trans C5.out)
      cases q with
      | true =>
        go_wp2_with fail
        go_roundg (m - (i + 1))
        case measure => omega
        case rel => exact ⟨i + 1, z, rfl, by go_num, by omega, HST, HP5.out, C6.out⟩
      | false =>
        have HF := hidE (HFL.out z HQZ.out)
        go_wp2_with fail
        go_ret
        rw [HF.out]
        exact ⟨rfl, HP5.out, (Chg.of_below LB.out).trans' C6.out (fun g hg h => h)⟩
    · have hend : (kids t).take i = kids t := List.take_of_length_le (by have := HM.out; omega)
      have hend' : (kids u).take i = kids u := List.take_of_length_le (by have := HM'.out; omega)
      have hfin : R = (true, mt') := by rw [← HR.out, ← HTK.out, hend, hend']
      have HF := hidE hfin
      clear hend hend' hfin
      go_wp2_with fail
      go_ret
      rw [HF.out]
      exact ⟨rfl, HPI.out, (Chg.of_below LB.out).trans' C1.out (fun g hg h => h)⟩

end Go.Proofs.YthgkpmgcikopnaaGreatDoor

/-
  Package types: two types side by side: unlike ones, variables, unknowns.
-/
namespace Go.Proofs.YthgkpmgcikopnaaGreatDoor
open Go.RowKit Lx Tx Go.Maps Go.WideMaps Go.Shelf
set_option maxRecDepth 100000

theorem valO_int (o : Option Nat) : mkInt.valO o = .int .i64 ((o.getD 0 : Nat) : Int) := by cases o <;> rfl

set_option maxHeartbeats 1600000 in
theorem tc_sameNot (pb lb rb : Nat) (el er : List (Name × Nat)) (mt : Nat) (K K' Z Z' : Int) (X X' : ByteArray) (A A' : Option Addr) (m m' c c' : Nat) (w : World) (hp : PairI pb lb rb el er mt w) (h : K ≠ K' ∨ m ≠ m') :
    Calls Tryz.prog 69 #[.pointer (some ⟨pb, 0, none⟩), .agg #[.int .i64 K, .string X, .int .i64 Z, .slice A m c], .agg #[.int .i64 K', .string X', .int .i64 Z', .slice A' m' c']] w (SPst pb lb rb el er (false, mt) w) := by
  obtain ⟨-, -, -, lb2⟩ := laid2 w (.cells #[.int .i64 K, .string X, .int .i64 Z, .slice A m c] 25) (.cells #[.int .i64 K', .string X', .int .i64 Z', .slice A' m' c'] 25)
  have HP2 := hidE (hp.below lb2)
  have LB := hidE lb2
  clear hp lb2
  by_cases hk : K = K'
  · subst hk
    have hm : ((m : Int) == (m' : Int)) = false := by rw [Bool.eq_false_iff]; intro e; simp at e; omega
    clear h
    go_enter_defers Tryz.func69, Tryz.ntmps69
    go_wp2_with fail
    refine ⟨_, results_tmp rfl _ _ _, rfl, HP2.out, Chg.of_below LB.out⟩
  · have hk' : (K == K') = false := by rw [Bool.eq_false_iff]; intro e; simp at e; exact hk e
    clear h hk
    go_enter_defers Tryz.func69, Tryz.ntmps69
    go_wp2_with fail
    refine ⟨_, results_tmp rfl _ _ _, rfl, HP2.out, Chg.of_below LB.out⟩

set_option maxHeartbeats 1600000 in
theorem tc_sameMt (pb lb rb : Nat) (el er : List (Name × Nat)) (mt : Nat) (Z Z' : Int) (X X' : ByteArray) (A A' : Option Addr) (m c c' : Nat) (w : World) (hp : PairI pb lb rb el er mt w) :
    Calls Tryz.prog 69 #[.pointer (some ⟨pb, 0, none⟩), .agg #[.int .i64 2, .string X, .int .i64 Z, .slice A m c], .agg #[.int .i64 2, .string X', .int .i64 Z', .slice A' m c']] w (SPst pb lb rb el er (Z == Z', mt) w) := by
  obtain ⟨-, -, -, lb2⟩ := laid2 w (.cells #[.int .i64 2, .string X, .int .i64 Z, .slice A m c] 25) (.cells #[.int .i64 2, .string X', .int .i64 Z', .slice A' m c'] 25)
  have HP2 := hidE (hp.below lb2)
  have LB := hidE lb2
  clear hp lb2
  obtain ⟨q, hq⟩ : ∃ q, (Z == Z') = q := ⟨_, rfl⟩
  rw [hq]
  cases q
  all_goals
    go_enter_defers Tryz.func69, Tryz.ntmps69
    go_wp2_with fail
    refine ⟨_, results_tmp rfl _ _ _, rfl, HP2.out, Chg.of_below LB.out⟩

set_option maxHeartbeats 3200000 in
theorem tc_sameVar (pb lb rb : Nat) (el er : List (Name × Nat)) (mt : Nat) (Z Z' : Int) (X X' : ByteArray) (A A' : Option Addr) (m c c' : Nat) (w : World) (hp : PairI pb lb rb el er mt w) (hX : X.size ≤ 24) (hX' : X'.size ≤ 24) :
    Calls Tryz.prog 69 #[.pointer (some ⟨pb, 0, none⟩), .agg #[.int .i64 1, .string X, .int .i64 Z, .slice A m c], .agg #[.int .i64 1, .string X', .int .i64 Z', .slice A' m c']] w
      (SPst pb lb rb el er (decide ((look X.data.toList el).getD 0 = (look X'.data.toList er).getD 0 ∧ (0 < (look X.data.toList el).getD 0 ∨ X.data.toList = X'.data.toList)), mt) w) := by
  obtain ⟨l0, l1, ls, lb2⟩ := laid2 w (.cells #[.int .i64 1, .string X, .int .i64 Z, .slice A m c] 25) (.cells #[.int .i64 1, .string X', .int .i64 Z', .slice A' m c'] 25)
  obtain ⟨W2, hW2⟩ : ∃ W, (w.alloc (.cells #[.int .i64 1, .string X, .int .i64 Z, .slice A m c] 25)).alloc (.cells #[.int .i64 1, .string X', .int .i64 Z', .slice A' m c'] 25) = W := ⟨_, rfl⟩
  rw [hW2] at l0 l1 ls lb2
  have hp2 := hp.below lb2
  obtain ⟨p0, p1, p2, p3, -⟩ := blk_facts4 (show Blk W2 w.heap.size 25 _ from l0)
  obtain ⟨q0, q1, q2, q3, -⟩ := blk_facts4 (show Blk W2 (w.heap.size + 1) 25 _ from l1)
  have z0 : W2.cell? ⟨pb, 0, none⟩ = some (.map (some lb)) := hp2.pr.cell 0
  have z1 : W2.cell? ⟨pb, 1, none⟩ = some (.map (some rb)) := hp2.pr.cell 1
  have hl0 := (hp2.le.keep (w' := W2.drew) rfl).get X (by unfold maxLen; omega)
  have hr0 := (hp2.ri.keep (w' := W2.drew) rfl).get X' (by unfold maxLen; omega)
  rw [valO_int] at hl0 hr0
  obtain ⟨l, hl⟩ : ∃ l, (look X.data.toList el).getD 0 = l := ⟨_, rfl⟩
  obtain ⟨r, hr⟩ : ∃ r, (look X'.data.toList er).getD 0 = r := ⟨_, rfl⟩
  rw [hl] at hl0 ⊢
  rw [hr] at hr0 ⊢
  replace hl0 : (Instr.lookup 106 (.map (some lb)) (.string X) false).run Tryz.prog W2.drew = .ok (.int .i64 (l : Nat)) W2.drew := hl0
  replace hr0 : (Instr.lookup 106 (.map (some rb)) (.string X') false).run Tryz.prog W2.drew = .ok (.int .i64 (r : Nat)) W2.drew := hr0
  have hxx : (X.toList == X'.toList) = decide (X.data.toList = X'.data.toList) := by rw [Lib.toList_data, Lib.toList_data]; exact Bool.eq_iff_iff.2 (by simp)
  obtain ⟨q, hq⟩ : ∃ q, decide (X.data.toList = X'.data.toList) = q := ⟨_, rfl⟩
  rw [hq] at hxx
  have hres : decide (l = r ∧ (0 < l ∨ X.data.toList = X'.data.toList)) = (decide (l = r) && (decide (0 < l) || q)) := by rw [Bool.decide_and, Bool.decide_or, hq]
  rw [hres]
  have HP2 := hidE (hp2.keep (w' := W2.drew) (fun _ _ => rfl))
  have LB : Hid (Below w.heap.size w W2.drew) := hidE lb2.drew
  have SOF : Hid (W2.drew.cell? ⟨w.heap.size, 1, none⟩ = some (.string X) ∧ W2.drew.cell? ⟨w.heap.size + 1, 1, none⟩ = some (.string X') ∧ W2.drew.cell? ⟨pb, 0, none⟩ = some (.map (some lb)) ∧ W2.drew.cell? ⟨pb, 1, none⟩ = some (.map (some rb))) := hidE ⟨p1, q1, z0, z1⟩
  clear hp hp2 l0 l1 ls lb2 hl hr hq hres hX hX'
  by_cases hlr : l = r
  · subst hlr
    have e1 : decide (l = l) = true := by simp
    rw [e1, Bool.true_and]
    by_cases h0 : l = 0
    · subst h0
      rw [show (decide (0 < 0) || q) = q by simp]
      clear e1
      cases q
      all_goals
        go_enter_defers Tryz.func69, Tryz.ntmps69
        go_wp2_with fail
        go_region_held3 (fun W => W.cell? ⟨w.heap.size, 1, none⟩ = some (.string X) ∧ W.cell? ⟨w.heap.size + 1, 1, none⟩ = some (.string X') ∧ W.cell? ⟨pb, 0, none⟩ = some (.map (some lb)) ∧ W.cell? ⟨pb, 1, none⟩ = some (.map (some rb))) (first | (with_reducible exact SOF.out)) ((fail))
        all_goals
          go_wp2_with fail
          refine ⟨_, results_tmp rfl _ _ _, rfl, HP2.out, Chg.of_below LB.out⟩
    · have hpos : (0 : Int) < (l : Int) := by omega
      rw [show (decide (0 < l) || q) = true by rw [decide_eq_true (by omega)]; rfl]
      clear e1 h0
      go_enter_defers Tryz.func69, Tryz.ntmps69
      go_wp2_with fail
      go_region_held3 (fun W => W.cell? ⟨w.heap.size, 1, none⟩ = some (.string X) ∧ W.cell? ⟨w.heap.size + 1, 1, none⟩ = some (.string X') ∧ W.cell? ⟨pb, 0, none⟩ = some (.map (some lb)) ∧ W.cell? ⟨pb, 1, none⟩ = some (.map (some rb))) (first | (with_reducible exact SOF.out)) ((fail))
      all_goals
        go_wp2_with fail
        refine ⟨_, results_tmp rfl _ _ _, rfl, HP2.out, Chg.of_below LB.out⟩
  · have e1 : decide (l = r) = false := by simp [hlr]
    rw [e1, Bool.false_and]
    have hne : ((l : Int) == (r : Int)) = false := kF l r hlr
    clear e1 hlr
    go_enter_defers Tryz.func69, Tryz.ntmps69
    go_wp2_with fail
    go_region_held3 (fun W => W.cell? ⟨w.heap.size, 1, none⟩ = some (.string X) ∧ W.cell? ⟨w.heap.size + 1, 1, none⟩ = some (.string X') ∧ W.cell? ⟨pb, 0, none⟩ = some (.map (some lb)) ∧ W.cell? ⟨pb, 1, none⟩ = some (.map (some rb))) (first | (with_reducible exact SOF.out)) ((fail))
    all_goals
      go_wp2_with fail
      refine ⟨_, results_tmp rfl _ _ _, rfl, HP2.out, Chg.of_below LB.out⟩

end Go.Proofs.YthgkpmgcikopnaaGreatDoor

/-
  Package types: two types side by side: constructors and functions.
-/
namespace Go.Proofs.YthgkpmgcikopnaaGreatDoor
open Go.RowKit Lx Tx Go.Maps Go.WideMaps Go.Shelf
set_option maxRecDepth 100000

/-- what is asked of two types that are held against each other -/
structure TwoOK (pb lb rb : Nat) (t u : Ty) (el er : List (Name × Nat)) (m : Nat) (S Su : Nat → Prop) (w : World) : Prop where
  pi : PairI pb lb rb el er m w
  s : ∀ g, S g → g < w.heap.size ∧ ¬ PM pb lb rb g
  su : ∀ g, Su g → g < w.heap.size ∧ ¬ PM pb lb rb g
  nt : Nm t
  nu : Nm u
  l1 : el.length + t.size ≤ 500000000
  l2 : er.length + t.size ≤ 500000000
  l3 : m + t.size ≤ 1000000000

set_option maxHeartbeats 1600000 in
theorem tc_sameCon (n pb lb rb : Nat) (HC : SameOK n pb lb rb) (cn dn : Name) (l r : List Ty) (el er : List (Name × Nat)) (mt : Nat) (S Su : Nat → Prop) (v uv : Value) (w : World) (hn : (Ty.con cn l).size ≤ n + 1) (h6 : n ≤ 100000000) (H : TwoOK pb lb rb (.con cn l) (.con dn r) el er mt S Su w) (hv : RdV S w (.con cn l) v) (hu : RdV Su w (.con dn r) uv) (hlr : l.length = r.length) :
    Calls Tryz.prog 69 #[.pointer (some ⟨pb, 0, none⟩), v, uv] w (SPst pb lb rb el er (smT el er (.con cn l) (.con dn r) mt) w) := by
  obtain ⟨K, X, Z, A, m, c, rfl, hK, hX, -, hm, ha⟩ := hv.parts
  obtain ⟨K', X', Z', A', m', c', rfl, hK', hX', -, hm', ha'⟩ := hu.parts
  obtain rfl : m = m' := by have h1 : l.length = m := hm; have h2 : r.length = m' := hm'; omega
  obtain rfl : K = 3 := hK
  obtain rfl : K' = 3 := hK'
  obtain ⟨l0, l1, ls, lb2⟩ := laid2 w (.cells #[.int .i64 3, .string X, .int .i64 Z, .slice A m c] 25) (.cells #[.int .i64 3, .string X', .int .i64 Z', .slice A' m c'] 25)
  obtain ⟨W2, hW2⟩ : ∃ W, (w.alloc (.cells #[.int .i64 3, .string X, .int .i64 Z, .slice A m c] 25)).alloc (.cells #[.int .i64 3, .string X', .int .i64 Z', .slice A' m c'] 25) = W := ⟨_, rfl⟩
  rw [hW2] at l0 l1 ls lb2
  obtain ⟨p0, p1, p2, p3, -⟩ := blk_facts4 (show Blk W2 w.heap.size 25 _ from l0)
  obtain ⟨q0, q1, q2, q3, -⟩ := blk_facts4 (show Blk W2 (w.heap.size + 1) 25 _ from l1)
  have hsk : (Ty.con cn l).size = sizeL l + 1 := by rw [size_kids]; rfl
  have hcall := tc_sameArgs n pb lb rb HC (.con cn l) (.con dn r) el er mt S Su _ _ W2 hn h6 (H.pi.below lb2) (hv.keep (fun _ h => h) (fun g hg => lb2.block g (H.s g hg).1)) (hu.keep (fun _ h => h) (fun g hg => lb2.block g (H.su g hg).1))
    (fun g hg => ⟨by have := (H.s g hg).1; omega, (H.s g hg).2⟩) (fun g hg => ⟨by have := (H.su g hg).1; omega, (H.su g hg).2⟩) H.nt H.nu (by have := H.l1; show el.length + sizeL l ≤ _; omega) (by have := H.l2; show er.length + sizeL l ≤ _; omega) (by have := H.l3; show mt + sizeL l ≤ _; omega) hlr
  have HP2 := hidE (H.pi.below lb2)
  have LB := hidE lb2
  rw [sm_con el er cn dn l r mt hlr]
  have hxx : (X.toList == X'.toList) = decide (cn = dn) := by
    rw [Lib.toList_data, Lib.toList_data, hX, hX']
    exact Bool.eq_iff_iff.2 (by simp [nmB])
  have HCALL : Hid (Calls Tryz.prog 96 #[.pointer (some ⟨pb, 0, none⟩), .agg #[.int .i64 3, .string X, .int .i64 Z, .slice A m c], .agg #[.int .i64 3, .string X', .int .i64 Z', .slice A' m c']] W2 (SPst pb lb rb el er (smL el er l r mt) W2)) := hidE hcall
  clear hv hu hX hX' hm hm' ha ha' l0 l1 ls lb2 hcall hsk H hn hlr
  by_cases hc : cn = dn
  · rw [if_pos hc]
    rw [decide_eq_true hc] at hxx
    obtain ⟨⟨q, z⟩, hqz⟩ : ∃ p, smL el er l r mt = p := ⟨_, rfl⟩
    rw [hqz] at HCALL ⊢
    clear hc hqz
    go_enter_defers Tryz.func69, Tryz.ntmps69
    go_wp2_with fail
    refine HCALL.out.mono ?_
    rintro e w5 ⟨rfl, hp5, c5⟩
    have HP5 := hidE hp5
    have C5 := hidE c5
    clear hp5 c5 HCALL
    cases q
    all_goals
      go_wp2_with fail
      refine ⟨_, results_tmp rfl _ _ _, rfl, HP5.out, (Chg.of_below LB.out).trans' C5.out (fun _ _ h => h)⟩
  · rw [if_neg hc]
    rw [decide_eq_false hc] at hxx
    clear hc HCALL
    go_enter_defers Tryz.func69, Tryz.ntmps69
    go_wp2_with fail
    refine ⟨_, results_tmp rfl _ _ _, rfl, HP2.out, Chg.of_below LB.out⟩

set_option maxHeartbeats 1600000 in
theorem tc_sameFn (n pb lb rb : Nat) (HC : SameOK n pb lb rb) (a b a' b' : Ty) (el er : List (Name × Nat)) (mt : Nat) (S Su : Nat → Prop) (v uv : Value) (w : World) (hn : (Ty.fn a b).size ≤ n + 1) (h6 : n ≤ 100000000) (H : TwoOK pb lb rb (.fn a b) (.fn a' b') el er mt S Su w) (hv : RdV S w (.fn a b) v) (hu : RdV Su w (.fn a' b') uv) :
    Calls Tryz.prog 69 #[.pointer (some ⟨pb, 0, none⟩), v, uv] w (SPst pb lb rb el er (smT el er (.fn a b) (.fn a' b') mt) w) := by
  obtain ⟨K, X, Z, A, m, c, rfl, hK, -, -, hm, ha⟩ := hv.parts
  obtain ⟨K', X', Z', A', m', c', rfl, hK', -, -, hm', ha'⟩ := hu.parts
  obtain rfl : m = 2 := hm.symm
  obtain rfl : m' = 2 := hm'.symm
  obtain rfl : K = 4 := hK
  obtain rfl : K' = 4 := hK'
  obtain ⟨l0, l1, ls, lb2⟩ := laid2 w (.cells #[.int .i64 4, .string X, .int .i64 Z, .slice A 2 c] 25) (.cells #[.int .i64 4, .string X', .int .i64 Z', .slice A' 2 c'] 25)
  obtain ⟨W2, hW2⟩ : ∃ W, (w.alloc (.cells #[.int .i64 4, .string X, .int .i64 Z, .slice A 2 c] 25)).alloc (.cells #[.int .i64 4, .string X', .int .i64 Z', .slice A' 2 c'] 25) = W := ⟨_, rfl⟩
  rw [hW2] at l0 l1 ls lb2
  obtain ⟨p0, p1, p2, p3, -⟩ := blk_facts4 (show Blk W2 w.heap.size 25 _ from l0)
  obtain ⟨q0, q1, q2, q3, -⟩ := blk_facts4 (show Blk W2 (w.heap.size + 1) 25 _ from l1)
  have hsk : (Ty.fn a b).size = sizeL [a, b] + 1 := by rw [size_kids]; rfl
  have hcall := tc_sameArgs n pb lb rb HC (.fn a b) (.fn a' b') el er mt S Su _ _ W2 hn h6 (H.pi.below lb2) (hv.keep (fun _ h => h) (fun g hg => lb2.block g (H.s g hg).1)) (hu.keep (fun _ h => h) (fun g hg => lb2.block g (H.su g hg).1))
    (fun g hg => ⟨by have := (H.s g hg).1; omega, (H.s g hg).2⟩) (fun g hg => ⟨by have := (H.su g hg).1; omega, (H.su g hg).2⟩) H.nt H.nu (by have := H.l1; show el.length + sizeL [a, b] ≤ _; omega) (by have := H.l2; show er.length + sizeL [a, b] ≤ _; omega) (by have := H.l3; show mt + sizeL [a, b] ≤ _; omega) rfl
  have LB := hidE lb2
  rw [sm_fn]
  have HCALL : Hid (Calls Tryz.prog 96 #[.pointer (some ⟨pb, 0, none⟩), .agg #[.int .i64 4, .string X, .int .i64 Z, .slice A 2 c], .agg #[.int .i64 4, .string X', .int .i64 Z', .slice A' 2 c']] W2 (SPst pb lb rb el er (smL el er [a, b] [a', b'] mt) W2)) := hidE hcall
  clear hv hu hm hm' ha ha' l0 l1 ls lb2 hcall hsk H hn
  obtain ⟨⟨q, z⟩, hqz⟩ : ∃ p, smL el er [a, b] [a', b'] mt = p := ⟨_, rfl⟩
  rw [hqz] at HCALL ⊢
  clear hqz
  go_enter_defers Tryz.func69, Tryz.ntmps69
  go_wp2_with fail
  refine HCALL.out.mono ?_
  rintro e w5 ⟨rfl, hp5, c5⟩
  have HP5 := hidE hp5
  have C5 := hidE c5
  clear hp5 c5 HCALL
  go_wp2_with fail
  refine ⟨_, results_tmp rfl _ _ _, rfl, HP5.out, (Chg.of_below LB.out).trans' C5.out (fun _ _ h => h)⟩

end Go.Proofs.YthgkpmgcikopnaaGreatDoor

/-
  Package types: two types side by side: for alls.
-/
namespace Go.Proofs.YthgkpmgcikopnaaGreatDoor
open Go.RowKit Lx Tx Go.Maps Go.WideMaps Go.Shelf
set_option maxRecDepth 100000

set_option maxHeartbeats 3200000 in
theorem tc_sameAll (n pb lb rb : Nat) (HC : SameOK n pb lb rb) (x y : Name) (t1 u1 : Ty) (el er : List (Name × Nat)) (mt : Nat) (S Su : Nat → Prop) (v uv : Value) (w : World) (hn : (Ty.all x t1).size ≤ n + 1) (h6 : n ≤ 100000000) (H : TwoOK pb lb rb (.all x t1) (.all y u1) el er mt S Su w) (hv : RdV S w (.all x t1) v) (hu : RdV Su w (.all y u1) uv) :
    Calls Tryz.prog 69 #[.pointer (some ⟨pb, 0, none⟩), v, uv] w (SPst pb lb rb el er (smT el er (.all x t1) (.all y u1) mt) w) := by
  obtain ⟨K, X, Z, A, m, c, rfl, hK, hX, -, hm, ha⟩ := hv.parts
  obtain ⟨K', X', Z', A', m', c', rfl, hK', hX', -, hm', ha'⟩ := hu.parts
  obtain rfl : m = 1 := hm.symm
  obtain rfl : m' = 1 := hm'.symm
  obtain rfl : K = 5 := hK
  obtain rfl : K' = 5 := hK'
  have hX24 : X.size ≤ 24 := by have := nm_len H.nt; rw [← hX] at this; exact this
  have hX24' : X'.size ≤ 24 := by have := nm_len H.nu; rw [← hX'] at this; exact this
  have hxl : X.data.toList = x := by rw [hX]; rfl
  have hyl : X'.data.toList = y := by rw [hX']; rfl
  obtain ⟨l0, l1, ls, lb2⟩ := laid2 w (.cells #[.int .i64 5, .string X, .int .i64 Z, .slice A 1 c] 25) (.cells #[.int .i64 5, .string X', .int .i64 Z', .slice A' 1 c'] 25)
  obtain ⟨W2, hW2⟩ : ∃ W, (w.alloc (.cells #[.int .i64 5, .string X, .int .i64 Z, .slice A 1 c] 25)).alloc (.cells #[.int .i64 5, .string X', .int .i64 Z', .slice A' 1 c'] 25) = W := ⟨_, rfl⟩
  rw [hW2] at l0 l1 ls lb2
  have hp2 := H.pi.below lb2
  have hsk : (Ty.all x t1).size = sizeL [t1] + 1 := by rw [size_kids]; rfl
  obtain ⟨p0, p1, p2, p3, -⟩ := blk_facts4 (show Blk W2 w.heap.size 25 _ from l0)
  obtain ⟨q0, q1, q2, q3, -⟩ := blk_facts4 (show Blk W2 (w.heap.size + 1) 25 _ from l1)
  have z0 : W2.cell? ⟨pb, 2, none⟩ = some (.int .i64 (mt : Nat)) := hp2.pr.cell 2
  have z1 : W2.frozen? ⟨pb, 2, none⟩ = false := hp2.pr.frozen 2
  have hmt : mt ≤ 1000000000 := by have := H.l3; omega
  obtain ⟨W3, hW3⟩ : ∃ W, W2.setCell ⟨pb, 2, none⟩ (.int .i64 ((mt : Int) + 1)) = W := ⟨_, rfl⟩
  have hpr3 : Blk W3 pb 108 #[.map (some lb), .map (some rb), .int .i64 ((mt : Int) + 1)] := by rw [← hW3]; exact heap_setCell_same W2 pb 2 _ _ _ hp2.pr
  have hf3 : ∀ q, q ≠ pb → W3.heap[q]? = W2.heap[q]? := fun q hq => by rw [← hW3]; exact Below.heap_setCell W2 ⟨pb, 2, none⟩ _ q hq
  have hs3 : W3.heap.size = w.heap.size + 2 := by rw [← hW3]; simp; exact ls
  have hltp : ∀ g, PM pb lb rb g → g < w.heap.size := H.pi.lt
  have hpbl : pb < w.heap.size := hltp _ (.inl rfl)
  have hne := H.pi.ne
  have hle3 : MapE mkInt W3.drew lb el := (hp2.le.keep (hf3 _ hne.1.symm)).keep rfl
  have hri3 : MapE mkInt W3.drew rb er := (hp2.ri.keep (hf3 _ hne.2.1.symm)).keep rfl
  have hc3 : Chg (PM pb lb rb) w W3.drew := by rw [← hW3]; exact (((Chg.of_below lb2).setCell (p := ⟨pb, 2, none⟩) (.inr (.inl rfl)) _)).drew
  have PB0 : Hid (Blk W3.drew pb 108 #[.map (some lb), .map (some rb), .int .i64 ((mt : Int) + 1)]) := hidE hpr3
  have NB0 : Hid (Blk W3.drew w.heap.size 25 #[.int .i64 5, .string X, .int .i64 Z, .slice A 1 c]) := hidE ((hf3 _ (by omega)).trans l0)
  have UB0 : Hid (Blk W3.drew (w.heap.size + 1) 25 #[.int .i64 5, .string X', .int .i64 Z', .slice A' 1 c']) := hidE ((hf3 _ (by omega)).trans l1)
  have SOF1 : Hid (∀ W : World, Blk W pb 108 #[.map (some lb), .map (some rb), .int .i64 ((mt : Int) + 1)] → Blk W w.heap.size 25 #[.int .i64 5, .string X, .int .i64 Z, .slice A 1 c] →
    W.cell? ⟨pb, 0, none⟩ = some (.map (some lb)) ∧ W.cell? ⟨w.heap.size, 1, none⟩ = some (.string X) ∧ W.cell? ⟨pb, 2, none⟩ = some (.int .i64 ((mt : Int) + 1))) := hidE fun W h1 h2 => ⟨h1.cell 0, h2.cell 1, h1.cell 2⟩
  have SOF2 : Hid (∀ W : World, Blk W pb 108 #[.map (some lb), .map (some rb), .int .i64 ((mt : Int) + 1)] → Blk W (w.heap.size + 1) 25 #[.int .i64 5, .string X', .int .i64 Z', .slice A' 1 c'] →
    W.cell? ⟨pb, 1, none⟩ = some (.map (some rb)) ∧ W.cell? ⟨w.heap.size + 1, 1, none⟩ = some (.string X') ∧ W.cell? ⟨pb, 2, none⟩ = some (.int .i64 ((mt : Int) + 1))) := hidE fun W h1 h2 => ⟨h1.cell 1, h2.cell 1, h1.cell 2⟩
  have hel : el.length < 1000000000 := by have := H.l1; omega
  have her : er.length < 1000000000 := by have := H.l2; omega
  have hXm : X.size ≤ maxLen := by unfold maxLen; omega
  have hXm' : X'.size ≤ maxLen := by unfold maxLen; omega
  have HXm := hidE hXm
  have HXm' := hidE hXm'
  have HEL := hidE hel
  have HER := hidE her
  have HLE := hidE hle3
  have HRI := hidE hri3
  have HC3 := hidE hc3
  have HV := hidE hv
  have HU := hidE hu
  have HH := hidE H
  have HNE := hidE hne
  have HXL := hidE hxl
  have HYL := hidE hyl
  have HSK := hidE hsk
  have HN := hidE hn
  have HLT := hidE hltp
  have hcanl := hle3.canon
  have hcanr := hri3.canon
  have HCL := hidE hcanl
  have HCR := hidE hcanr
  have hsD : W3.drew.heap.size = w.heap.size + 2 := hs3
  rw [sm_all]
  obtain ⟨⟨q, z⟩, hqz⟩ : ∃ p, smL ((x, mt + 1) :: el) ((y, mt + 1) :: er) [t1] [u1] (mt + 1) = p := ⟨_, rfl⟩
  rw [hqz]
  have HQZ := hidE hqz
  clear hv hu hX hX' ha ha' l0 l1 ls lb2 hp2 hpr3 hf3 hle3 hri3 hc3 hxl hyl hqz hcanl hcanr H hsk hn hltp hm hm' hX24 hX24' hel her hXm hXm' hne
  go_enter_defers Tryz.func69, Tryz.ntmps69
  go_wp2_with fail
  go_region_held3 (fun W => W.cell? ⟨pb, 0, none⟩ = some (.map (some lb)) ∧ W.cell? ⟨w.heap.size, 1, none⟩ = some (.string X) ∧ W.cell? ⟨pb, 2, none⟩ = some (.int .i64 ((mt : Int) + 1))) (first | (with_reducible exact SOF1.out _ PB0.out NB0.out) | (with_reducible exact SOF1.out _ PB1.out NB1.out))
    ((first | ((with_reducible refine (tc_cover lb el X (mt + 1) ((mt : Int) + 1) rfl W3.drew HLE.out HXm.out HEL.out).mono ?_); rintro e w4 ⟨rfl, cov4, mp4, c4⟩; unfold uncovI; have PB1 := hidE (PB0.out.chg c4 (by have := HNE.out; unfold only; omega)); have NB1 := hidE (NB0.out.chg c4 (by have := HLT.out lb (.inr (.inl rfl)); unfold only; omega)); have COV4 := hidE cov4; have MP4 := hidE mp4; have C4 := hidE c4; clear cov4 mp4 c4)))
  have hs4 := C4.out.size
  rw [hsD] at hs4
  have hrbl : rb < w.heap.size := HLT.out rb (.inr (.inr rfl))
  have hlbl : lb < w.heap.size := HLT.out lb (.inr (.inl rfl))
  have PB1' : Hid (Blk w4.drew pb 108 #[.map (some lb), .map (some rb), .int .i64 ((mt : Int) + 1)]) := hidE PB1.out
  have UB1' : Hid (Blk w4.drew (w.heap.size + 1) 25 #[.int .i64 5, .string X', .int .i64 Z', .slice A' 1 c']) := hidE (show Blk w4 _ _ _ from UB0.out.chg C4.out (by unfold only; omega))
  have RI4 : Hid (MapE mkInt w4.drew rb er) := hidE ((HRI.out.keep (C4.out.block _ (by rw [hsD]; omega) (by have := HNE.out; unfold only; omega))).keep rfl)
  go_wp2_with fail
  go_region_held3 (fun W => W.cell? ⟨pb, 1, none⟩ = some (.map (some rb)) ∧ W.cell? ⟨w.heap.size + 1, 1, none⟩ = some (.string X') ∧ W.cell? ⟨pb, 2, none⟩ = some (.int .i64 ((mt : Int) + 1))) (first | (with_reducible exact SOF2.out _ PB1'.out UB1'.out) | (with_reducible exact SOF2.out _ PB2.out UB2.out))
    ((first | ((with_reducible refine (tc_cover rb er X' (mt + 1) ((mt : Int) + 1) rfl w4.drew RI4.out HXm'.out HER.out).mono ?_); rintro e w5 ⟨rfl, cov5, mp5, c5⟩; unfold uncovI; have PB2 := hidE (PB1'.out.chg c5 (by have := HNE.out; unfold only; omega)); have UB2 := hidE (UB1'.out.chg c5 (by unfold only; omega)); have COV5 := hidE cov5; have MP5 := hidE mp5; have C5 := hidE c5; clear cov5 mp5 c5)))
  have hsD4 : w4.drew.heap.size = w4.heap.size := rfl
  have hs5 := C5.out.size
  rw [hsD4] at hs5
  -- behind both: the pair
  have hbl5 : ∀ g, g < w4.heap.size → g ≠ rb → w5.heap[g]? = w4.heap[g]? := fun g h1 h2 => C5.out.block g h1 h2
  have hp5 : PairI pb lb rb ((x, mt + 1) :: el) ((y, mt + 1) :: er) (mt + 1) w5 :=
    ⟨PB2.out, by have := MP4.out.keep (hbl5 lb (by omega) HNE.out.2.2); rw [HXL.out] at this; exact this, by have := MP5.out; rw [HYL.out] at this; exact this, HNE.out⟩
  have hc5 : Chg (PM pb lb rb) w w5 := (HC3.out.trans' C4.out (fun g _ h => .inr (.inl h))).trans' (b := w4) ⟨C5.out.os, C5.out.tape, C5.out.output, C5.out.size, C5.out.block⟩ (fun g _ h => .inr (.inr h))
  have hl5 : Blk w5 w.heap.size 25 #[.int .i64 5, .string X, .int .i64 Z, .slice A 1 c] := (hbl5 _ (by omega) (by omega)).trans NB1.out
  obtain ⟨a0, a1, a2, a3, -⟩ := blk_facts4 hl5
  obtain ⟨b0, b1, b2, b3, -⟩ := blk_facts4 UB2.out
  have hcall := tc_sameArgs n pb lb rb HC (.all x t1) (.all y u1) ((x, mt + 1) :: el) ((y, mt + 1) :: er) (mt + 1) S Su _ _ w5 HN.out h6 hp5 (HV.out.keep (fun _ h => h) (fun g hg => hc5.block g (HH.out.s g hg).1 (HH.out.s g hg).2)) (HU.out.keep (fun _ h => h) (fun g hg => hc5.block g (HH.out.su g hg).1 (HH.out.su g hg).2))
    (fun g hg => ⟨by have := (HH.out.s g hg).1; omega, (HH.out.s g hg).2⟩) (fun g hg => ⟨by have := (HH.out.su g hg).1; omega, (HH.out.su g hg).2⟩) HH.out.nt HH.out.nu (by have := HH.out.l1; have := HSK.out; show el.length + 1 + sizeL [t1] ≤ _; omega) (by have := HH.out.l2; have := HSK.out; show er.length + 1 + sizeL [t1] ≤ _; omega) (by have := HH.out.l3; have := HSK.out; show mt + 1 + sizeL [t1] ≤ _; omega) rfl
  change Calls _ _ _ _ (SPst pb lb rb _ _ (smL ((x, mt + 1) :: el) ((y, mt + 1) :: er) [t1] [u1] (mt + 1)) w5) at hcall
  rw [HQZ.out] at hcall
  have HCALL := hidE hcall
  have HC5 := hidE hc5
  clear hcall hc5 hp5 hl5
  go_wp2_with fail
  refine HCALL.out.mono ?_
  rintro e w6 ⟨rfl, hp6, c6⟩
  have hs6 := c6.size
  have COV5' := hidE (COV5.out.keep (w' := w6) (fun k h1 h2 => c6.block k (by have := COV5.out.2.2.2.lt; rw [hsD4] at *; omega) (fun h => by have := HLT.out k h; rw [hsD4] at *; omega)))
  have COV4' := hidE (COV4.out.keep (w' := w6) (fun k h1 h2 => (c6.block k (by have := COV4.out.2.2.2.lt; rw [hsD] at *; omega) (fun h => by have := HLT.out k h; rw [hsD] at *; omega)).trans (hbl5 k (by have := COV4.out.2.2.2.lt; rw [hsD] at *; omega) (by rw [hsD] at *; omega))))
  have hri6 := hp6.ri
  have hle6 := hp6.le
  rw [← HYL.out] at hri6
  rw [← HXL.out] at hle6
  have HP6 := hidE hp6
  have C6 := hidE c6
  have HRI6 := hidE hri6
  have HLE6 := hidE hle6
  clear hp6 c6 hri6 hle6 HCALL
  go_wp2_with fail
  refine leaves_cons (f := 131) (args := #[.pointer (some ⟨w4.heap.size + 3, 0, none⟩), .pointer (some ⟨w4.heap.size + 2, 0, none⟩), .pointer (some ⟨w4.heap.size, 0, none⟩), .pointer (some ⟨w4.heap.size + 1, 0, none⟩)]) (by simp) (by simp [go_sem]) ?_
  refine (tc_uncover w4.heap.size rb er X' (mt + 1) .returning w6 COV5'.out HRI6.out HCR.out HXm'.out HER.out).mono ?_
  rintro e u' w7 ⟨rfl, rfl, m7, b7⟩
  have hs7 := b7.size
  refine leaves_cons (f := 131) (args := #[.pointer (some ⟨W3.heap.size + 3, 0, none⟩), .pointer (some ⟨W3.heap.size + 2, 0, none⟩), .pointer (some ⟨W3.heap.size, 0, none⟩), .pointer (some ⟨W3.heap.size + 1, 0, none⟩)]) (by simp [settle]) (by simp [go_sem]) ?_
  refine (tc_uncover W3.heap.size lb el X (mt + 1) .returning w7 (COV4'.out.keep (fun k h1 h2 => b7.block k (by have := COV4'.out.2.2.2.lt; rw [hsD] at *; omega) (by rw [hsD] at *; unfold only; omega))) (HLE6.out.keep (b7.block _ HLE6.out.lt HNE.out.2.2)) HCL.out HXm.out HEL.out).mono ?_
  rintro e u' w8 ⟨rfl, rfl, m8, b8⟩
  have hs8 := b8.size
  have hne := HNE.out
  refine ⟨_, results_tmp rfl _ _ _, rfl, ⟨?_, m8, m7.keep (b8.block _ m7.lt (by unfold only; omega)), hne⟩, ?_⟩
  · exact (HP6.out.pr.chg b7 (by unfold only; omega)).chg b8 (by unfold only; omega)
  · exact ((HC5.out.trans C6.out).trans' b7 (fun g _ h => .inr (.inr h))).trans' b8 (fun g _ h => .inr (.inl h))

end Go.Proofs.YthgkpmgcikopnaaGreatDoor

/-
  Package types: Same.
-/
namespace Go.Proofs.YthgkpmgcikopnaaGreatDoor
open Go.RowKit Lx Tx Go.Maps Go.WideMaps Go.Shelf
set_option maxRecDepth 100000

theorem same_ok (pb lb rb : Nat) (n : Nat) : SameOK n pb lb rb := by
  induction n with
  | zero => intro t u el er m S Su v uv w hn; rw [size_kids] at hn; omega
  | succ n ih =>
    intro t u el er m S Su v uv w hn h6 hp hv hu hS hSu hnt hnu h1 h2 h3
    have h6' : n ≤ 100000000 := by omega
    by_cases hk : kd t ≠ kd u ∨ (kids t).length ≠ (kids u).length
    · obtain ⟨K, X, Z, A, m1, c, rfl, hK, -, -, hm, -⟩ := hv.parts
      obtain ⟨K', X', Z', A', m1', c', rfl, hK', -, -, hm', -⟩ := hu.parts
      rw [sm_kinds el er t u m hk]
      exact tc_sameNot pb lb rb el er m K K' Z Z' X X' A A' m1 m1' c c' w hp (by
        rcases hk with hk | hk
        · left; rw [hK, hK']; exact fun e => hk (by omega)
        · right; omega)
    · have H : TwoOK pb lb rb t u el er m S Su w := ⟨hp, hS, hSu, hnt, hnu, h1, h2, h3⟩
      have hk1 : kd t = kd u := Decidable.byContradiction fun e => hk (.inl e)
      have hk2 : (kids t).length = (kids u).length := Decidable.byContradiction fun e => hk (.inr e)
      cases t with
      | var x =>
        cases u with
        | var y =>
          have hX := nm_len hnt
          have hX' := nm_len hnu
          obtain ⟨K, X, Z, A, m1, c, rfl, hK, hXX, -, hm, -⟩ := hv.parts
          obtain ⟨K', X', Z', A', m1', c', rfl, hK', hXX', -, hm', -⟩ := hu.parts
          obtain rfl : K = 1 := hK
          obtain rfl : K' = 1 := hK'
          obtain rfl : m1 = m1' := by have e1 : 0 = m1 := hm; have e2 : 0 = m1' := hm'; omega
          rw [sm_var]
          have := tc_sameVar pb lb rb el er m Z Z' X X' A A' m1 c c' w hp (by rw [hXX]; exact hX) (by rw [hXX']; exact hX')
          rw [show X.data.toList = x by rw [hXX]; rfl, show X'.data.toList = y by rw [hXX']; rfl] at this
          exact this
        | _ => simp [kd] at hk1
      | mt k =>
        cases u with
        | mt j =>
          obtain ⟨K, X, Z, A, m1, c, rfl, hK, -, hZ, hm, -⟩ := hv.parts
          obtain ⟨K', X', Z', A', m1', c', rfl, hK', -, hZ', hm', -⟩ := hu.parts
          obtain rfl : K = 2 := hK
          obtain rfl : K' = 2 := hK'
          obtain rfl : m1 = m1' := by have e1 : 0 = m1 := hm; have e2 : 0 = m1' := hm'; omega
          rw [sm_mt]
          have := tc_sameMt pb lb rb el er m Z Z' X X' A A' m1 c c' w hp
          rw [show (Z == Z') = decide (k = j) by rw [hZ, hZ']; exact Bool.eq_iff_iff.2 (by simp [nn]; omega)] at this
          exact this
        | _ => simp [kd] at hk1
      | con cn l =>
        cases u with
        | con dn r => exact tc_sameCon n pb lb rb ih cn dn l r el er m S Su v uv w hn h6' H hv hu hk2
        | _ => simp [kd] at hk1
      | fn a b =>
        cases u with
        | fn a' b' => exact tc_sameFn n pb lb rb ih a b a' b' el er m S Su v uv w hn h6' H hv hu
        | _ => simp [kd] at hk1
      | all x t1 =>
        cases u with
        | all y u1 => exact tc_sameAll n pb lb rb ih x y t1 u1 el er m S Su v uv w hn h6' H hv hu
        | _ => simp [kd] at hk1

set_option maxHeartbeats 1600000 in
theorem tc_Same (t u : Ty) (S Su : Nat → Prop) (v uv : Value) (w : World) (hv : RdV S w t v) (hu : RdV Su w u uv) (hS : ∀ g, S g → g < w.heap.size) (hSu : ∀ g, Su g → g < w.heap.size) (hnt : Nm t) (hnu : Nm u) (hsz : t.size ≤ 100000000) :
    Calls Tryz.prog 34 #[v, uv] w fun e w' => e = .returned (.bool (smT [] [] t u 0).1) ∧ Below w.heap.size w w' := by
  obtain ⟨K, X, Z, A, m, c, rfl, -, -, -, -, -⟩ := hv.parts
  obtain ⟨K', X', Z', A', m', c', rfl, -, -, -, -, -⟩ := hu.parts
  have hmm : ∀ w, (Instr.makeMap 106 none).run Tryz.prog w = .ok (.map (some w.heap.size)) (w.alloc (.map #[] 0)) := fun _ => rfl
  obtain ⟨l0, l1, l2, l3, ls, lb⟩ := laid4 w (.cells #[.int .i64 K, .string X, .int .i64 Z, .slice A m c] 25) (.cells #[.int .i64 K', .string X', .int .i64 Z', .slice A' m' c'] 25) (.map #[] 0) (.map #[] 0)
  obtain ⟨W4, hW4⟩ : ∃ W, (((w.alloc (.cells #[.int .i64 K, .string X, .int .i64 Z, .slice A m c] 25)).alloc (.cells #[.int .i64 K', .string X', .int .i64 Z', .slice A' m' c'] 25)).alloc (.map #[] 0)).alloc (.map #[] 0) = W := ⟨_, rfl⟩
  rw [hW4] at l0 l1 l2 l3 ls lb
  have hal : Below W4.heap.size W4 (W4.alloc (.cells #[.map (some (w.heap.size + 1 + 1)), .map (some (w.heap.size + 1 + 1 + 1)), .int .i64 0] 108)) := (Below.refl _ W4).alloc (Nat.le_refl _) _
  have hs5 := size_alloc W4 (.cells #[.map (some (w.heap.size + 1 + 1)), .map (some (w.heap.size + 1 + 1 + 1)), .int .i64 0] 108)
  have hpi : PairI (w.heap.size + 4) (w.heap.size + 1 + 1) (w.heap.size + 1 + 1 + 1) [] [] 0 (W4.alloc (.cells #[.map (some (w.heap.size + 1 + 1)), .map (some (w.heap.size + 1 + 1 + 1)), .int .i64 0] 108)) :=
    ⟨by have := heap_alloc_new W4 (.cells #[.map (some (w.heap.size + 1 + 1)), .map (some (w.heap.size + 1 + 1 + 1)), .int .i64 0] 108); rw [ls] at this; exact this,
      MapE.laid mkInt ((hal.block _ (by rw [ls]; omega)).trans l2), MapE.laid mkInt ((hal.block _ (by rw [ls]; omega)).trans l3), by omega⟩
  have hb5 : Below w.heap.size w (W4.alloc (.cells #[.map (some (w.heap.size + 1 + 1)), .map (some (w.heap.size + 1 + 1 + 1)), .int .i64 0] 108)) := lb.trans (hal.mono (by omega))
  have hcall := same_ok (w.heap.size + 4) (w.heap.size + 1 + 1) (w.heap.size + 1 + 1 + 1) t.size t u [] [] 0 S Su _ _ _ (Nat.le_refl _) hsz hpi (hv.keep (fun _ h => h) (fun g hg => hb5.block g (hS g hg))) (hu.keep (fun _ h => h) (fun g hg => hb5.block g (hSu g hg)))
    (fun g hg => by have := hS g hg; exact ⟨by omega, fun h => by rcases h with h | h | h <;> omega⟩) (fun g hg => by have := hSu g hg; exact ⟨by omega, fun h => by rcases h with h | h | h <;> omega⟩) hnt hnu (by simp; omega) (by simp; omega) (by omega)
  have HCALL := hidE hcall
  have HB5 := hidE hb5
  have LS := hidE ls
  obtain ⟨p0, p1, p2, p3, -⟩ := blk_facts4 (show Blk W4 w.heap.size 25 _ from l0)
  obtain ⟨q0, q1, q2, q3, -⟩ := blk_facts4 (show Blk W4 (w.heap.size + 1) 25 _ from l1)
  obtain ⟨⟨q, z⟩, hqz⟩ : ∃ p, smT [] [] t u 0 = p := ⟨_, rfl⟩
  rw [hqz] at HCALL ⊢
  clear hv hu hS hSu hnt hnu l0 l1 l2 l3 lb hal hs5 hpi hb5 hcall hqz
  go_enter Tryz.func34, Tryz.ntmps34
  go_wp2_with fail
  first
    | refine HCALL.out.mono ?_
    | (rw [LS.out]; refine HCALL.out.mono ?_)
  rintro e w6 ⟨rfl, -, c6⟩
  have HB6 := hidE (HB5.out.trans (c6.toBelow (B := w.heap.size) (by have := LS.out; simp; omega) (fun k hk h => by rcases h with h | h | h <;> omega)))
  clear c6 HCALL
  go_wp2_with fail
  go_ret
  exact ⟨rfl, HB6.out⟩

/-- names side by side: numbers that stand for them -/
structure Twin (el er : List (Name × Nat)) (xs ys : List Name) (ns : List Nat) (m : Nat) : Prop where
  hl : ∀ x, (look x el).getD 0 = ((idx x xs).map fun i => ns.getD i 0).getD 0
  hr : ∀ x, (look x er).getD 0 = ((idx x ys).map fun i => ns.getD i 0).getD 0
  lx : xs.length = ns.length
  ly : ys.length = ns.length
  nd : ns.Nodup
  po : ∀ n ∈ ns, 0 < n ∧ n ≤ m
theorem Twin.more {el er : List (Name × Nat)} {xs ys : List Name} {ns : List Nat} {m m' : Nat} (h : Twin el er xs ys ns m) (hm : m ≤ m') : Twin el er xs ys ns m' :=
  { h with po := fun n hn => ⟨(h.po n hn).1, Nat.le_trans (h.po n hn).2 hm⟩ }
theorem twin_look (el : List (Name × Nat)) (xs : List Name) (ns : List Nat) (h : ∀ x, (look x el).getD 0 = ((idx x xs).map fun i => ns.getD i 0).getD 0) (x : Name) (k : Nat) (z : Name) :
    (look z ((x, k) :: el)).getD 0 = ((idx z (x :: xs)).map fun i => (k :: ns).getD i 0).getD 0 := by
  rw [look, idx]
  by_cases hz : x = z
  · rw [if_pos hz, if_pos hz.symm]; rfl
  · rw [if_neg hz, if_neg (fun e => hz e.symm), h z]
    cases idx z xs <;> rfl
theorem Twin.cons {el er : List (Name × Nat)} {xs ys : List Name} {ns : List Nat} {m : Nat} (h : Twin el er xs ys ns m) (x y : Name) : Twin ((x, m + 1) :: el) ((y, m + 1) :: er) (x :: xs) (y :: ys) ((m + 1) :: ns) (m + 1) where
  hl := twin_look el xs ns h.hl x (m + 1)
  hr := twin_look er ys ns h.hr y (m + 1)
  lx := by simp [h.lx]
  ly := by simp [h.ly]
  nd := by
    rw [List.nodup_cons]
    exact ⟨fun hm => by have := (h.po _ hm).2; omega, h.nd⟩
  po n hn := by
    rcases List.mem_cons.1 hn with rfl | hn
    · omega
    · have := h.po n hn; omega
theorem nodup_getD (l : List Nat) (h : l.Nodup) (i j : Nat) (hi : i < l.length) (hj : j < l.length) (e : l.getD i 0 = l.getD j 0) : i = j := by
  induction l generalizing i j with
  | nil => simp at hi
  | cons a r ih =>
    rw [List.nodup_cons] at h
    have key : ∀ q, q < r.length → r.getD q 0 ∈ r := fun q hq => by rw [List.getD_eq_getElem?_getD, List.getElem?_eq_getElem hq]; exact List.getElem_mem hq
    cases i with
    | zero =>
      cases j with
      | zero => rfl
      | succ j => exact (h.1 (by rw [show a = r.getD j 0 from e]; exact key j (by simpa using hj))).elim
    | succ i =>
      cases j with
      | zero => exact (h.1 (by rw [show a = r.getD i 0 from e.symm]; exact key i (by simpa using hi))).elim
      | succ j => rw [ih h.2 i j (by simpa using hi) (by simpa using hj) e]
theorem dbL_len (xs : List Name) : (l : List Ty) → (dbL xs l).length = l.length
  | [] => by rw [dbL]; rfl
  | t :: r => by rw [dbL, List.length_cons, List.length_cons, dbL_len xs r]

mutual
theorem sm_db : (t : Ty) → ∀ (u : Ty) (el er : List (Name × Nat)) (xs ys : List Name) (ns : List Nat) (m : Nat), Twin el er xs ys ns m → ((smT el er t u m).1 = true ↔ db xs t = db ys u)
  | .var x, u, el, er, xs, ys, ns, m, h => by
    cases u with
    | var y =>
      rw [sm_var, db, db, h.hl, h.hr]
      show decide _ = true ↔ _
      rw [decide_eq_true_iff]
      cases hi : idx x xs with
      | none =>
        cases hj : idx y ys with
        | none => simp
        | some j =>
          have hlt := idx_lt y ys j hj
          rw [h.ly] at hlt
          have hp := (h.po (ns.getD j 0) (by rw [List.getD_eq_getElem?_getD, List.getElem?_eq_getElem hlt]; exact List.getElem_mem hlt)).1
          show (0 = ns.getD j 0 ∧ (0 < 0 ∨ x = y)) ↔ Dt.fv x = Dt.bv j
          constructor
          · rintro ⟨e, _⟩; omega
          · intro e; cases e
      | some i =>
        have hlti := idx_lt x xs i hi
        rw [h.lx] at hlti
        have hpi := (h.po (ns.getD i 0) (by rw [List.getD_eq_getElem?_getD, List.getElem?_eq_getElem hlti]; exact List.getElem_mem hlti)).1
        cases hj : idx y ys with
        | none =>
          show (ns.getD i 0 = 0 ∧ (0 < ns.getD i 0 ∨ x = y)) ↔ Dt.bv i = Dt.fv y
          constructor
          · rintro ⟨e, _⟩; omega
          · intro e; cases e
        | some j =>
          have hlt := idx_lt y ys j hj
          rw [h.ly] at hlt
          show (ns.getD i 0 = ns.getD j 0 ∧ (0 < ns.getD i 0 ∨ x = y)) ↔ Dt.bv i = Dt.bv j
          constructor
          · rintro ⟨e, _⟩
            rw [nodup_getD ns h.nd i j hlti hlt e]
          · intro e
            injection e with e
            subst e
            exact ⟨rfl, .inl hpi⟩
    | mt k => simp only [smT, db]; cases idx x xs <;> simp
    | con c l => simp only [smT, db]; cases idx x xs <;> simp
    | fn a b => simp only [smT, db]; cases idx x xs <;> simp
    | all y s => simp only [smT, db]; cases idx x xs <;> simp
  | .mt n, u, el, er, xs, ys, ns, m, h => by
    cases u with
    | mt k => rw [sm_mt, db, db]; simp
    | var y => simp only [smT, db]; cases idx y ys <;> simp
    | con c l => simp [smT, db]
    | fn a b => simp [smT, db]
    | all y s => simp [smT, db]
  | .con c l, u, el, er, xs, ys, ns, m, h => by
    cases u with
    | con d r =>
      rw [smT, db, db]
      by_cases hc : l.length = r.length ∧ c = d
      · rw [if_pos hc, smL_db l r el er xs ys ns m h hc.1, hc.2]
        constructor
        · intro e; rw [e]
        · intro e; injection e
      · rw [if_neg hc]
        constructor
        · intro e; cases e
        · intro e
          injection e with e1 e2
          refine (hc ⟨?_, e1⟩).elim
          have := congrArg List.length e2
          rwa [dbL_len, dbL_len] at this
    | var y => simp only [smT, db]; cases idx y ys <;> simp
    | mt k => simp [smT, db]
    | fn a b => simp [smT, db]
    | all y s => simp [smT, db]
  | .fn a b, u, el, er, xs, ys, ns, m, h => by
    cases u with
    | fn a' b' =>
      rw [smT, db, db]
      have h1 := sm_db a a' el er xs ys ns m h
      have hm := (sm_num a el er a' m).1
      have h2 := sm_db b b' el er xs ys ns (smT el er a a' m).2 (h.more hm)
      by_cases hq : (smT el er a a' m).1 = true
      · rw [if_pos hq, h2, h1.1 hq]
        constructor
        · intro e; rw [e]
        · intro e; injection e
      · rw [if_neg hq]
        constructor
        · intro e; cases e
        · intro e; injection e with e1 _; exact (hq (h1.2 e1)).elim
    | var y => simp only [smT, db]; cases idx y ys <;> simp
    | mt k => simp [smT, db]
    | con c l => simp [smT, db]
    | all y s => simp [smT, db]
  | .all x t, u, el, er, xs, ys, ns, m, h => by
    cases u with
    | all y s =>
      rw [smT, db, db, sm_db t s _ _ (x :: xs) (y :: ys) ((m + 1) :: ns) (m + 1) (h.cons x y)]
      constructor
      · intro e; rw [e]
      · intro e; injection e
    | var y => simp only [smT, db]; cases idx y ys <;> simp
    | mt k => simp [smT, db]
    | con c l => simp [smT, db]
    | fn a b => simp [smT, db]
theorem smL_db : (l : List Ty) → ∀ (r : List Ty) (el er : List (Name × Nat)) (xs ys : List Name) (ns : List Nat) (m : Nat), Twin el er xs ys ns m → l.length = r.length → ((smL el er l r m).1 = true ↔ dbL xs l = dbL ys r)
  | [], r, el, er, xs, ys, ns, m, h, hl => by
    cases r with
    | nil => simp [smL, dbL]
    | cons b r => simp at hl
  | a :: l, r, el, er, xs, ys, ns, m, h, hl => by
    cases r with
    | nil => simp at hl
    | cons b r =>
      rw [smL, dbL, dbL]
      have h1 := sm_db a b el er xs ys ns m h
      have hm := (sm_num a el er b m).1
      have h2 := smL_db l r el er xs ys ns (smT el er a b m).2 (h.more hm) (by simpa using hl)
      by_cases hq : (smT el er a b m).1 = true
      · rw [if_pos hq, h2, h1.1 hq]
        constructor
        · intro e; rw [e]
        · intro e; injection e
      · rw [if_neg hq]
        constructor
        · intro e; cases e
        · intro e; injection e with e1 _; exact (hq (h1.2 e1)).elim
end
theorem same_iff (t u : Ty) : (smT [] [] t u 0).1 = true ↔ db [] t = db [] u :=
  sm_db t u [] [] [] [] [] 0 ⟨fun _ => rfl, fun _ => rfl, rfl, rfl, List.nodup_nil, fun _ h => (List.not_mem_nil h).elim⟩

end Go.Proofs.YthgkpmgcikopnaaGreatDoor
