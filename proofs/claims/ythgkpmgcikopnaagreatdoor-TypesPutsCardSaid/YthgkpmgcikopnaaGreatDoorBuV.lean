/-
  Package types and what it stands on: contracts of the code's functions, part 22.
-/
import Derived.Test.YthgkpmgcikopnaaGreatDoorBuU
import Derived.Test.YthgkpmgcikopnaaGreatDoorBuP
import Derived.Test.YthgkpmgcikopnaaGreatDoorBuK
import Derived.Test.YthgkpmgcikopnaaGreatDoorBuT
import Derived.Test.YthgkpmgcikopnaaGreatDoorBuR
import Derived.Test.YthgkpmgcikopnaaGreatDoorBuQ
import Derived.Test.YthgkpmgcikopnaaGreatDoorBuH
import Derived.Lib.SliceRun
import Derived.Deep.RegionHeld3
/-
  Package types: a list of types is cloned.
-/
namespace Go.Proofs.YthgkpmgcikopnaaGreatDoor
open Go.RowKit Lx Tx Go.Maps Go.WideMaps Go.Shelf
set_option maxRecDepth 100000

theorem owns_empty4 {w : World} {base b : Nat} {e : TypeId} (h : w.heap[b]? = some (.cells #[] e (0, 0))) (hb : base ≤ b) : w.ownsRow base e 4 (.slice (some ⟨b, 0, none⟩) 0 0) 0 [] :=
  ⟨rfl, .inr ⟨b, 0, #[], rfl, hb, h, Nat.le_refl _, by unfold maxLen; omega, rfl, rfl⟩⟩

set_option maxHeartbeats 800000 in
theorem tc_clone (A : Option Addr) (m cp : Nat) (vs : List Value) (w : World) (h0 : A = none → m = 0) (hl : vs.length = m * 4) (hc : ∀ ad, A = some ad → ∀ w' : World, Below w.heap.size w w' → ∀ j u, vs[j]? = some u → w'.cell? (ad.add j) = some u) (h1 : ∀ u ∈ vs, u.oneCell' = true) (hm : m ≤ 1000000) :
    Calls Tryz.prog 121 #[.slice A m cp] w fun e w' => ∃ A' c', e = .returned (.slice A' m c') ∧ w'.ownsRow w.heap.size 25 4 (.slice A' m c') m vs ∧ Below w.heap.size w w' := by
  obtain ⟨i0, hi0, hz0, hz1, hz2⟩ := info_parts ty_info
  have HC := hidE hc
  have HL := hidE hl
  have H1 := hidE h1
  clear hc hl h1
  cases A with
  | none =>
    obtain rfl := h0 rfl
    have heq : (binOp .eql 23 (.slice none 0 cp) (.slice none 0 0)).run Tryz.prog w = .ok (.bool true) w := Lib.run_eql_slice_nil w _ 25 none 0 cp 0 0 Tryz.underlying23
    have hvs : Hid (vs = []) := hidE (by have := HL.out; simpa using this)
    go_enter Tryz.func121, Tryz.ntmps121
    go_wp2_with fail
    go_ret
    exact ⟨none, 0, rfl, ⟨by rw [hvs.out]; rfl, .inl ⟨rfl, rfl⟩⟩, Below.refl _ w⟩
  | some ad =>
    clear h0
    have heq : (binOp .eql 23 (.slice (some ad) m cp) (.slice none 0 0)).run Tryz.prog w = .ok (.bool false) w := Lib.run_eql_slice_nil w _ 25 (some ad) m cp 0 0 Tryz.underlying23
    go_enter Tryz.func121, Tryz.ntmps121
    go_wp2_with (at_builtin; refine wpList_append_own_at _ rfl (.tmp 5) (.tmp 6) 23 rfl w.heap.size 25 i0 _ 4 56 Tryz.underlying23 hi0 hz0 hz1 hz2 rfl (by decide) _ 0 [] rfl (owns_empty4 (alloc_at _ _ _ rfl) (Nat.le_refl _)) ad m cp vs rfl HL.out (HC.out ad rfl _ ((Below.refl _ w).alloc (Nat.le_refl _) _)) H1.out (by unfold maxLen; omega) (by omega) (by simp) ?_; intro v2 w5 hown3 hgrow _ hat3; obtain ⟨A2, c2, rfl⟩ := own_shape hown3; have HO3 := hidE hown3; have HG3 := hidE hgrow; have HT3 := hidE hat3; clear hown3 hgrow hat3)
    go_ret
    rw [Nat.zero_add, List.nil_append] at HO3
    exact ⟨A2, c2, rfl, HO3.out, ((Below.refl _ w).alloc (Nat.le_refl _) _).grown HG3.out (by simp) (fun k hk => by injection hk with hk; rw [← hk]; exact Nat.le_refl _)⟩

end Go.Proofs.YthgkpmgcikopnaaGreatDoor

/-
  Package types: changing a type; its leaves.
-/
namespace Go.Proofs.YthgkpmgcikopnaaGreatDoor
open Go.RowKit Lx Tx Go.Maps Go.WideMaps Go.Shelf
set_option maxRecDepth 100000

mutual
/-- how many for alls -/
def Tx.Ty.fas : Ty → Nat
  | .var _ => 0
  | .mt _ => 0
  | .con _ l => fasL l
  | .fn a b => a.fas + b.fas
  | .all _ t => t.fas + 1
def fasL : List Ty → Nat
  | [] => 0
  | t :: r => t.fas + fasL r
end
theorem fas_kids (t : Ty) : t.fas = fasL (kids t) + (if kd t = 5 then 1 else 0) := by
  cases t <;> rw [Ty.fas, kids] <;> simp [fasL, kd]
theorem fasL_snoc (l : List Ty) (t : Ty) : fasL (l ++ [t]) = fasL l + t.fas := by
  induction l with
  | nil => simp [fasL]
  | cons a r ih => rw [List.cons_append, fasL, fasL, ih]; omega
theorem fasL_next (l : List Ty) (i : Nat) (u : Ty) (hu : ∃ hi : i < l.length, l[i] = u) : fasL (l.take (i + 1)) = fasL (l.take i) + u.fas := by
  obtain ⟨hi, rfl⟩ := hu
  rw [take_snoc l i hi, fasL_snoc]
theorem fasL_take_le (l : List Ty) (i : Nat) : fasL (l.take i) ≤ fasL l := by
  induction l generalizing i with
  | nil => simp
  | cons t r ih =>
    cases i with
    | zero => simp [fasL]
    | succ i => rw [List.take_succ_cons, fasL, fasL]; have := ih i; omega

section
variable {σ : Type}
mutual
/-- other names and other leaves -/
def chg (bind : Name → σ → Name × σ) (leaf : Ty → Ty) (env : List (Name × Name)) : Ty → σ → Ty × σ
  | .var x, s => (((look x env).map Ty.var).getD (leaf (.var x)), s)
  | .mt n, s => (leaf (.mt n), s)
  | .con c l, s => (.con c (chgL bind leaf env l s).1, (chgL bind leaf env l s).2)
  | .fn a b, s => (.fn (chg bind leaf env a s).1 (chg bind leaf env b (chg bind leaf env a s).2).1, (chg bind leaf env b (chg bind leaf env a s).2).2)
  | .all x t, s => (.all (bind x s).1 (chg bind leaf ((x, (bind x s).1) :: env) t (bind x s).2).1, (chg bind leaf ((x, (bind x s).1) :: env) t (bind x s).2).2)
def chgL (bind : Name → σ → Name × σ) (leaf : Ty → Ty) (env : List (Name × Name)) : List Ty → σ → List Ty × σ
  | [], s => ([], s)
  | t :: r, s => ((chg bind leaf env t s).1 :: (chgL bind leaf env r (chg bind leaf env t s).2).1, (chgL bind leaf env r (chg bind leaf env t s).2).2)
end
theorem chgL_snoc (bind : Name → σ → Name × σ) (leaf : Ty → Ty) (env : List (Name × Name)) (l : List Ty) (t : Ty) (s : σ) :
    chgL bind leaf env (l ++ [t]) s = ((chgL bind leaf env l s).1 ++ [(chg bind leaf env t (chgL bind leaf env l s).2).1], (chg bind leaf env t (chgL bind leaf env l s).2).2) := by
  induction l generalizing s with
  | nil => rw [List.nil_append, chgL, chgL, chgL]; rfl
  | cons a r ih => rw [List.cons_append, chgL, chgL, ih]; rfl
theorem chgL_len (bind : Name → σ → Name × σ) (leaf : Ty → Ty) (env : List (Name × Name)) (l : List Ty) (s : σ) : (chgL bind leaf env l s).1.length = l.length := by
  induction l generalizing s with
  | nil => rw [chgL]
  | cons a r ih => rw [chgL, List.length_cons, List.length_cons, ih]

/-- what holds of the blocks K that closures read or write -/
structure InvC (I : Nat → σ → World → Prop) (K : Nat → Prop) : Prop where
  mono : ∀ c c' s w, I c s w → c ≤ c' → I c' s w
  lt : ∀ c s w, I c s w → ∀ g, K g → g < w.heap.size
  keep : ∀ c s w w', I c s w → w.heap.size ≤ w'.heap.size → (∀ g, K g → w'.heap[g]? = w.heap[g]?) → I c s w'

/-- the closure that tells what name a for all binds -/
def BindOK (kb : Nat) (cb : Array Value) (I : Nat → σ → World → Prop) (M : Nat → Prop) (bind : Name → σ → Name × σ) : Prop :=
  ∀ (c : Nat) (s : σ) (X : ByteArray) (w : World), I c s w → X.size ≤ 24 → c < 10000000 →
    Calls Tryz.prog kb (#[.string X] ++ cb) w fun e w' => e = .returned (.string ⟨(bind X.data.toList s).1.toArray⟩) ∧ I (c + 1) (bind X.data.toList s).2 w' ∧ Chg M w w'
/-- the closure that tells what a leaf gives way to -/
def LeafOK (kl : Nat) (cl : Array Value) (I : Nat → σ → World → Prop) (M Su : Nat → Prop) (leaf : Ty → Ty) : Prop :=
  ∀ (c : Nat) (s : σ) (t : Ty) (S : Nat → Prop) (v : Value) (w : World), I c s w → RdV S w t v → (∀ g, S g → g < w.heap.size) → kd t = 1 ∨ kd t = 2 → Nm t →
    Calls Tryz.prog kl (#[v] ++ cl) w fun e w' => ∃ k x z a m p, e = .returned (.agg #[.int .i64 k, .string x, .int .i64 z, .slice a m p]) ∧ RdV Su w' (leaf t) (.agg #[.int .i64 k, .string x, .int .i64 z, .slice a m p]) ∧ I c s w' ∧ Chg M w w'

/-- what changing leaves -/
def CPst (mb : Nat) (I : Nat → σ → World → Prop) (M Su : Nat → Prop) (env : List (Name × Name)) (c : Nat) (p : Ty × σ) (w : World) (e : Ending) (w' : World) : Prop :=
  ∃ k x z a m q, e = .returned (.agg #[.int .i64 k, .string x, .int .i64 z, .slice a m q]) ∧ RdV (fun g => Su g ∨ (w.heap.size ≤ g ∧ g < w'.heap.size)) w' p.1 (.agg #[.int .i64 k, .string x, .int .i64 z, .slice a m q]) ∧ I c p.2 w' ∧ MapE mkTy w' mb env ∧ Chg (fun g => M g ∨ g = mb) w w'
/-- the contract of changing types of up to this size -/
def ChgOK (n kb kl : Nat) (cb cl : Array Value) (mb : Nat) (I : Nat → σ → World → Prop) (M Su : Nat → Prop) (bind : Name → σ → Name × σ) (leaf : Ty → Ty) : Prop :=
  ∀ (c : Nat) (s : σ) (env : List (Name × Name)) (t : Ty) (S : Nat → Prop) (v : Value) (w : World), t.size ≤ n → n ≤ 1000000 →
    I c s w → MapE mkTy w mb env → RdV S w t v → (∀ g, S g → g < w.heap.size ∧ ¬ M g ∧ g ≠ mb) → Nm t → c + t.fas ≤ 10000000 → env.length + t.size ≤ 100000000 →
    Calls Tryz.prog 85 #[v, .map (some mb), fnV kb cb, fnV kl cl] w (CPst mb I M Su env (c + t.fas) (chg bind leaf env t s) w)
end

set_option maxHeartbeats 1600000 in
theorem tc_chgVar {σ : Type} (kb kl : Nat) (cb cl : Array Value) (mb : Nat) (I : Nat → σ → World → Prop) (K M Su : Nat → Prop) (bind : Name → σ → Name × σ) (leaf : Ty → Ty) (hI : InvC I K) (hMK : ∀ g, M g → K g) (hSu : ∀ g, Su g → K g) (hmb : ¬ K mb)
    (el : ∀ args w, (callFunc kl args).run Tryz.prog w = .ok (.enter kl args) w) (HL : LeafOK kl cl I M Su leaf)
    (c : Nat) (s : σ) (env : List (Name × Name)) (x : Name) (S : Nat → Prop) (v : Value) (w : World) (hi : I c s w) (hm : MapE mkTy w mb env) (hv : RdV S w (.var x) v) (hS : ∀ g, S g → g < w.heap.size) (hnm : Nm (.var x)) :
    Calls Tryz.prog 85 #[v, .map (some mb), fnV kb cb, fnV kl cl] w (CPst mb I M Su env c (chg bind leaf env (.var x) s) w) := by
  obtain ⟨k, X, Z, A, m, cp, rfl, hk, hX, hZ, hkm, -⟩ := hv.parts
  have hml := hm.lt
  have hX24 := nm_len hnm
  rw [← hX] at hX24
  have hxl : X.data.toList = x := by rw [hX]; rfl
  obtain ⟨l0, l1, ls, lb⟩ := laid2 w (.cells #[.int .i64 k, .string X, .int .i64 Z, .slice A m cp] 25) (.cells #[.int .i64 0, .string ⟨#[]⟩, .int .i64 0, .slice none 0 0] 25)
  have hlt := hI.lt c s w hi
  have hi2 := hI.keep c s w _ hi lb.size (fun g hg => lb.block g (hlt g hg))
  have hm2 := hm.keep (lb.block _ hml)
  have hlk := hm2.getOk X (by unfold maxLen; omega)
  rw [valO_ty, hxl] at hlk
  have hv2 := hv.keep (fun _ h => h) (fun g hg => lb.block g (hS g hg))
  rw [chg]
  obtain rfl : k = 1 := hk
  have HI := hidE hi
  have HM := hidE hm
  have HV := hidE hv
  have HLT := hidE hlt
  have HS := hidE hS
  have HNM := hidE hnm
  clear hi hm hv hX hi2 hm2 hv2 hlt hS ls lb l0 l1 hnm hZ hkm hxl hX24 hml
  unfold fnV
  cases hl : look x env with
  | some y =>
    rw [hl] at hlk
    replace hlk : (Instr.lookup 95 (.map (some mb)) (.string X) true).run Tryz.prog ((w.alloc (.cells #[.int .i64 1, .string X, .int .i64 Z, .slice A m cp] 25)).alloc (.cells #[.int .i64 0, .string ⟨#[]⟩, .int .i64 0, .slice none 0 0] 25)) = .ok (.tuple #[.agg #[.int .i64 1, .string ⟨y.toArray⟩, .int .i64 0, .slice none 0 0], .bool true]) _ := hlk
    clear hl
    go_enter_defers Tryz.func85, Tryz.ntmps85
    go_wp2_with fail
    obtain ⟨-, k1, -, ks, kb⟩ := laid3 w (.cells #[.int .i64 1, .string X, .int .i64 Z, .slice A m cp] 25) (.cells #[.int .i64 1, .string ⟨y.toArray⟩, .int .i64 0, .slice none 0 0] 25) (.cells #[.int .i64 1, .string ⟨y.toArray⟩, .int .i64 0, .slice none 0 0] 25)
    refine ⟨_, results_cell_row rfl _ _ (w.heap.size + 1) 25 _ (0, 0) _ rfl k1 Tryz.underlying25 rfl (by kernel_rfl), 1, ⟨y.toArray⟩, 0, none, 0, 0, rfl, ⟨none, 0, rfl, trivial⟩, ?_, ?_, Chg.of_below kb⟩
    · exact hI.mono _ _ _ _ (hI.keep _ _ _ _ HI.out kb.size (fun g hg => kb.block g (HLT.out g hg))) (by omega)
    · exact HM.out.keep (kb.block _ HM.out.lt)
  | none =>
    rw [hl] at hlk
    replace hlk : (Instr.lookup 95 (.map (some mb)) (.string X) true).run Tryz.prog ((w.alloc (.cells #[.int .i64 1, .string X, .int .i64 Z, .slice A m cp] 25)).alloc (.cells #[.int .i64 0, .string ⟨#[]⟩, .int .i64 0, .slice none 0 0] 25)) = .ok (.tuple #[.agg #[.int .i64 0, .string ⟨#[]⟩, .int .i64 0, .slice none 0 0], .bool false]) _ := hlk
    clear hl
    obtain ⟨-, k1, -, ks, kb⟩ := laid3 w (.cells #[.int .i64 1, .string X, .int .i64 Z, .slice A m cp] 25) (.cells #[.int .i64 0, .string ⟨#[]⟩, .int .i64 0, .slice none 0 0] 25) (.cells #[.int .i64 0, .string ⟨#[]⟩, .int .i64 0, .slice none 0 0] 25)
    have HCALL := hidE (HL c s (.var x) S _ _ (hI.keep _ _ _ _ HI.out kb.size (fun g hg => kb.block g (HLT.out g hg))) (HV.out.keep (fun _ h => h) (fun g hg => kb.block g (HS.out g hg))) (fun g hg => by have := HS.out g hg; omega) (.inl rfl) HNM.out)
    have K1 := hidE k1
    have KS := hidE ks
    have KB := hidE kb
    clear k1 ks kb
    go_enter_defers Tryz.func85, Tryz.ntmps85
    go_wp2_with fail
    refine HCALL.out.mono ?_
    rintro e w1 ⟨k', x', z', a', m', p', rfl, hr, hi1, c1⟩
    have HR := hidE hr
    have HI1 := hidE hi1
    have C1 := hidE c1
    have hb1 := Blk.chg K1.out c1 (fun h => by have := HLT.out _ (hMK _ h); omega)
    obtain ⟨q0, q1, q2, q3, t0, t1, t2, t3, hlx⟩ := blk_facts4 hb1
    have HB1 := hidE hb1
    clear hr hi1 c1 hb1 HCALL
    go_wp2_with fail
    have hb := blk_set4 (.int .i64 k') (.string x') (.int .i64 z') (.slice a' m' p') HB1.out
    have hsu : ∀ g, Su g → g ≠ w.heap.size + 1 := fun g hg => by have := HLT.out _ (hSu g hg); omega
    have hf : ∀ g, g ≠ w.heap.size + 1 → ((((w1.setCell ⟨w.heap.size + 1, 0, none⟩ (.int .i64 k')).setCell ⟨w.heap.size + 1, 1, none⟩ (.string x')).setCell ⟨w.heap.size + 1, 2, none⟩ (.int .i64 z')).setCell ⟨w.heap.size + 1, 3, none⟩ (.slice a' m' p')).heap[g]? = w1.heap[g]? := fun g hg => heap_set4 _ _ _ _ _ _ _ hg
    have hsz : ((((w1.setCell ⟨w.heap.size + 1, 0, none⟩ (.int .i64 k')).setCell ⟨w.heap.size + 1, 1, none⟩ (.string x')).setCell ⟨w.heap.size + 1, 2, none⟩ (.int .i64 z')).setCell ⟨w.heap.size + 1, 3, none⟩ (.slice a' m' p')).heap.size = w1.heap.size := by simp
    refine ⟨_, results_cell_row rfl _ _ (w.heap.size + 1) 25 _ (0, 0) _ rfl hb Tryz.underlying25 rfl (by kernel_rfl), k', x', z', a', m', p', rfl, ?_, ?_, ?_, ?_⟩
    · exact HR.out.keep (fun _ h => .inl h) (fun g hg => hf g (hsu g hg))
    · exact hI.mono _ _ _ _ (hI.keep _ _ _ _ HI1.out (Nat.le_of_eq hsz.symm) (fun g hg => hf g (by have := HLT.out g hg; omega))) (by omega)
    · have hne : ¬ M mb := fun h => hmb (hMK _ h)
      exact HM.out.keep ((hf mb (by have := HM.out.lt; omega)).trans ((C1.out.block mb (by have := HM.out.lt; have := KS.out; omega) hne).trans (KB.out.block mb HM.out.lt)))
    · exact ((Chg.of_below KB.out).trans' C1.out (fun g _ h => .inl h)).set4 _ _ _ _ (by omega)

end Go.Proofs.YthgkpmgcikopnaaGreatDoor

/-
  Package types: changing a type; its unknowns.
-/
namespace Go.Proofs.YthgkpmgcikopnaaGreatDoor
open Go.RowKit Lx Tx Go.Maps Go.WideMaps Go.Shelf
set_option maxRecDepth 100000

set_option maxHeartbeats 1600000 in
theorem tc_chgMt {σ : Type} (kb kl : Nat) (cb cl : Array Value) (mb : Nat) (I : Nat → σ → World → Prop) (K M Su : Nat → Prop) (bind : Name → σ → Name × σ) (leaf : Ty → Ty) (hI : InvC I K) (hMK : ∀ g, M g → K g) (hSu : ∀ g, Su g → K g) (hmb : ¬ K mb)
    (el : ∀ args w, (callFunc kl args).run Tryz.prog w = .ok (.enter kl args) w) (HL : LeafOK kl cl I M Su leaf)
    (c : Nat) (s : σ) (env : List (Name × Name)) (x : Nat) (S : Nat → Prop) (v : Value) (w : World) (hi : I c s w) (hm : MapE mkTy w mb env) (hv : RdV S w (.mt x) v) (hS : ∀ g, S g → g < w.heap.size) (hnm : Nm (.mt x)) :
    Calls Tryz.prog 85 #[v, .map (some mb), fnV kb cb, fnV kl cl] w (CPst mb I M Su env c (chg bind leaf env (.mt x) s) w) := by
  obtain ⟨k, X, Z, A, m, cp, rfl, hk, -, -, -, -⟩ := hv.parts
  have hlt := hI.lt c s w hi
  rw [chg]
  obtain rfl : k = 2 := hk
  have HI := hidE hi
  have HM := hidE hm
  have HV := hidE hv
  have HLT := hidE hlt
  have HS := hidE hS
  have HNM := hidE hnm
  clear hi hm hv hlt hS hnm
  unfold fnV
  obtain ⟨-, k1, ks, bl⟩ := laid2 w (.cells #[.int .i64 2, .string X, .int .i64 Z, .slice A m cp] 25) (.cells #[.int .i64 0, .string ⟨#[]⟩, .int .i64 0, .slice none 0 0] 25)
  have HCALL := hidE (HL c s (.mt x) S _ _ (hI.keep _ _ _ _ HI.out bl.size (fun g hg => bl.block g (HLT.out g hg))) (HV.out.keep (fun _ h => h) (fun g hg => bl.block g (HS.out g hg))) (fun g hg => by have := HS.out g hg; omega) (.inr rfl) HNM.out)
  have K1 := hidE k1
  have KS := hidE ks
  have KB := hidE bl
  clear k1 ks bl
  go_enter_defers Tryz.func85, Tryz.ntmps85
  go_wp2_with fail
  refine HCALL.out.mono ?_
  rintro e w1 ⟨k', x', z', a', m', p', rfl, hr, hi1, c1⟩
  have HR := hidE hr
  have HI1 := hidE hi1
  have C1 := hidE c1
  have hb1 := Blk.chg K1.out c1 (fun h => by have := HLT.out _ (hMK _ h); omega)
  obtain ⟨q0, q1, q2, q3, t0, t1, t2, t3, hlx⟩ := blk_facts4 hb1
  have HB1 := hidE hb1
  clear hr hi1 c1 hb1 HCALL
  go_wp2_with fail
  have hb := blk_set4 (.int .i64 k') (.string x') (.int .i64 z') (.slice a' m' p') HB1.out
  have hsu : ∀ g, Su g → g ≠ w.heap.size + 1 := fun g hg => by have := HLT.out _ (hSu g hg); omega
  have hf : ∀ g, g ≠ w.heap.size + 1 → ((((w1.setCell ⟨w.heap.size + 1, 0, none⟩ (.int .i64 k')).setCell ⟨w.heap.size + 1, 1, none⟩ (.string x')).setCell ⟨w.heap.size + 1, 2, none⟩ (.int .i64 z')).setCell ⟨w.heap.size + 1, 3, none⟩ (.slice a' m' p')).heap[g]? = w1.heap[g]? := fun g hg => heap_set4 _ _ _ _ _ _ _ hg
  have hsz : ((((w1.setCell ⟨w.heap.size + 1, 0, none⟩ (.int .i64 k')).setCell ⟨w.heap.size + 1, 1, none⟩ (.string x')).setCell ⟨w.heap.size + 1, 2, none⟩ (.int .i64 z')).setCell ⟨w.heap.size + 1, 3, none⟩ (.slice a' m' p')).heap.size = w1.heap.size := by simp
  refine ⟨_, results_cell_row rfl _ _ (w.heap.size + 1) 25 _ (0, 0) _ rfl hb Tryz.underlying25 rfl (by kernel_rfl), k', x', z', a', m', p', rfl, ?_, ?_, ?_, ?_⟩
  · exact HR.out.keep (fun _ h => .inl h) (fun g hg => hf g (hsu g hg))
  · exact hI.mono _ _ _ _ (hI.keep _ _ _ _ HI1.out (Nat.le_of_eq hsz.symm) (fun g hg => hf g (by have := HLT.out g hg; omega))) (by omega)
  · have hne : ¬ M mb := fun h => hmb (hMK _ h)
    exact HM.out.keep ((hf mb (by have := HM.out.lt; omega)).trans ((C1.out.block mb (by have := HM.out.lt; have := KS.out; omega) hne).trans (KB.out.block mb HM.out.lt)))
  · exact ((Chg.of_below KB.out).trans' C1.out (fun g _ h => .inl h)).set4 _ _ _ _ (by omega)

end Go.Proofs.YthgkpmgcikopnaaGreatDoor

/-
  Package types: a list of types whose members are changed one after another.
-/
namespace Go.Proofs.YthgkpmgcikopnaaGreatDoor
open Go.RowKit Lx Tx Go.Maps Go.WideMaps Go.Shelf
set_option maxRecDepth 100000

theorem rowT_vals {S : Nat → Prop} {w : World} : (l : List Ty) → ∀ g o, RowT S w l g o → ∃ vs, TyRow S w l vs ∧ (∀ j u, vs[j]? = some u → w.cell? ⟨g, o + j, none⟩ = some u) ∧ ∀ u ∈ vs, u.oneCell' = true
  | [], g, o, _ => ⟨[], by rw [TyRow], by simp, by simp⟩
  | t :: r, g, o, h => by
    rw [RowT] at h
    obtain ⟨⟨A, c, h4, ha⟩, hr⟩ := h
    obtain ⟨vs, h1, h2, h3⟩ := rowT_vals r g (o + 4) hr
    refine ⟨tyV t A c ++ vs, by rw [TyRow]; exact ⟨A, c, vs, rfl, ha, h1⟩, fun j u hj => ?_, fun u hu => ?_⟩
    · rcases Nat.lt_or_ge j 4 with hj4 | hj4
      · rw [List.getElem?_append_left (by show j < 4; exact hj4)] at hj
        obtain ⟨e0, e1, e2, e3⟩ := h4
        match j, hj, hj4 with
        | 0, hj, _ => injection hj with hj; rw [← hj]; exact e0
        | 1, hj, _ => injection hj with hj; rw [← hj]; exact e1
        | 2, hj, _ => injection hj with hj; rw [← hj]; exact e2
        | 3, hj, _ => injection hj with hj; rw [← hj]; exact e3
      · rw [List.getElem?_append_right (by show 4 ≤ j; exact hj4)] at hj
        have := h2 (j - 4) u hj
        rw [show o + 4 + (j - 4) = o + j by omega] at this
        exact this
    · rcases List.mem_append.1 hu with hu | hu
      · simp only [tyV, List.mem_cons, List.not_mem_nil, or_false] at hu
        rcases hu with rfl | rfl | rfl | rfl <;> rfl
      · exact h3 u hu

theorem RowT.cells {S S' : Nat → Prop} {w w' : World} (hS : ∀ g, S g → S' g) (hk : ∀ g, S g → w'.heap[g]? = w.heap[g]?) : (l : List Ty) → ∀ g o, (∀ j, j < l.length * 4 → w'.cell? ⟨g, o + j, none⟩ = w.cell? ⟨g, o + j, none⟩) → RowT S w l g o → RowT S' w' l g o
  | [], g, o, _, _ => by rw [RowT]; trivial
  | t :: r, g, o, hc, h => by
    rw [RowT] at h ⊢
    obtain ⟨⟨A, c, ⟨e0, e1, e2, e3⟩, ha⟩, hr⟩ := h
    have hl : (t :: r).length * 4 = r.length * 4 + 4 := by rw [List.length_cons]; omega
    refine ⟨⟨A, c, ⟨(hc 0 (by omega)).trans e0, (hc 1 (by omega)).trans e1, (hc 2 (by omega)).trans e2, (hc 3 (by omega)).trans e3⟩, ha.keep hS hk⟩, RowT.cells hS hk r g (o + 4) (fun j hj => ?_) hr⟩
    have := hc (j + 4) (by omega)
    rw [show o + (j + 4) = o + 4 + j by omega] at this
    exact this

/-- four cells of a row are written -/
def setO (w : World) (g o : Nat) (b0 b1 b2 b3 : Value) : World := (((w.setCell ⟨g, o, none⟩ b0).setCell ⟨g, o + 1, none⟩ b1).setCell ⟨g, o + 2, none⟩ b2).setCell ⟨g, o + 3, none⟩ b3
theorem addr_ne {g o o' : Nat} (h : o ≠ o') : (⟨g, o, none⟩ : Addr) ≠ ⟨g, o', none⟩ := fun e => h (by injection e)
theorem other (w : World) (g o o' : Nat) (u : Value) (h : o ≠ o') : (w.setCell ⟨g, o, none⟩ u).cell? ⟨g, o', none⟩ = w.cell? ⟨g, o', none⟩ := World.cell?_setCell_other _ _ _ _ (addr_ne h)
theorem same (w : World) (a : Addr) (v u : Value) (h : w.cell? a = some u) : (w.setCell a v).cell? a = some v := World.cell?_setCell_same _ _ _ h
theorem setO_far (w : World) (g o j : Nat) (b0 b1 b2 b3 : Value) (hj : j < o ∨ o + 4 ≤ j) : (setO w g o b0 b1 b2 b3).cell? ⟨g, j, none⟩ = w.cell? ⟨g, j, none⟩ :=
  (other _ g (o + 3) j _ (by omega)).trans ((other _ g (o + 2) j _ (by omega)).trans ((other _ g (o + 1) j _ (by omega)).trans (other _ g o j _ (by omega))))
theorem setO_cells (w : World) (g o : Nat) (b0 b1 b2 b3 a0 a1 a2 a3 : Value) (h0 : w.cell? ⟨g, o, none⟩ = some a0) (h1 : w.cell? ⟨g, o + 1, none⟩ = some a1) (h2 : w.cell? ⟨g, o + 2, none⟩ = some a2) (h3 : w.cell? ⟨g, o + 3, none⟩ = some a3) :
    (setO w g o b0 b1 b2 b3).cell? ⟨g, o, none⟩ = some b0 ∧ (setO w g o b0 b1 b2 b3).cell? ⟨g, o + 1, none⟩ = some b1 ∧ (setO w g o b0 b1 b2 b3).cell? ⟨g, o + 2, none⟩ = some b2 ∧ (setO w g o b0 b1 b2 b3).cell? ⟨g, o + 3, none⟩ = some b3 := by
  refine ⟨?_, ?_, ?_, ?_⟩
  · exact (other _ g (o + 3) o _ (by omega)).trans ((other _ g (o + 2) o _ (by omega)).trans ((other _ g (o + 1) o _ (by omega)).trans (same _ _ _ _ h0)))
  · exact (other _ g (o + 3) (o + 1) _ (by omega)).trans ((other _ g (o + 2) (o + 1) _ (by omega)).trans (same _ _ _ a1 ((other _ g o (o + 1) _ (by omega)).trans h1)))
  · exact (other _ g (o + 3) (o + 2) _ (by omega)).trans (same _ _ _ a2 ((other _ g (o + 1) (o + 2) _ (by omega)).trans ((other _ g o (o + 2) _ (by omega)).trans h2)))
  · exact same _ _ _ a3 ((other _ g (o + 2) (o + 3) _ (by omega)).trans ((other _ g (o + 1) (o + 3) _ (by omega)).trans ((other _ g o (o + 3) _ (by omega)).trans h3)))
theorem setO_heap (w : World) (g o k : Nat) (b0 b1 b2 b3 : Value) (hk : k ≠ g) : (setO w g o b0 b1 b2 b3).heap[k]? = w.heap[k]? := by
  unfold setO
  exact (Below.heap_setCell _ ⟨g, o + 3, none⟩ _ k hk).trans ((Below.heap_setCell _ ⟨g, o + 2, none⟩ _ k hk).trans ((Below.heap_setCell _ ⟨g, o + 1, none⟩ _ k hk).trans (Below.heap_setCell _ ⟨g, o, none⟩ _ k hk)))
theorem setO_size (w : World) (g o : Nat) (b0 b1 b2 b3 : Value) : (setO w g o b0 b1 b2 b3).heap.size = w.heap.size := by
  unfold setO; simp
theorem setO_frozen (w : World) (g o : Nat) (a : Addr) (b0 b1 b2 b3 : Value) : (setO w g o b0 b1 b2 b3).frozen? a = w.frozen? a := by
  unfold setO; simp
theorem Chg.setO {M : Nat → Prop} {w w' : World} {g : Nat} (h : Chg M w w') (o : Nat) (b0 b1 b2 b3 : Value) (hg : w.heap.size ≤ g ∨ M g) : Chg M w (setO w' g o b0 b1 b2 b3) :=
  (((h.setCell (p := ⟨g, o, none⟩) hg _).setCell (p := ⟨g, o + 1, none⟩) hg _).setCell (p := ⟨g, o + 2, none⟩) hg _).setCell (p := ⟨g, o + 3, none⟩) hg _

/-- a row of types in block g, the first i of which are new ones -/
structure RowSt (R S : Nat → Prop) (w : World) (l done : List Ty) (g i : Nat) : Prop where
  free : ∀ j, w.frozen? ⟨g, j, none⟩ = false
  lt : g < w.heap.size
  new : RowT R w done g 0
  old : ∀ j (hj : j < l.length), i ≤ j → ∃ A c, Cell4 w l[j] A c g (j * 4) ∧ Args S w l[j] A
theorem RowSt.keep {R R' S : Nat → Prop} {w w' : World} {l done : List Ty} {g i : Nat} (h : RowSt R S w l done g i) (hR : ∀ g, R g → R' g) (hk : ∀ k, R k ∨ S k ∨ k = g → w'.heap[k]? = w.heap[k]?) (hs : w.heap.size ≤ w'.heap.size) : RowSt R' S w' l done g i where
  free j := (World.frozen?_of_block (hk g (.inr (.inr rfl)))).trans (h.free j)
  lt := Nat.lt_of_lt_of_le h.lt hs
  new := RowT.keep hR (fun g hg => hk g (.inl hg)) done g 0 (hk g (.inr (.inr rfl))) h.new
  old j hj hi := by
    obtain ⟨A, c, h1, h2⟩ := h.old j hj hi
    exact ⟨A, c, h1.keep (hk g (.inr (.inr rfl))), h2.keep (fun _ h => h) (fun g hg => hk g (.inr (.inl hg)))⟩
theorem RowSt.put {R S : Nat → Prop} {w : World} {l done : List Ty} {g i : Nat} {u : Ty} {k z : Int} {x : ByteArray} {a : Option Addr} {m p : Nat} (h : RowSt R S w l done g i) (hi : i < l.length) (hd : done.length = i) (hr : RdV R w u (.agg #[.int .i64 k, .string x, .int .i64 z, .slice a m p])) (hRg : ¬ R g) (hSg : ¬ S g) :
    RowSt R S (setO w g (i * 4) (.int .i64 k) (.string x) (.int .i64 z) (.slice a m p)) l (done ++ [u]) g (i + 1) where
  free j := (setO_frozen _ _ _ _ _ _ _ _).trans (h.free j)
  lt := by rw [setO_size]; exact h.lt
  new := by
    obtain ⟨A0, c0, ⟨e0, e1, e2, e3⟩, -⟩ := h.old i hi (Nat.le_refl _)
    obtain ⟨f0, f1, f2, f3⟩ := setO_cells w g (i * 4) (.int .i64 k) (.string x) (.int .i64 z) (.slice a m p) _ _ _ _ e0 e1 e2 e3
    obtain ⟨K, X, Z, A, n, c, hv, hK, hX, hZ, hn, ha⟩ := hr.parts
    injection hv with hv
    have hv := congrArg Array.toList hv
    simp only [List.cons.injEq, Value.int.injEq, Value.string.injEq, Value.slice.injEq, and_true, true_and] at hv
    obtain ⟨rfl, rfl, rfl, rfl, rfl, rfl⟩ := hv
    subst hK; subst hX; subst hZ; subst hn
    refine RowT.snoc done g 0 u a p (RowT.cells (fun _ h => h) (fun k hk => setO_heap _ _ _ _ _ _ _ _ (fun e => hRg (by rw [← e]; exact hk))) done g 0 (fun j hj => setO_far _ _ _ _ _ _ _ _ (by omega)) h.new) ?_ (ha.keep (fun _ h => h) (fun k hk => setO_heap _ _ _ _ _ _ _ _ (fun e => hRg (by rw [← e]; exact hk))))
    rw [hd, Nat.zero_add]
    exact ⟨f0, f1, f2, f3⟩
  old j hj hij := by
    obtain ⟨A, c, ⟨e0, e1, e2, e3⟩, h2⟩ := h.old j hj (by omega)
    exact ⟨A, c, ⟨(setO_far _ _ _ _ _ _ _ _ (by omega)).trans e0, (setO_far _ _ _ _ _ _ _ _ (by omega)).trans e1, (setO_far _ _ _ _ _ _ _ _ (by omega)).trans e2, (setO_far _ _ _ _ _ _ _ _ (by omega)).trans e3⟩,
      h2.keep (fun _ h => h) (fun k hk => setO_heap _ _ _ _ _ _ _ _ (fun e => hSg (by rw [← e]; exact hk)))⟩

end Go.Proofs.YthgkpmgcikopnaaGreatDoor

/-
  Package types: changing a type that binds nothing.
-/
namespace Go.Proofs.YthgkpmgcikopnaaGreatDoor
open Go.RowKit Lx Tx Go.Maps Go.WideMaps Go.Shelf
set_option maxRecDepth 100000

theorem clone_vals {S : Nat → Prop} {w : World} {t : Ty} {A : Option Addr} {m : Nat} (h : Args S w t A) (hm : (kids t).length = m) :
    ∃ vs, vs.length = m * 4 ∧ TyRow S w (kids t) vs ∧ (A = none → m = 0) ∧ (∀ u ∈ vs, u.oneCell' = true) ∧ ∀ ad, A = some ad → ∀ w' : World, (∀ k, S k → w'.heap[k]? = w.heap[k]?) → ∀ j u, vs[j]? = some u → w'.cell? (ad.add j) = some u := by
  by_cases hk : kids t = []
  · rw [hk] at hm ⊢
    obtain rfl : m = 0 := hm.symm
    exact ⟨[], rfl, by rw [TyRow], fun _ => rfl, by simp, by simp⟩
  · obtain ⟨g, hA, hg, hr⟩ := (kids_row S w t A).1 h hk
    obtain ⟨vs, h1, h2, h3⟩ := rowT_vals (kids t) g 0 hr
    refine ⟨vs, by rw [TyRow.len _ _ h1, hm], h1, fun e => (by rw [hA] at e; cases e), h3, fun ad had w' hw j u hu => ?_⟩
    rw [hA] at had
    injection had with had
    rw [← had, add_zero_addr]
    have := h2 j u hu
    rw [Nat.zero_add] at this
    exact (World.cell?_of_block (w := w) (a := ⟨g, j, none⟩) (hw g hg)).trans this

theorem clone_row {R S : Nat → Prop} {w : World} {l : List Ty} {vs : List Value} {B m c : Nat} {A : Option Addr} (h : w.ownsRow B 25 4 (.slice A m c) m vs) (hv : TyRow S w l vs) :
    ∃ g, B ≤ g ∧ (0 < m → A = some ⟨g, 0, none⟩ ∧ RowSt R S w l [] g 0) := by
  obtain ⟨h0, h⟩ := h
  rcases h with ⟨_, h⟩ | ⟨g, cap, cur, hvv, hg, hb, h1, h2, h3, h4⟩
  · exact ⟨B, Nat.le_refl _, fun h' => by omega⟩
  · injection hvv with hvv
    refine ⟨g, hg, fun _ => ⟨hvv, ?_⟩⟩
    have hc : ∀ j u, vs[j]? = some u → w.cell? ⟨g, 0 + j, none⟩ = some u := fun j u hu => by
      have hj : j < vs.length := by
        refine Nat.lt_of_not_le fun hl => ?_
        rw [List.getElem?_eq_none hl] at hu
        cases hu
      rw [Nat.zero_add, cell_of_row w g j cur _ (0, 0) hb, ← hu, ← h4, List.getElem?_take_of_lt (by omega)]
      simp
    have hr := TyRow.row l vs 0 hv hc
    exact ⟨fun j => frozen_of_row w g j cur _ hb, lt_of_block hb, by rw [RowT]; trivial, fun j hj _ => by
      have := RowT.at_ l g 0 j hj hr
      rw [Nat.zero_add] at this
      exact this⟩

theorem blk_farO {w : World} {g g' o : Nat} {t : TypeId} {cs : Array Value} {b0 b1 b2 b3 : Value} (h : Blk w g' t cs) (hne : g' ≠ g) :
    Blk ((((w.setCell ⟨g, o, none⟩ b0).setCell ⟨g, o + 1, none⟩ b1).setCell ⟨g, o + 2, none⟩ b2).setCell ⟨g, o + 3, none⟩ b3) g' t cs := (setO_heap w g o g' b0 b1 b2 b3 hne).trans h

section
variable {σ : Type}
/-- at the head of each round -/
def HeadChg (mb : Nat) (I : Nat → σ → World → Prop) (M Su S : Nat → Prop) (bind : Name → σ → Name × σ) (leaf : Ty → Ty) (env : List (Name × Name)) (l : List Ty) (c : Nat) (s : σ) (B g m : Nat) (w0 : World) (gg : Nat) (vi : Value) (wr : World) : Prop :=
  ∃ i, gg = m - i ∧ vi = .int .i64 (i : Nat) ∧ i ≤ m ∧ I (c + fasL (l.take i)) (chgL bind leaf env (l.take i) s).2 wr ∧ MapE mkTy wr mb env ∧
    (0 < m → RowSt (fun k => Su k ∨ (B ≤ k ∧ k < wr.heap.size)) S wr l (chgL bind leaf env (l.take i) s).1 g i) ∧ Chg (fun k => M k ∨ k = mb ∨ k = g) w0 wr
end

theorem chg_app {σ : Type} (bind : Name → σ → Name × σ) (leaf : Ty → Ty) (env : List (Name × Name)) (t : Ty) (s : σ) (h : kd t = 3 ∨ kd t = 4) :
    kd (chg bind leaf env t s).1 = kd t ∧ nmB (chg bind leaf env t s).1 = nmB t ∧ nn (chg bind leaf env t s).1 = nn t ∧ kids (chg bind leaf env t s).1 = (chgL bind leaf env (kids t) s).1 ∧ (chg bind leaf env t s).2 = (chgL bind leaf env (kids t) s).2 := by
  cases t with
  | var x => simp [kd] at h
  | mt n => simp [kd] at h
  | con d l => rw [chg]; exact ⟨rfl, rfl, rfl, rfl, rfl⟩
  | fn a b => rw [chg, kids]; exact ⟨rfl, rfl, rfl, rfl, rfl⟩
  | all x t => simp [kd] at h

theorem kF' (t : Ty) (j : Nat) (h : kd t ≠ j) : ((kd t : Int) == (j : Nat)) = false := kF _ j h

set_option maxHeartbeats 3200000 in
theorem tc_chgApp {σ : Type} (n kb kl : Nat) (cb cl : Array Value) (mb : Nat) (I : Nat → σ → World → Prop) (K M Su : Nat → Prop) (bind : Name → σ → Name × σ) (leaf : Ty → Ty) (hI : InvC I K) (hMK : ∀ g, M g → K g) (hSu : ∀ g, Su g → K g ∧ ¬ M g) (hmb : ¬ K mb)
    (HC : ChgOK n kb kl cb cl mb I M Su bind leaf)
    (c : Nat) (s : σ) (env : List (Name × Name)) (t : Ty) (S : Nat → Prop) (v : Value) (w : World) (hk34 : kd t = 3 ∨ kd t = 4) (hn : t.size ≤ n + 1) (h6 : n < 1000000)
    (hi : I c s w) (hm : MapE mkTy w mb env) (hv : RdV S w t v) (hS : ∀ g, S g → g < w.heap.size ∧ ¬ M g ∧ g ≠ mb) (hnm : Nm t) (hc : c + t.fas ≤ 10000000) (hlen : env.length + t.size ≤ 100000000) :
    Calls Tryz.prog 85 #[v, .map (some mb), fnV kb cb, fnV kl cl] w (CPst mb I M Su env (c + t.fas) (chg bind leaf env t s) w) := by
  obtain ⟨k, X, Z, A, m, cp, rfl, hk, hX, hZ, hkm, ha⟩ := hv.parts
  have hsk : sizeL (kids t) + 1 = t.size := by rw [size_kids t]
  have hfk : t.fas = fasL (kids t) := by rw [fas_kids t, if_neg (by omega), Nat.add_zero]
  have hm6 : m ≤ n := by have := kids_len t; omega
  have d1 : ((k : Int) == 1) = false := by rw [hk]; exact kF _ 1 (by omega)
  have d2 : ((k : Int) == 2) = false := by rw [hk]; exact kF _ 2 (by omega)
  have d5 : ((k : Int) == 5) = false := by rw [hk]; exact kF _ 5 (by omega)
  obtain ⟨vs, hvl, hvr, hv0, hv1, hvc⟩ := clone_vals ha hkm
  obtain ⟨-, -, ls, lb⟩ := laid2 w (.cells #[.int .i64 k, .string X, .int .i64 Z, .slice A m cp] 25) (.cells #[.int .i64 0, .string ⟨#[]⟩, .int .i64 0, .slice none 0 0] 25)
  obtain ⟨l0, l1, -, -⟩ := laid2 w (.cells #[.int .i64 k, .string X, .int .i64 Z, .slice A m cp] 25) (.cells #[.int .i64 0, .string ⟨#[]⟩, .int .i64 0, .slice none 0 0] 25)
  have hcl := tc_clone A m cp vs ((w.alloc (.cells #[.int .i64 k, .string X, .int .i64 Z, .slice A m cp] 25)).alloc (.cells #[.int .i64 0, .string ⟨#[]⟩, .int .i64 0, .slice none 0 0] 25)) hv0 hvl
    (fun ad had w' hw j u hu => hvc ad had w' (fun q hq => (hw.block q (by have := hS q hq; omega)).trans (lb.block q (hS q hq).1)) j u hu) hv1 (by omega)
  rw [ls] at hcl
  obtain ⟨hr1, hr2, hr3, hr4, hr5⟩ := chg_app bind leaf env t s hk34
  have HR1 := hidE hr1
  have HR2 := hidE hr2
  have HR3 := hidE hr3
  have HR4 := hidE hr4
  have HR5 := hidE hr5
  have HK := hidE hk
  have HX := hidE hX
  have HZ := hidE hZ
  have HKM := hidE hkm
  have HS := hidE hS
  have HI := hidE hi
  have HM := hidE hm
  have HLT := hidE (hI.lt c s w hi)
  have HNK : Hid (∀ i (hi : i < (kids t).length), Nm (kids t)[i]) := hidE fun i hi => nm_kid hnm i hi
  have HCL := hidE hcl
  have HVR := hidE hvr
  have L0 := hidE l0
  have L1 := hidE l1
  have LB := hidE lb
  have LSZ := hidE ls
  have hml := hm.lt
  clear hr1 hr2 hr3 hr4 hr5 hk hX hZ hkm hS hi hm hnm hcl hvl hvr hv0 hv1 hvc l0 l1 ls lb hv ha hk34
  unfold fnV
  go_enter_defers Tryz.func85, Tryz.ntmps85
  go_wp2_with fail
  refine HCL.out.mono ?_
  rintro e w3 ⟨A3, c3, rfl, hown, hbl⟩
  have hs3 : w.heap.size + 2 ≤ w3.heap.size := Nat.le_trans (Nat.le_of_eq LSZ.out.symm) hbl.size
  have hb0 := Blk.below L0.out hbl (by omega)
  have hb1 := Blk.below L1.out hbl (by omega)
  have hbel := LB.out.trans (hbl.mono (by omega))
  obtain ⟨g3, hg3, hrow⟩ := clone_row (R := fun k => Su k ∨ (w3.heap.size ≤ k ∧ k < w3.heap.size)) hown (HVR.out.keep (fun _ h => h) (fun q hq => hbel.block q (HS.out q hq).1))
  obtain ⟨p0, p1, p2, p3, s0, s1, s2, s3, hlx⟩ := blk_facts4 hb0
  have HB0 := hidE hb0
  have HB1 := hidE hb1
  have BEL := hidE hbel
  have HROW := hidE hrow
  clear hown hb0 hb1 hbel hrow hbl HCL HVR
  go_wp2_with fail
  have hw4 : Blk (w3.setCell ⟨w.heap.size, 3, none⟩ (.slice A3 m c3)) w.heap.size 25 #[.int .i64 k, .string X, .int .i64 Z, .slice A3 m c3] := heap_setCell_same _ w.heap.size 3 _ _ (.slice A3 m c3) HB0.out
  have hr4 : Blk (w3.setCell ⟨w.heap.size, 3, none⟩ (.slice A3 m c3)) (w.heap.size + 1) 25 #[.int .i64 0, .string ⟨#[]⟩, .int .i64 0, .slice none 0 0] := HB1.out.far (p := ⟨w.heap.size, 3, none⟩) (Nat.succ_ne_self _) _
  have hs4 : (w3.setCell ⟨w.heap.size, 3, none⟩ (.slice A3 m c3)).heap.size = w3.heap.size := by simp
  have hk4 : ∀ q, q < w.heap.size → (w3.setCell ⟨w.heap.size, 3, none⟩ (.slice A3 m c3)).heap[q]? = w.heap[q]? := fun q hq => (Below.heap_setCell w3 ⟨w.heap.size, 3, none⟩ _ q (by show q ≠ w.heap.size; omega)).trans (BEL.out.block q hq)
  have hch4 : Chg (fun k => M k ∨ k = mb) w (w3.setCell ⟨w.heap.size, 3, none⟩ (.slice A3 m c3)) := (Chg.of_below BEL.out).setCell (p := ⟨w.heap.size, 3, none⟩) (.inl (Nat.le_refl _)) _
  have hi4 := hI.keep c s w _ HI.out (by rw [hs4]; exact BEL.out.size) (fun q hq => hk4 q (HLT.out q hq))
  have hm4 := HM.out.keep (hk4 mb hml)
  have HW4 := hidE hw4
  have HR4' := hidE hr4
  have HK4 := hidE hk4
  have HCH4 := hidE hch4
  have HI4 := hidE hi4
  have HM4 := hidE hm4
  have HS4 := hidE hs4
  have hbs := BEL.out.size
  have hst4 : Hid (0 < m → A3 = some ⟨g3, 0, none⟩ ∧ RowSt (fun k => Su k ∨ (w3.heap.size ≤ k ∧ k < (w3.setCell ⟨w.heap.size, 3, none⟩ (.slice A3 m c3)).heap.size)) S (w3.setCell ⟨w.heap.size, 3, none⟩ (.slice A3 m c3)) (kids t) [] g3 0) := hidE fun h0 => by
    obtain ⟨x1, x2⟩ := HROW.out h0
    refine ⟨x1, x2.keep (fun q hq => by rw [hs4]; exact hq) (fun q hq => Below.heap_setCell w3 ⟨w.heap.size, 3, none⟩ _ q ?_) (by rw [hs4]; exact Nat.le_refl _)⟩
    show q ≠ w.heap.size
    rcases hq with (hq | hq) | hq | hq
    · have := HLT.out q (hSu q hq).1; omega
    · omega
    · have := (HS.out q hq).1; omega
    · omega
  clear hw4 hr4 hk4 hch4 hi4 hm4 hs4 p0 p1 p2 p3 s0 s1 s2 s3
  go_loopg [56] m (fun gg vi wr => HeadChg mb I M Su S bind leaf env (kids t) c s w3.heap.size g3 m (w3.setCell ⟨w.heap.size, 3, none⟩ (.slice A3 m c3)) gg vi wr)
  case atStart =>
    exact ⟨0, by omega, rfl, Nat.zero_le _, by rw [List.take_zero, fasL, chgL]; exact HI4.out, HM4.out, fun h0 => by rw [List.take_zero, chgL]; exact (hst4.out h0).2, Chg.refl _ _⟩
  case round =>
    obtain ⟨i, rfl, rfl, hi, i1, mp1, hrw, c1⟩ := hrel
    have I1 := hidE i1
    have MP1 := hidE mp1
    have HRW := hidE hrw
    have C1 := hidE c1
    have hsr := c1.size
    rw [HS4.out] at hsr
    have hnr : ∀ q, w.heap.size ≤ q → q < w.heap.size + 2 → wr.heap[q]? = (w3.setCell ⟨w.heap.size, 3, none⟩ (.slice A3 m c3)).heap[q]? := fun q h1 h2 => c1.block q (by rw [HS4.out]; omega) (fun h => by
      rcases h with h | h | h
      · have := HLT.out q (hMK q h); omega
      · omega
      · omega)
    have BN := hidE (HW4.out.same (hnr _ (Nat.le_refl _) (by omega)))
    have BR := hidE (HR4'.out.same (hnr _ (by omega) (by omega)))
    clear i1 mp1 hrw c1 hnr
    by_cases hlt : i < m
    · obtain ⟨rfl, hst0⟩ := hst4.out (by omega)
      have hg3l := hst0.lt
      rw [HS4.out] at hg3l
      clear hst0
      have hst := HRW.out (by omega)
      have hil : i < (kids t).length := by rw [HKM.out]; exact hlt
      obtain ⟨A1, q1, h4, harg⟩ := hst.old i hil (Nat.le_refl _)
      have hnu := HNK.out i hil
      have htk : (kids t).take (i + 1) = (kids t).take i ++ [(kids t)[i]] := List.take_succ_eq_append_getElem hil
      have hsn := sizeL_next (kids t) i (kids t)[i] ⟨hil, rfl⟩
      have hsle := sizeL_take_le (kids t) (i + 1)
      have hfn := fasL_next (kids t) i (kids t)[i] ⟨hil, rfl⟩
      have hfle := fasL_take_le (kids t) (i + 1)
      obtain ⟨u, hu⟩ : ∃ u, (kids t)[i] = u := ⟨_, rfl⟩
      rw [hu] at h4 harg hnu htk hsn hfn
      have hszu : u.size ≤ n := by omega
      have hrd : RdV S wr u (.agg #[.int .i64 (kd u : Nat), .string (nmB u), .int .i64 (nn u : Nat), .slice A1 (kids u).length q1]) := ⟨A1, q1, rfl, harg⟩
      obtain ⟨e0, e1, e2, e3⟩ := h4
      obtain ⟨K1, hK1⟩ : ∃ K1 : Int, ((kd u : Nat) : Int) = K1 := ⟨_, rfl⟩
      obtain ⟨X1, hX1⟩ : ∃ X1, nmB u = X1 := ⟨_, rfl⟩
      obtain ⟨Z1, hZ1⟩ : ∃ Z1 : Int, ((nn u : Nat) : Int) = Z1 := ⟨_, rfl⟩
      obtain ⟨n1, hn1⟩ : ∃ n1, (kids u).length = n1 := ⟨_, rfl⟩
      rw [hK1] at e0 hrd
      rw [hX1] at e1 hrd
      rw [hZ1] at e2 hrd
      rw [hn1] at e3 hrd
      have HTK := hidE htk
      have HSN := hidE hfn
      have hcall := HC (c + fasL ((kids t).take i)) (chgL bind leaf env ((kids t).take i) s).2 env u S _ ((wr.alloc (.cells #[.int .i64 K1, .string X1, .int .i64 Z1, .slice A1 n1 q1] 25)).drew) hszu (by omega)
        (hI.keep _ _ _ _ I1.out (by show wr.heap.size ≤ (wr.alloc _).heap.size; simp) (fun g hg => Below.heap_alloc wr _ g (hI.lt _ _ _ I1.out g hg))) (MP1.out.keep (Below.heap_alloc wr _ mb MP1.out.lt)) (hrd.keep (fun _ h => h) (fun g hg => Below.heap_alloc wr _ g (by have := (HS.out g hg).1; omega)))
        (fun g hg => ⟨by show g < (wr.alloc _).heap.size; have := (HS.out g hg).1; simp; omega, (HS.out g hg).2⟩) hnu (by omega) (by omega)
      unfold fnV at hcall
      have HCALL := hidE hcall
      have NB0 : Hid (Blk ((wr.alloc (.cells #[.int .i64 K1, .string X1, .int .i64 Z1, .slice A1 n1 q1] 25)).drew) w.heap.size 25 #[.int .i64 k, .string X, .int .i64 Z, .slice (some ⟨g3, 0, none⟩) m c3]) := hidE (Blk.alloc BN.out _)
      have PB0 : Hid (Blk ((wr.alloc (.cells #[.int .i64 K1, .string X1, .int .i64 Z1, .slice A1 n1 q1] 25)).drew) wr.heap.size 25 #[.int .i64 K1, .string X1, .int .i64 Z1, .slice A1 n1 q1]) := hidE (heap_alloc_new wr _)
      have SOF : Hid (∀ W : World, Blk W w.heap.size 25 #[.int .i64 k, .string X, .int .i64 Z, .slice (some ⟨g3, 0, none⟩) m c3] → Blk W wr.heap.size 25 #[.int .i64 K1, .string X1, .int .i64 Z1, .slice A1 n1 q1] →
        W.cell? ⟨w.heap.size, 3, none⟩ = some (.slice (some ⟨g3, 0, none⟩) m c3) ∧ W.cell? ⟨wr.heap.size, 0, none⟩ = some (.int .i64 K1) ∧ W.cell? ⟨wr.heap.size, 1, none⟩ = some (.string X1) ∧ W.cell? ⟨wr.heap.size, 2, none⟩ = some (.int .i64 Z1) ∧ W.cell? ⟨wr.heap.size, 3, none⟩ = some (.slice A1 n1 q1)) :=
        hidE fun W h1 h2 => ⟨h1.cell 3, h2.cell 0, h2.cell 1, h2.cell 2, h2.cell 3⟩
      have HST := hidE hst
      have hgl := hst.lt
      have hneN : w.heap.size ≠ g3 := by omega
      have hneP : wr.heap.size ≠ g3 := by omega
      clear hst hrd hnu hcall hu hK1 hX1 hZ1 hn1 htk hsn hfn harg
      go_wp2_with fail
      go_region_held3 (fun W => W.cell? ⟨w.heap.size, 3, none⟩ = some (.slice (some ⟨g3, 0, none⟩) m c3) ∧ W.cell? ⟨wr.heap.size, 0, none⟩ = some (.int .i64 K1) ∧ W.cell? ⟨wr.heap.size, 1, none⟩ = some (.string X1) ∧ W.cell? ⟨wr.heap.size, 2, none⟩ = some (.int .i64 Z1) ∧ W.cell? ⟨wr.heap.size, 3, none⟩ = some (.slice A1 n1 q1)) (first | (with_reducible exact SOF.out _ NB0.out PB0.out) | (with_reducible exact SOF.out _ NB1.out PB1.out) | (with_reducible exact SOF.out _ (blk_farO NB1.out hneN) (blk_farO PB1.out hneP)))
        (((with_reducible refine HCALL.out.mono ?_); rintro e w5 ⟨k', x', z', a', m', p', rfl, hr5, hi5, hm5, c5⟩; have hn5 : ∀ q, w.heap.size ≤ q → q ≤ wr.heap.size → w5.heap[q]? = (wr.alloc (.cells #[.int .i64 K1, .string X1, .int .i64 Z1, .slice A1 n1 q1] 25)).heap[q]? := (fun q h1 h2 => c5.block q (by show q < (wr.alloc _).heap.size; rw [size_alloc]; omega) (fun h => by rcases h with h | h; (have := HLT.out q (hMK q h); omega); omega)); have NB1 := hidE (NB0.out.same (hn5 _ (Nat.le_refl _) (by omega))); have PB1 := hidE (PB0.out.same (hn5 _ (by omega) (Nat.le_refl _))); have hs5 : wr.heap.size + 1 ≤ w5.heap.size := (by have := c5.size; rw [show ((wr.alloc (.cells #[.int .i64 K1, .string X1, .int .i64 Z1, .slice A1 n1 q1] 25)).drew).heap.size = wr.heap.size + 1 from size_alloc _ _] at this; exact this); have st5 := HST.out.keep (R' := fun k => Su k ∨ (w3.heap.size ≤ k ∧ k < w5.heap.size)) (w' := w5) (fun q hq => (by rcases hq with hq | hq; exact .inl hq; exact .inr ⟨hq.1, by omega⟩)) (fun q hq => (c5.block q (by show q < (wr.alloc _).heap.size; rw [size_alloc]; rcases hq with (hq | hq) | hq | hq; (have := HLT.out q (hSu q hq).1; omega); omega; (have := (HS.out q hq).1; omega); omega) (by rcases hq with (hq | hq) | hq | hq; (exact fun h => by rcases h with h | h; exact (hSu q hq).2 h; exact hmb (by rw [← h]; exact (hSu q hq).1)); (exact fun h => by rcases h with h | h; (have := HLT.out q (hMK q h); omega); omega); (exact fun h => by rcases h with h | h; exact (HS.out q hq).2.1 h; exact (HS.out q hq).2.2 h); (exact fun h => by rcases h with h | h; (have := HLT.out q (hMK q h); omega); omega))).trans (Below.heap_alloc wr _ q (by rcases hq with (hq | hq) | hq | hq; (have := HLT.out q (hSu q hq).1; omega); omega; (have := (HS.out q hq).1; omega); omega))) (by omega); obtain ⟨A5, q5, ⟨y0, y1, y2, y3⟩, -⟩ := st5.old i hil (Nat.le_refl _); have f0 := st5.free (i * 4); have f1 := st5.free (i * 4 + 1); have f2 := st5.free (i * 4 + 2); have f3 := st5.free (i * 4 + 3); have ST5 := hidE st5; have HR5 := hidE hr5; have HI5 := hidE hi5; have HM5 := hidE hm5; have C5 := hidE c5; clear st5 hr5 hi5 hm5 c5 hn5))
      all_goals
        go_wp2_with fail
        have hput := RowSt.put ST5.out hil (by rw [chgL_len, List.length_take]; omega) (HR5.out.keep (S' := fun k => Su k ∨ (w3.heap.size ≤ k ∧ k < w5.heap.size)) (fun q hq => by rcases hq with hq | hq; exact .inl hq; exact .inr ⟨by have h1 := hq.1; have h2 : ((wr.alloc (.cells #[.int .i64 K1, .string X1, .int .i64 Z1, .slice A1 n1 q1] 25)).drew).heap.size = wr.heap.size + 1 := size_alloc _ _; omega, hq.2⟩) (fun q _ => rfl)) (fun h => by rcases h with h | h; (have := HLT.out _ (hSu _ h).1; omega); omega) (fun h => by have := (HS.out _ h).1; omega)
        have HPUT := hidE hput
        clear hput
        go_roundg (m - (i + 1))
        case measure => omega
        case rel =>
          have hfin : HeadChg mb I M Su S bind leaf env (kids t) c s w3.heap.size g3 m (w3.setCell ⟨w.heap.size, 3, none⟩ (.slice (some ⟨g3, 0, none⟩) m c3)) (m - (i + 1)) (.int .i64 ((i + 1 : Nat) : Int)) (setO w5 g3 (i * 4) (.int .i64 k') (.string x') (.int .i64 z') (.slice a' m' p')) := by
            refine ⟨i + 1, rfl, rfl, by omega, ?_, ?_, fun _ => ?_, ?_⟩
            · rw [HTK.out, chgL_snoc, ← HTK.out, HSN.out]
              have := hI.keep _ _ _ (setO w5 g3 (i * 4) (.int .i64 k') (.string x') (.int .i64 z') (.slice a' m' p')) HI5.out (by rw [setO_size]; exact Nat.le_refl _) (fun q hq => setO_heap _ _ _ _ _ _ _ _ (by have := HLT.out q hq; omega))
              rw [Nat.add_assoc] at this
              exact this
            · exact HM5.out.keep (setO_heap _ _ _ _ _ _ _ _ (by omega))
            · rw [HTK.out, chgL_snoc]
              exact HPUT.out.keep (fun q hq => by rw [setO_size]; exact hq) (fun _ _ => rfl) (Nat.le_refl _)
            · have h1 : Chg (fun k => M k ∨ k = mb ∨ k = g3) (w3.setCell ⟨w.heap.size, 3, none⟩ (.slice (some ⟨g3, 0, none⟩) m c3)) w5 := ((C1.out.alloc _).drew).trans' C5.out (fun q _ h => by
                rcases h with h | h
                · exact .inl h
                · exact .inr (.inl h))
              exact h1.setO _ _ _ _ _ (.inr (.inr (.inr rfl)))
          refine cast (congrArg (fun v => HeadChg mb I M Su S bind leaf env (kids t) c s w3.heap.size g3 m _ (m - (i + 1)) v _) ?_) hfin
          go_num
    · have him : i = m := by omega
      subst him
      have hend : (kids t).take i = kids t := List.take_of_length_le (by rw [HKM.out]; exact Nat.le_refl _)
      have hi1 := I1.out
      have hrw1 := HRW.out
      rw [hend, ← HR5.out] at hi1
      rw [hend, ← HR4.out] at hrw1
      have HI1 := hidE hi1
      have HRW1 := hidE hrw1
      obtain ⟨p0, p1, p2, p3, s0, s1, s2, s3, -⟩ := blk_facts4 BN.out
      obtain ⟨q0, q1, q2, q3, t0, t1, t2, t3, -⟩ := blk_facts4 BR.out
      clear hi1 hrw1 hend
      go_wp2_with fail
      have hb := blk_set4 (.int .i64 k) (.string X) (.int .i64 Z) (.slice A3 i c3) BR.out
      have hf : ∀ g, g ≠ w.heap.size + 1 → ((((wr.setCell ⟨w.heap.size + 1, 0, none⟩ (.int .i64 k)).setCell ⟨w.heap.size + 1, 1, none⟩ (.string X)).setCell ⟨w.heap.size + 1, 2, none⟩ (.int .i64 Z)).setCell ⟨w.heap.size + 1, 3, none⟩ (.slice A3 i c3)).heap[g]? = wr.heap[g]? := fun g hg => heap_set4 _ _ _ _ _ _ _ hg
      have hsz : ((((wr.setCell ⟨w.heap.size + 1, 0, none⟩ (.int .i64 k)).setCell ⟨w.heap.size + 1, 1, none⟩ (.string X)).setCell ⟨w.heap.size + 1, 2, none⟩ (.int .i64 Z)).setCell ⟨w.heap.size + 1, 3, none⟩ (.slice A3 i c3)).heap.size = wr.heap.size := by simp
      refine ⟨_, results_cell_row rfl _ _ (w.heap.size + 1) 25 _ (0, 0) _ rfl hb Tryz.underlying25 rfl (by kernel_rfl), k, X, Z, A3, i, c3, rfl, ⟨A3, c3, ?_, ?_⟩, ?_, ?_, ?_⟩
      · rw [HR1.out, HR2.out, HR3.out, HR4.out, chgL_len, HKM.out, ← HK.out, ← HX.out, ← HZ.out]
      · refine (kids_row _ _ _ _).2 fun hne => ?_
        have h0 : 0 < i := by
          refine Nat.pos_of_ne_zero fun e => hne ?_
          rw [HR4.out]
          refine List.eq_nil_of_length_eq_zero ?_
          rw [chgL_len, HKM.out, e]
        obtain ⟨hA, h4⟩ := hst4.out h0
        have hl4 := h4.lt
        rw [HS4.out] at hl4
        have hrow := HRW1.out h0
        refine ⟨g3, hA, .inr ⟨by omega, by rw [hsz]; omega⟩, RowT.keep (fun q hq => by rw [hsz]; rcases hq with hq | hq; exact .inl hq; exact .inr ⟨by omega, hq.2⟩) (fun q hq => hf q (by rcases hq with hq | hq; (have := HLT.out q (hSu q hq).1; omega); omega)) _ _ _ (hf g3 (by omega)) hrow.new⟩
      · refine hI.mono _ _ _ _ (hI.keep _ _ _ _ HI1.out (Nat.le_of_eq hsz.symm) (fun q hq => hf q (by have := HLT.out q hq; omega))) (by omega)
      · exact MP1.out.keep (hf mb (by omega))
      · refine Chg.set4 (HCH4.out.trans' C1.out (fun q hq h => ?_)) _ _ _ _ (Nat.le_succ _)
        rcases h with h | h | h
        · exact .inl h
        · exact .inr h
        · omega

end Go.Proofs.YthgkpmgcikopnaaGreatDoor

/-
  Package types: changing a for all.
-/
namespace Go.Proofs.YthgkpmgcikopnaaGreatDoor
open Go.RowKit Lx Tx Go.Maps Go.WideMaps Go.Shelf
set_option maxRecDepth 100000

theorem chg_all {σ : Type} (bind : Name → σ → Name × σ) (leaf : Ty → Ty) (env : List (Name × Name)) (t : Ty) (s : σ) (h : kd t = 5) :
    kd (chg bind leaf env t s).1 = kd t ∧ nmB (chg bind leaf env t s).1 = ⟨(bind (nmB t).data.toList s).1.toArray⟩ ∧ nn (chg bind leaf env t s).1 = nn t ∧ kids (chg bind leaf env t s).1 = (chgL bind leaf (((nmB t).data.toList, (bind (nmB t).data.toList s).1) :: env) (kids t) (bind (nmB t).data.toList s).2).1 ∧
      (chg bind leaf env t s).2 = (chgL bind leaf (((nmB t).data.toList, (bind (nmB t).data.toList s).1) :: env) (kids t) (bind (nmB t).data.toList s).2).2 := by
  cases t with
  | var x => simp [kd] at h
  | mt n => simp [kd] at h
  | con d l => simp [kd] at h
  | fn a b => simp [kd] at h
  | all x t => rw [chg]; exact ⟨rfl, rfl, rfl, rfl, rfl⟩

set_option maxHeartbeats 3200000 in
theorem tc_chgAll {σ : Type} (n kb kl : Nat) (cb cl : Array Value) (mb : Nat) (I : Nat → σ → World → Prop) (K M Su : Nat → Prop) (bind : Name → σ → Name × σ) (leaf : Ty → Ty) (hI : InvC I K) (hMK : ∀ g, M g → K g) (hSu : ∀ g, Su g → K g ∧ ¬ M g) (hmb : ¬ K mb)
    (eb : ∀ args w, (callFunc kb args).run Tryz.prog w = .ok (.enter kb args) w) (HB : BindOK kb cb I M bind) (HC : ChgOK n kb kl cb cl mb I M Su bind leaf)
    (c : Nat) (s : σ) (env : List (Name × Name)) (t : Ty) (S : Nat → Prop) (v : Value) (w : World) (hk5 : kd t = 5) (hn : t.size ≤ n + 1) (h6 : n < 1000000)
    (hi : I c s w) (hm : MapE mkTy w mb env) (hv : RdV S w t v) (hS : ∀ g, S g → g < w.heap.size ∧ ¬ M g ∧ g ≠ mb) (hnm : Nm t) (hc : c + t.fas ≤ 10000000) (hlen : env.length + t.size ≤ 100000000) :
    Calls Tryz.prog 85 #[v, .map (some mb), fnV kb cb, fnV kl cl] w (CPst mb I M Su env (c + t.fas) (chg bind leaf env t s) w) := by
  obtain ⟨k, X, Z, A, m, cp, rfl, hk, hX, hZ, hkm, ha⟩ := hv.parts
  have hsk : sizeL (kids t) + 1 = t.size := by rw [size_kids t]
  have hfk : t.fas = fasL (kids t) + 1 := by rw [fas_kids t, if_pos (by omega)]
  have hm6 : m ≤ n := by have := kids_len t; omega
  have d1 : ((k : Int) == 1) = false := by rw [hk]; exact kF _ 1 (by omega)
  have d2 : ((k : Int) == 2) = false := by rw [hk]; exact kF _ 2 (by omega)
  have d5 : ((k : Int) == 5) = true := by rw [hk, hk5]; rfl
  obtain ⟨vs, hvl, hvr, hv0, hv1, hvc⟩ := clone_vals ha hkm
  have hX24 : X.size ≤ 24 := by have := nm_len hnm; rw [← hX] at this; exact this
  obtain ⟨l0, l1, ls, lb⟩ := laid2 w (.cells #[.int .i64 k, .string X, .int .i64 Z, .slice A m cp] 25) (.cells #[.int .i64 0, .string ⟨#[]⟩, .int .i64 0, .slice none 0 0] 25)
  have hlt0 := hI.lt c s w hi
  have hbind := HB c s X _ (hI.keep c s w _ hi lb.size (fun g hg => lb.block g (hlt0 g hg))) hX24 (by omega)
  obtain ⟨hr1, hr2, hr3, hr4, hr5⟩ := chg_all bind leaf env t s hk5
  rw [← hX] at hr2 hr4 hr5
  obtain ⟨y, hy⟩ : ∃ y, (bind X.data.toList s).1 = y := ⟨_, rfl⟩
  obtain ⟨s1, hs1⟩ : ∃ s1, (bind X.data.toList s).2 = s1 := ⟨_, rfl⟩
  rw [hy] at hr2
  rw [hy, hs1] at hr4 hr5 hbind
  obtain ⟨Y, hY⟩ : ∃ Y : ByteArray, (⟨y.toArray⟩ : ByteArray) = Y := ⟨_, rfl⟩
  have hYl : Y.data.toList = y := by rw [← hY]
  rw [hY] at hr2 hbind
  obtain ⟨ev, hev⟩ : ∃ ev, ((X.data.toList, y) :: env) = ev := ⟨_, rfl⟩
  rw [hev] at hr4 hr5
  have hevl : ev.length = env.length + 1 := by rw [← hev]; rfl
  have HEV := hidE hev
  have HR1 := hidE hr1
  have HR2 := hidE hr2
  have HR3 := hidE hr3
  have HR4 := hidE hr4
  have HR5 := hidE hr5
  have HK := hidE hk
  have HX := hidE hX
  have HZ := hidE hZ
  have HKM := hidE hkm
  have HS := hidE hS
  have HM := hidE hm
  have HLT := hidE (hI.lt c s w hi)
  have HNK : Hid (∀ i (hi : i < (kids t).length), Nm (kids t)[i]) := hidE fun i hi => nm_kid hnm i hi
  have HVR := hidE hvr
  have HVC := hidE hvc
  have HV0 := hidE hv0
  have HV1 := hidE hv1
  have HVL := hidE hvl
  have L0 := hidE l0
  have L1 := hidE l1
  have LB := hidE lb
  have LSZ := hidE ls
  have HYL := hidE hYl
  have HBIND := hidE hbind
  have hml := hm.lt
  have HXm : Hid (X.size ≤ maxLen) := hidE (by unfold maxLen; omega)
  have HEL : Hid (env.length < 1000000000) := hidE (by omega)
  clear hev hr1 hr2 hr3 hr4 hr5 hk hX hZ hkm hS hi hm hnm hvl hvr hv0 hv1 hvc l0 l1 ls lb hv ha hk5 hlt0 hbind hy hs1 hY hYl hX24
  unfold fnV
  go_enter_defers Tryz.func85, Tryz.ntmps85
  go_wp2_with fail
  refine HBIND.out.mono ?_
  rintro e wb ⟨rfl, ib, cbb⟩
  have hsb : w.heap.size + 2 ≤ wb.heap.size := Nat.le_trans (Nat.le_of_eq LSZ.out.symm) cbb.size
  have hne2 : ∀ q, w.heap.size ≤ q → ¬ M q := fun q hq h => by have := HLT.out q (hMK q h); omega
  have hb0 := Blk.chg L0.out cbb (hne2 _ (Nat.le_refl _))
  have hb1 := Blk.chg L1.out cbb (hne2 _ (Nat.le_succ _))
  have hbm : wb.heap[mb]? = w.heap[mb]? := (cbb.block mb (by rw [LSZ.out]; omega) (fun h => hmb (hMK _ h))).trans (LB.out.block mb hml)
  have hch := (Chg.of_below (M := M) LB.out).trans' cbb (fun q _ h => h)
  obtain ⟨p0, p1, p2, p3, u0, u1, u2, u3, hlx⟩ := blk_facts4 hb0
  have NB0 : Hid (Blk wb.drew w.heap.size 25 #[.int .i64 k, .string X, .int .i64 Z, .slice A m cp]) := hidE hb0
  have MPB : Hid (MapE mkTy wb.drew mb env) := hidE (HM.out.keep hbm)
  have RB0 := hidE hb1
  have IB := hidE ib
  have CHB := hidE hch
  have SOF : Hid (∀ W : World, Blk W w.heap.size 25 #[.int .i64 k, .string X, .int .i64 Z, .slice A m cp] → W.cell? ⟨w.heap.size, 1, none⟩ = some (.string X)) := hidE fun W h => h.cell 1
  clear hb0 hb1 hbm hch ib cbb HBIND
  go_wp2_with fail
  go_region_held3 (fun W => W.cell? ⟨w.heap.size, 1, none⟩ = some (.string X)) (first | (with_reducible exact SOF.out _ NB0.out) | (with_reducible exact SOF.out _ NB1.out) | (with_reducible exact SOF.out _ NB2.out))
    ((first | ((with_reducible refine (tc_variable Y wb.drew).mono ?_); rintro e w4 ⟨rfl, b4⟩; have NB1 := hidE (NB0.out.below b4 NB0.out.lt); have MP4 := hidE (MPB.out.keep (b4.block mb MPB.out.lt)); have B4 := hidE b4; clear b4) | ((with_reducible refine (tc_coverT mb env X Y w4 MP4.out HXm.out HEL.out).mono ?_); rintro e w5 ⟨rfl, cov, mp5, c5⟩; unfold uncovT; have NB2 := hidE (NB1.out.chg c5 (by unfold only; omega)); have COV := hidE cov; have MP5 := hidE mp5; have C5 := hidE c5; clear cov mp5 c5)))
  have hs4 := B4.out.size
  have hs5 := C5.out.size
  replace hs4 : wb.heap.size ≤ w4.heap.size := hs4
  have hRB5 : Blk w5 (w.heap.size + 1) 25 #[.int .i64 0, .string ⟨#[]⟩, .int .i64 0, .slice none 0 0] := Blk.chg (Blk.below (w := wb.drew) RB0.out B4.out (by show w.heap.size + 1 < wb.heap.size; omega)) C5.out (by unfold only; omega)
  have hb45 : ∀ q, q < wb.heap.size → q ≠ mb → w5.heap[q]? = wb.heap[q]? := fun q h1 h2 => (C5.out.block q (by omega) h2).trans (B4.out.block q h1)
  have hI5 := hI.keep _ _ _ w5 IB.out (by omega) (fun q hq => hb45 q (by have := HLT.out q hq; omega) (fun e => hmb (by rw [← e]; exact hq)))
  have hch5 : Chg (fun k => M k ∨ k = mb) w w5 := ((CHB.out.mono (fun q _ h => .inl h)).trans' (M1 := fun _ => False) (b := wb) (c := w4) ⟨B4.out.os, B4.out.tape, B4.out.output, B4.out.size, fun q hq _ => B4.out.block q hq⟩ (fun _ _ h => h.elim)).trans' C5.out (fun q _ h => .inr h)
  have hmp5 := MP5.out
  rw [HYL.out, HEV.out] at hmp5
  obtain ⟨p0, p1, p2, p3, u0, u1, u2, u3, -⟩ := blk_facts4 NB2.out
  have NB6 := hidE (heap_setCell_same w5 w.heap.size 1 _ _ (.string Y) NB2.out)
  have hcl := tc_clone A m cp vs (w5.setCell ⟨w.heap.size, 1, none⟩ (.string Y)) HV0.out HVL.out
    (fun ad had w' hw j u hu => HVC.out ad had w' (fun q hq => (hw.block q (by have := (HS.out q hq).1; simp; omega)).trans ((Below.heap_setCell w5 ⟨w.heap.size, 1, none⟩ _ q (by have := (HS.out q hq).1; show q ≠ w.heap.size; omega)).trans (hch5.block q (HS.out q hq).1 (fun h => by rcases h with h | h; exact (HS.out q hq).2.1 h; exact (HS.out q hq).2.2 h)))) j u hu) HV1.out (by omega)
  have hs6 : (w5.setCell ⟨w.heap.size, 1, none⟩ (.string Y)).heap.size = w5.heap.size := by simp
  rw [hs6] at hcl
  have HS6 := hidE hs6
  have HCL := hidE hcl
  have RB5 := hidE hRB5
  have I5 := hidE hI5
  have CH5 := hidE hch5
  have MPE := hidE hmp5
  clear hcl hRB5 hb45 hI5 hch5 hmp5 hs6
  go_wp2_with fail
  refine HCL.out.mono ?_
  rintro e w3 ⟨A3, c3, rfl, hown, hbl⟩
  have hs3 : w5.heap.size ≤ w3.heap.size := Nat.le_trans (Nat.le_of_eq HS6.out.symm) hbl.size
  have hb0 := Blk.below NB6.out hbl (by omega)
  have hb1 := Blk.below (RB5.out.far (p := ⟨w.heap.size, 1, none⟩) (Nat.succ_ne_self _) (.string Y)) hbl (by omega)
  have hk3 : ∀ q, q < w5.heap.size → q ≠ w.heap.size → w3.heap[q]? = w5.heap[q]? := fun q h1 h2 => (hbl.block q h1).trans (Below.heap_setCell w5 ⟨w.heap.size, 1, none⟩ _ q h2)
  obtain ⟨g3, hg3, hrow⟩ := clone_row (R := fun k => Su k ∨ (w3.heap.size ≤ k ∧ k < w3.heap.size)) hown (HVR.out.keep (fun _ h => h) (fun q hq => (hk3 q (by have := (HS.out q hq).1; omega) (by have := (HS.out q hq).1; omega)).trans (CH5.out.block q (HS.out q hq).1 (fun h => by rcases h with h | h; exact (HS.out q hq).2.1 h; exact (HS.out q hq).2.2 h))))
  obtain ⟨p0, p1, p2, p3, s0, s1', s2, s3, hlx⟩ := blk_facts4 hb0
  have HB0 := hidE hb0
  have HB1 := hidE hb1
  have HK3 := hidE hk3
  have CH3 := hidE ((CH5.out.setCell (p := ⟨w.heap.size, 1, none⟩) (.inl (Nat.le_refl _)) (.string Y)).trans' (M1 := fun _ => False) (Chg.mono (Chg.of_below (M := fun _ => False) (hbl.mono (Nat.le_of_eq HS6.out))) (fun _ _ h => h)) (fun _ _ h => h.elim))
  have HROW := hidE hrow
  clear hown hb0 hb1 hk3 hrow hbl HCL HVR
  go_wp2_with fail
  have hw4 : Blk (w3.setCell ⟨w.heap.size, 3, none⟩ (.slice A3 m c3)) w.heap.size 25 #[.int .i64 k, .string Y, .int .i64 Z, .slice A3 m c3] := heap_setCell_same _ w.heap.size 3 _ _ (.slice A3 m c3) HB0.out
  have hr4 : Blk (w3.setCell ⟨w.heap.size, 3, none⟩ (.slice A3 m c3)) (w.heap.size + 1) 25 #[.int .i64 0, .string ⟨#[]⟩, .int .i64 0, .slice none 0 0] := HB1.out.far (p := ⟨w.heap.size, 3, none⟩) (Nat.succ_ne_self _) _
  have hs4' : (w3.setCell ⟨w.heap.size, 3, none⟩ (.slice A3 m c3)).heap.size = w3.heap.size := by simp
  have hk4 : ∀ q, q < w5.heap.size → q ≠ w.heap.size → (w3.setCell ⟨w.heap.size, 3, none⟩ (.slice A3 m c3)).heap[q]? = w5.heap[q]? := fun q hq hne => (Below.heap_setCell w3 ⟨w.heap.size, 3, none⟩ _ q hne).trans (HK3.out q hq hne)
  have hch4 : Chg (fun k => M k ∨ k = mb) w (w3.setCell ⟨w.heap.size, 3, none⟩ (.slice A3 m c3)) := CH3.out.setCell (p := ⟨w.heap.size, 3, none⟩) (.inl (Nat.le_refl _)) _
  have hi4 := hI.keep _ _ _ _ I5.out (by rw [hs4']; exact hs3) (fun q hq => hk4 q (by have := HLT.out q hq; omega) (by have := HLT.out q hq; omega))
  have hm4 := MPE.out.keep (hk4 mb (by omega) (by omega))
  have hcov4 := hidE (COV.out.keep (fun q h1 h2 => hk4 q (by have := COV.out.2.2.2.lt; omega) (by omega)))
  have hcl4 := COV.out.2.2.2.lt
  have HW4 := hidE hw4
  have HR4' := hidE hr4
  have HK4 := hidE hk4
  have HCH4 := hidE hch4
  have HI4 := hidE hi4
  have HM4 := hidE hm4
  have HS4 := hidE hs4'
  have hbs : w.heap.size ≤ w3.heap.size := by omega
  have hst4 : Hid (0 < m → A3 = some ⟨g3, 0, none⟩ ∧ RowSt (fun k => Su k ∨ (w3.heap.size ≤ k ∧ k < (w3.setCell ⟨w.heap.size, 3, none⟩ (.slice A3 m c3)).heap.size)) S (w3.setCell ⟨w.heap.size, 3, none⟩ (.slice A3 m c3)) (kids t) [] g3 0) := hidE fun h0 => by
    obtain ⟨x1, x2⟩ := HROW.out h0
    refine ⟨x1, x2.keep (fun q hq => by rw [hs4']; exact hq) (fun q hq => Below.heap_setCell w3 ⟨w.heap.size, 3, none⟩ _ q ?_) (by rw [hs4']; exact Nat.le_refl _)⟩
    show q ≠ w.heap.size
    rcases hq with (hq | hq) | hq | hq
    · have := HLT.out q (hSu q hq).1; omega
    · omega
    · have := (HS.out q hq).1; omega
    · omega
  clear hw4 hr4 hk4 hch4 hi4 hm4 hs4' p0 p1 p2 p3 s0 s1' s2 s3
  go_loopg [56] m (fun gg vi wr => HeadChg mb I M Su S bind leaf ev (kids t) (c + 1) s1 w3.heap.size g3 m (w3.setCell ⟨w.heap.size, 3, none⟩ (.slice A3 m c3)) gg vi wr)
  case atStart =>
    exact ⟨0, by omega, rfl, Nat.zero_le _, by rw [List.take_zero, fasL, chgL]; exact HI4.out, HM4.out, fun h0 => by rw [List.take_zero, chgL]; exact (hst4.out h0).2, Chg.refl _ _⟩
  case round =>
    obtain ⟨i, rfl, rfl, hi, i1, mp1, hrw, c1⟩ := hrel
    have I1 := hidE i1
    have MP1 := hidE mp1
    have HRW := hidE hrw
    have C1 := hidE c1
    have hsr := c1.size
    rw [HS4.out] at hsr
    have hnr : ∀ q, w.heap.size ≤ q → q < w.heap.size + 2 → wr.heap[q]? = (w3.setCell ⟨w.heap.size, 3, none⟩ (.slice A3 m c3)).heap[q]? := fun q h1 h2 => c1.block q (by rw [HS4.out]; omega) (fun h => by
      rcases h with h | h | h
      · have := HLT.out q (hMK q h); omega
      · omega
      · omega)
    have BN := hidE (HW4.out.same (hnr _ (Nat.le_refl _) (by omega)))
    have BR := hidE (HR4'.out.same (hnr _ (by omega) (by omega)))
    clear i1 mp1 hrw c1 hnr
    by_cases hlt : i < m
    · obtain ⟨rfl, hst0⟩ := hst4.out (by omega)
      have hg3l := hst0.lt
      rw [HS4.out] at hg3l
      clear hst0
      have hst := HRW.out (by omega)
      have hil : i < (kids t).length := by rw [HKM.out]; exact hlt
      obtain ⟨A1, q1, h4, harg⟩ := hst.old i hil (Nat.le_refl _)
      have hnu := HNK.out i hil
      have htk : (kids t).take (i + 1) = (kids t).take i ++ [(kids t)[i]] := List.take_succ_eq_append_getElem hil
      have hsn := sizeL_next (kids t) i (kids t)[i] ⟨hil, rfl⟩
      have hsle := sizeL_take_le (kids t) (i + 1)
      have hfn := fasL_next (kids t) i (kids t)[i] ⟨hil, rfl⟩
      have hfle := fasL_take_le (kids t) (i + 1)
      obtain ⟨u, hu⟩ : ∃ u, (kids t)[i] = u := ⟨_, rfl⟩
      rw [hu] at h4 harg hnu htk hsn hfn
      have hszu : u.size ≤ n := by omega
      have hrd : RdV S wr u (.agg #[.int .i64 (kd u : Nat), .string (nmB u), .int .i64 (nn u : Nat), .slice A1 (kids u).length q1]) := ⟨A1, q1, rfl, harg⟩
      obtain ⟨e0, e1, e2, e3⟩ := h4
      obtain ⟨K1, hK1⟩ : ∃ K1 : Int, ((kd u : Nat) : Int) = K1 := ⟨_, rfl⟩
      obtain ⟨X1, hX1⟩ : ∃ X1, nmB u = X1 := ⟨_, rfl⟩
      obtain ⟨Z1, hZ1⟩ : ∃ Z1 : Int, ((nn u : Nat) : Int) = Z1 := ⟨_, rfl⟩
      obtain ⟨n1, hn1⟩ : ∃ n1, (kids u).length = n1 := ⟨_, rfl⟩
      rw [hK1] at e0 hrd
      rw [hX1] at e1 hrd
      rw [hZ1] at e2 hrd
      rw [hn1] at e3 hrd
      have HTK := hidE htk
      have HSN := hidE hfn
      have hcall := HC (c + 1 + fasL ((kids t).take i)) (chgL bind leaf ev ((kids t).take i) s1).2 ev u S _ ((wr.alloc (.cells #[.int .i64 K1, .string X1, .int .i64 Z1, .slice A1 n1 q1] 25)).drew) hszu (by omega)
        (hI.keep _ _ _ _ I1.out (by show wr.heap.size ≤ (wr.alloc _).heap.size; simp) (fun g hg => Below.heap_alloc wr _ g (hI.lt _ _ _ I1.out g hg))) (MP1.out.keep (Below.heap_alloc wr _ mb MP1.out.lt)) (hrd.keep (fun _ h => h) (fun g hg => Below.heap_alloc wr _ g (by have := (HS.out g hg).1; omega)))
        (fun g hg => ⟨by show g < (wr.alloc _).heap.size; have := (HS.out g hg).1; simp; omega, (HS.out g hg).2⟩) hnu (by omega) (by omega)
      unfold fnV at hcall
      have HCALL := hidE hcall
      have NB0 : Hid (Blk ((wr.alloc (.cells #[.int .i64 K1, .string X1, .int .i64 Z1, .slice A1 n1 q1] 25)).drew) w.heap.size 25 #[.int .i64 k, .string Y, .int .i64 Z, .slice (some ⟨g3, 0, none⟩) m c3]) := hidE (Blk.alloc BN.out _)
      have PB0 : Hid (Blk ((wr.alloc (.cells #[.int .i64 K1, .string X1, .int .i64 Z1, .slice A1 n1 q1] 25)).drew) wr.heap.size 25 #[.int .i64 K1, .string X1, .int .i64 Z1, .slice A1 n1 q1]) := hidE (heap_alloc_new wr _)
      have SOF : Hid (∀ W : World, Blk W w.heap.size 25 #[.int .i64 k, .string Y, .int .i64 Z, .slice (some ⟨g3, 0, none⟩) m c3] → Blk W wr.heap.size 25 #[.int .i64 K1, .string X1, .int .i64 Z1, .slice A1 n1 q1] →
        W.cell? ⟨w.heap.size, 3, none⟩ = some (.slice (some ⟨g3, 0, none⟩) m c3) ∧ W.cell? ⟨wr.heap.size, 0, none⟩ = some (.int .i64 K1) ∧ W.cell? ⟨wr.heap.size, 1, none⟩ = some (.string X1) ∧ W.cell? ⟨wr.heap.size, 2, none⟩ = some (.int .i64 Z1) ∧ W.cell? ⟨wr.heap.size, 3, none⟩ = some (.slice A1 n1 q1)) :=
        hidE fun W h1 h2 => ⟨h1.cell 3, h2.cell 0, h2.cell 1, h2.cell 2, h2.cell 3⟩
      have HST := hidE hst
      have hgl := hst.lt
      have hneN : w.heap.size ≠ g3 := by omega
      have hneP : wr.heap.size ≠ g3 := by omega
      clear hst hrd hnu hcall hu hK1 hX1 hZ1 hn1 htk hsn hfn harg
      go_wp2_with fail
      go_region_held3 (fun W => W.cell? ⟨w.heap.size, 3, none⟩ = some (.slice (some ⟨g3, 0, none⟩) m c3) ∧ W.cell? ⟨wr.heap.size, 0, none⟩ = some (.int .i64 K1) ∧ W.cell? ⟨wr.heap.size, 1, none⟩ = some (.string X1) ∧ W.cell? ⟨wr.heap.size, 2, none⟩ = some (.int .i64 Z1) ∧ W.cell? ⟨wr.heap.size, 3, none⟩ = some (.slice A1 n1 q1)) (first | (with_reducible exact SOF.out _ NB0.out PB0.out) | (with_reducible exact SOF.out _ NB1.out PB1.out) | (with_reducible exact SOF.out _ (blk_farO NB1.out hneN) (blk_farO PB1.out hneP)))
        (((with_reducible refine HCALL.out.mono ?_); rintro e w5 ⟨k', x', z', a', m', p', rfl, hr5, hi5, hm5, c5⟩; have hn5 : ∀ q, w.heap.size ≤ q → q ≤ wr.heap.size → w5.heap[q]? = (wr.alloc (.cells #[.int .i64 K1, .string X1, .int .i64 Z1, .slice A1 n1 q1] 25)).heap[q]? := (fun q h1 h2 => c5.block q (by show q < (wr.alloc _).heap.size; rw [size_alloc]; omega) (fun h => by rcases h with h | h; (have := HLT.out q (hMK q h); omega); omega)); have NB1 := hidE (NB0.out.same (hn5 _ (Nat.le_refl _) (by omega))); have PB1 := hidE (PB0.out.same (hn5 _ (by omega) (Nat.le_refl _))); have hs5 : wr.heap.size + 1 ≤ w5.heap.size := (by have := c5.size; rw [show ((wr.alloc (.cells #[.int .i64 K1, .string X1, .int .i64 Z1, .slice A1 n1 q1] 25)).drew).heap.size = wr.heap.size + 1 from size_alloc _ _] at this; exact this); have st5 := HST.out.keep (R' := fun k => Su k ∨ (w3.heap.size ≤ k ∧ k < w5.heap.size)) (w' := w5) (fun q hq => (by rcases hq with hq | hq; exact .inl hq; exact .inr ⟨hq.1, by omega⟩)) (fun q hq => (c5.block q (by show q < (wr.alloc _).heap.size; rw [size_alloc]; rcases hq with (hq | hq) | hq | hq; (have := HLT.out q (hSu q hq).1; omega); omega; (have := (HS.out q hq).1; omega); omega) (by rcases hq with (hq | hq) | hq | hq; (exact fun h => by rcases h with h | h; exact (hSu q hq).2 h; exact hmb (by rw [← h]; exact (hSu q hq).1)); (exact fun h => by rcases h with h | h; (have := HLT.out q (hMK q h); omega); omega); (exact fun h => by rcases h with h | h; exact (HS.out q hq).2.1 h; exact (HS.out q hq).2.2 h); (exact fun h => by rcases h with h | h; (have := HLT.out q (hMK q h); omega); omega))).trans (Below.heap_alloc wr _ q (by rcases hq with (hq | hq) | hq | hq; (have := HLT.out q (hSu q hq).1; omega); omega; (have := (HS.out q hq).1; omega); omega))) (by omega); obtain ⟨A5, q5, ⟨y0, y1, y2, y3⟩, -⟩ := st5.old i hil (Nat.le_refl _); have f0 := st5.free (i * 4); have f1 := st5.free (i * 4 + 1); have f2 := st5.free (i * 4 + 2); have f3 := st5.free (i * 4 + 3); have ST5 := hidE st5; have HR5 := hidE hr5; have HI5 := hidE hi5; have HM5 := hidE hm5; have C5 := hidE c5; clear st5 hr5 hi5 hm5 c5 hn5))
      all_goals
        go_wp2_with fail
        have hput := RowSt.put ST5.out hil (by rw [chgL_len, List.length_take]; omega) (HR5.out.keep (S' := fun k => Su k ∨ (w3.heap.size ≤ k ∧ k < w5.heap.size)) (fun q hq => by rcases hq with hq | hq; exact .inl hq; exact .inr ⟨by have h1 := hq.1; have h2 : ((wr.alloc (.cells #[.int .i64 K1, .string X1, .int .i64 Z1, .slice A1 n1 q1] 25)).drew).heap.size = wr.heap.size + 1 := size_alloc _ _; omega, hq.2⟩) (fun q _ => rfl)) (fun h => by rcases h with h | h; (have := HLT.out _ (hSu _ h).1; omega); omega) (fun h => by have := (HS.out _ h).1; omega)
        have HPUT := hidE hput
        clear hput
        go_roundg (m - (i + 1))
        case measure => omega
        case rel =>
          have hfin : HeadChg mb I M Su S bind leaf ev (kids t) (c + 1) s1 w3.heap.size g3 m (w3.setCell ⟨w.heap.size, 3, none⟩ (.slice (some ⟨g3, 0, none⟩) m c3)) (m - (i + 1)) (.int .i64 ((i + 1 : Nat) : Int)) (setO w5 g3 (i * 4) (.int .i64 k') (.string x') (.int .i64 z') (.slice a' m' p')) := by
            refine ⟨i + 1, rfl, rfl, by omega, ?_, ?_, fun _ => ?_, ?_⟩
            · rw [HTK.out, chgL_snoc, ← HTK.out, HSN.out]
              have := hI.keep _ _ _ (setO w5 g3 (i * 4) (.int .i64 k') (.string x') (.int .i64 z') (.slice a' m' p')) HI5.out (by rw [setO_size]; exact Nat.le_refl _) (fun q hq => setO_heap _ _ _ _ _ _ _ _ (by have := HLT.out q hq; omega))
              rw [Nat.add_assoc] at this
              exact this
            · exact HM5.out.keep (setO_heap _ _ _ _ _ _ _ _ (by omega))
            · rw [HTK.out, chgL_snoc]
              exact HPUT.out.keep (fun q hq => by rw [setO_size]; exact hq) (fun _ _ => rfl) (Nat.le_refl _)
            · have h1 : Chg (fun k => M k ∨ k = mb ∨ k = g3) (w3.setCell ⟨w.heap.size, 3, none⟩ (.slice (some ⟨g3, 0, none⟩) m c3)) w5 := ((C1.out.alloc _).drew).trans' C5.out (fun q _ h => by
                rcases h with h | h
                · exact .inl h
                · exact .inr (.inl h))
              exact h1.setO _ _ _ _ _ (.inr (.inr (.inr rfl)))
          refine cast (congrArg (fun v => HeadChg mb I M Su S bind leaf ev (kids t) (c + 1) s1 w3.heap.size g3 m _ (m - (i + 1)) v _) ?_) hfin
          go_num
    · have him : i = m := by omega
      subst him
      have hend : (kids t).take i = kids t := List.take_of_length_le (by rw [HKM.out]; exact Nat.le_refl _)
      have hi1 := I1.out
      have hrw1 := HRW.out
      rw [hend, ← HR5.out] at hi1
      rw [hend, ← HR4.out] at hrw1
      have HI1 := hidE hi1
      have HRW1 := hidE hrw1
      obtain ⟨p0, p1, p2, p3, s0, s1', s2, s3, -⟩ := blk_facts4 BN.out
      obtain ⟨q0, q1, q2, q3, t0, t1, t2, t3, -⟩ := blk_facts4 BR.out
      clear hi1 hrw1 hend
      go_wp2_with fail
      have hb := blk_set4 (.int .i64 k) (.string Y) (.int .i64 Z) (.slice A3 i c3) BR.out
      have hf : ∀ g, g ≠ w.heap.size + 1 → ((((wr.setCell ⟨w.heap.size + 1, 0, none⟩ (.int .i64 k)).setCell ⟨w.heap.size + 1, 1, none⟩ (.string Y)).setCell ⟨w.heap.size + 1, 2, none⟩ (.int .i64 Z)).setCell ⟨w.heap.size + 1, 3, none⟩ (.slice A3 i c3)).heap[g]? = wr.heap[g]? := fun g hg => heap_set4 _ _ _ _ _ _ _ hg
      have hsz : ((((wr.setCell ⟨w.heap.size + 1, 0, none⟩ (.int .i64 k)).setCell ⟨w.heap.size + 1, 1, none⟩ (.string Y)).setCell ⟨w.heap.size + 1, 2, none⟩ (.int .i64 Z)).setCell ⟨w.heap.size + 1, 3, none⟩ (.slice A3 i c3)).heap.size = wr.heap.size := by simp
      have hcanon := HM.out.canon
      have hmpw := MP1.out.keep (hf mb (by omega))
      rw [← HEV.out] at hmpw
      have hcovw := hcov4.out.keep (w' := ((((wr.setCell ⟨w.heap.size + 1, 0, none⟩ (.int .i64 k)).setCell ⟨w.heap.size + 1, 1, none⟩ (.string Y)).setCell ⟨w.heap.size + 1, 2, none⟩ (.int .i64 Z)).setCell ⟨w.heap.size + 1, 3, none⟩ (.slice A3 i c3))) (fun q h1 h2 => (hf q (by omega)).trans (C1.out.block q (by rw [HS4.out]; omega) (fun h => by
        rcases h with h | h | h
        · have := HLT.out q (hMK q h); omega
        · omega
        · omega)))
      refine leaves_cons (f := 148) (args := #[.pointer (some ⟨w4.heap.size + 4, 0, none⟩), .pointer (some ⟨w4.heap.size + 3, 0, none⟩), .pointer (some ⟨w4.heap.size, 0, none⟩), .pointer (some ⟨w4.heap.size + 1, 0, none⟩)]) (by simp) (by simp [go_sem]) ?_
      refine (tc_uncoverT w4.heap.size mb env X y .returning _ hcovw hmpw hcanon HXm.out HEL.out).mono ?_
      rintro e u' wf ⟨rfl, rfl, mf, bf⟩
      have hbf := hb.chg bf (by unfold only; omega)
      have hff : ∀ q, q ≠ w.heap.size + 1 → q ≠ mb → q < wr.heap.size → wf.heap[q]? = wr.heap[q]? := fun q h1 h2 h3 => (bf.block q (by rw [hsz]; exact h3) h2).trans (hf q h1)
      have hszf : wr.heap.size ≤ wf.heap.size := by have := bf.size; rw [hsz] at this; exact this
      refine ⟨_, results_cell_row rfl _ _ (w.heap.size + 1) 25 _ (0, 0) _ rfl hbf Tryz.underlying25 rfl (by kernel_rfl), k, Y, Z, A3, i, c3, rfl, ⟨A3, c3, ?_, ?_⟩, ?_, mf, ?_⟩
      · rw [HR1.out, HR2.out, HR3.out, HR4.out, chgL_len, HKM.out, ← HK.out, ← HZ.out]
      · refine (kids_row _ _ _ _).2 fun hne => ?_
        have h0 : 0 < i := by
          refine Nat.pos_of_ne_zero fun e => hne ?_
          rw [HR4.out]
          refine List.eq_nil_of_length_eq_zero ?_
          rw [chgL_len, HKM.out, e]
        obtain ⟨hA, h4⟩ := hst4.out h0
        have hl4 := h4.lt
        rw [HS4.out] at hl4
        have hrow := HRW1.out h0
        refine ⟨g3, hA, .inr ⟨by omega, by omega⟩, RowT.keep (fun q hq => by rcases hq with hq | hq; exact .inl hq; exact .inr ⟨by omega, by omega⟩) (fun q hq => by
          rcases hq with hq | hq
          · have h1 := HLT.out q (hSu q hq).1
            exact hff q (by omega) (fun e => hmb (by rw [← e]; exact (hSu q hq).1)) (by omega)
          · exact hff q (by omega) (by omega) hq.2) _ _ _ (hff g3 (by omega) (by omega) (by omega)) hrow.new⟩
      · refine hI.mono _ _ _ _ (hI.keep _ _ _ _ HI1.out hszf (fun q hq => hff q (by have := HLT.out q hq; omega) (fun e => hmb (by rw [← e]; exact hq)) (by have := HLT.out q hq; omega))) (by omega)
      · have h1 : Chg (fun k => M k ∨ k = mb) w wr := HCH4.out.trans' C1.out (fun q hq h => by
          rcases h with h | h | h
          · exact .inl h
          · exact .inr h
          · omega)
        exact (h1.set4 (.int .i64 k) (.string Y) (.int .i64 Z) (.slice A3 i c3) (Nat.le_succ _)).trans' bf (fun q _ h => .inr h)

end Go.Proofs.YthgkpmgcikopnaaGreatDoor

/-
  Package types: changing whatever type.
-/
namespace Go.Proofs.YthgkpmgcikopnaaGreatDoor
open Go.RowKit Lx Tx Go.Maps Go.WideMaps Go.Shelf
set_option maxRecDepth 100000

mutual
theorem fas_size : (t : Ty) → t.fas ≤ t.size
  | .var x => by rw [Ty.fas]; exact Nat.zero_le _
  | .mt n => by rw [Ty.fas]; exact Nat.zero_le _
  | .con c l => by rw [Ty.fas, size_kids]; have := fasL_size l; show fasL l ≤ sizeL l + 1; omega
  | .fn a b => by rw [Ty.fas, size_kids]; have := fas_size a; have := fas_size b; simp [kids, sizeL]; omega
  | .all x t => by rw [Ty.fas, size_kids]; have := fas_size t; simp [kids, sizeL]; omega
theorem fasL_size : (l : List Ty) → fasL l ≤ sizeL l
  | [] => by rw [fasL]; exact Nat.zero_le _
  | t :: r => by rw [fasL, sizeL]; have := fas_size t; have := fasL_size r; omega
end

theorem chg_ok {σ : Type} (kb kl : Nat) (cb cl : Array Value) (mb : Nat) (I : Nat → σ → World → Prop) (K M Su : Nat → Prop) (bind : Name → σ → Name × σ) (leaf : Ty → Ty) (hI : InvC I K) (hMK : ∀ g, M g → K g) (hSu : ∀ g, Su g → K g ∧ ¬ M g) (hmb : ¬ K mb)
    (eb : ∀ args w, (callFunc kb args).run Tryz.prog w = .ok (.enter kb args) w) (el : ∀ args w, (callFunc kl args).run Tryz.prog w = .ok (.enter kl args) w) (HB : BindOK kb cb I M bind) (HL : LeafOK kl cl I M Su leaf) (n : Nat) :
    ChgOK n kb kl cb cl mb I M Su bind leaf := by
  induction n with
  | zero => intro c s env t S v w hn; rw [size_kids] at hn; omega
  | succ n ih =>
    intro c s env t S v w hn h6 hi hm hv hS hnm hc hlen
    cases t with
    | var x => exact tc_chgVar kb kl cb cl mb I K M Su bind leaf hI hMK (fun g hg => (hSu g hg).1) hmb el HL c s env x S v w hi hm hv (fun g hg => (hS g hg).1) hnm
    | mt x => exact tc_chgMt kb kl cb cl mb I K M Su bind leaf hI hMK (fun g hg => (hSu g hg).1) hmb el HL c s env x S v w hi hm hv (fun g hg => (hS g hg).1) hnm
    | con d l => exact tc_chgApp n kb kl cb cl mb I K M Su bind leaf hI hMK hSu hmb ih c s env _ S v w (.inl rfl) hn (by omega) hi hm hv hS hnm hc hlen
    | fn a b => exact tc_chgApp n kb kl cb cl mb I K M Su bind leaf hI hMK hSu hmb ih c s env _ S v w (.inr rfl) hn (by omega) hi hm hv hS hnm hc hlen
    | all x t => exact tc_chgAll n kb kl cb cl mb I K M Su bind leaf hI hMK hSu hmb eb HB ih c s env _ S v w rfl hn (by omega) hi hm hv hS hnm hc hlen

/-- what changing a whole type leaves -/
def DPst {σ : Type} (I : Nat → σ → World → Prop) (M Su : Nat → Prop) (c : Nat) (p : Ty × σ) (w : World) (e : Ending) (w' : World) : Prop :=
  ∃ k x z a m q, e = .returned (.agg #[.int .i64 k, .string x, .int .i64 z, .slice a m q]) ∧ RdV (fun g => Su g ∨ (w.heap.size ≤ g ∧ g < w'.heap.size)) w' p.1 (.agg #[.int .i64 k, .string x, .int .i64 z, .slice a m q]) ∧ I c p.2 w' ∧ Chg M w w'

set_option maxHeartbeats 1600000 in
theorem tc_changed {σ : Type} (kb kl : Nat) (cb cl : Array Value) (I : Nat → σ → World → Prop) (K M Su : Nat → Prop) (bind : Name → σ → Name × σ) (leaf : Ty → Ty) (hI : InvC I K) (hMK : ∀ g, M g → K g) (hSu : ∀ g, Su g → K g ∧ ¬ M g)
    (eb : ∀ args w, (callFunc kb args).run Tryz.prog w = .ok (.enter kb args) w) (el : ∀ args w, (callFunc kl args).run Tryz.prog w = .ok (.enter kl args) w) (HB : BindOK kb cb I M bind) (HL : LeafOK kl cl I M Su leaf)
    (c : Nat) (s : σ) (t : Ty) (S : Nat → Prop) (v : Value) (w : World) (hi : I c s w) (hv : RdV S w t v) (hS : ∀ g, S g → g < w.heap.size ∧ ¬ M g) (hnm : Nm t) (hsz : t.size ≤ 1000000) (hc : c + t.fas ≤ 10000000) :
    Calls Tryz.prog 49 #[v, fnV kb cb, fnV kl cl] w (DPst I M Su (c + t.fas) (chg bind leaf [] t s) w) := by
  obtain ⟨k, X, Z, A, m, cp, rfl, -, -, -, -, -⟩ := hv.parts
  have hmm : ∀ w, (Instr.makeMap 95 none).run Tryz.prog w = .ok (.map (some w.heap.size)) (w.alloc (.map #[] 0)) := fun _ => rfl
  obtain ⟨l0, l1, l2, ls, lb⟩ := laid3 w (.cells #[.int .i64 k, .string X, .int .i64 Z, .slice A m cp] 25) (.cells #[.int .i64 0, .string ⟨#[]⟩, .int .i64 0, .slice none 0 0] 25) (.map #[] 0)
  have hlt := hI.lt c s w hi
  have hcall := chg_ok kb kl cb cl (w.heap.size + 1 + 1) I K M Su bind leaf hI hMK hSu (fun h => by have := hlt _ h; omega) eb el HB HL t.size c s [] t S _ _ (Nat.le_refl _) hsz (hI.keep _ _ _ _ hi lb.size (fun g hg => lb.block g (hlt g hg))) (MapE.laid mkTy l2)
    (hv.keep (fun _ h => h) (fun g hg => lb.block g (hS g hg).1)) (fun g hg => ⟨by have := (hS g hg).1; omega, (hS g hg).2, by have := (hS g hg).1; omega⟩) hnm hc (by simp; omega)
  unfold fnV at hcall
  have HCALL := hidE hcall
  have L1 := hidE l1
  have LS := hidE ls
  have LB := hidE lb
  have HLT := hidE hlt
  clear hi hv hS hnm l0 l1 l2 ls lb hlt hcall
  unfold fnV
  go_enter Tryz.func49, Tryz.ntmps49
  go_wp2_with fail
  refine HCALL.out.mono ?_
  rintro e w1 ⟨k', x', z', a', m', p', rfl, hr, hi1, -, c1⟩
  have hs1 := c1.size
  rw [LS.out] at hs1
  have hb1 := Blk.chg L1.out c1 (fun h => by
    rcases h with h | h
    · have := HLT.out _ (hMK _ h); omega
    · omega)
  obtain ⟨q0, q1, q2, q3, t0, t1, t2, t3, hlx⟩ := blk_facts4 hb1
  have HR := hidE hr
  have HI1 := hidE hi1
  have C1 := hidE c1
  have HB1 := hidE hb1
  clear hr hi1 c1 hb1 HCALL
  go_wp2_with fail
  have hb := blk_set4 (.int .i64 k') (.string x') (.int .i64 z') (.slice a' m' p') HB1.out
  have hf : ∀ g, g ≠ w.heap.size + 1 → ((((w1.setCell ⟨w.heap.size + 1, 0, none⟩ (.int .i64 k')).setCell ⟨w.heap.size + 1, 1, none⟩ (.string x')).setCell ⟨w.heap.size + 1, 2, none⟩ (.int .i64 z')).setCell ⟨w.heap.size + 1, 3, none⟩ (.slice a' m' p')).heap[g]? = w1.heap[g]? := fun g hg => heap_set4 _ _ _ _ _ _ _ hg
  have hsz2 : ((((w1.setCell ⟨w.heap.size + 1, 0, none⟩ (.int .i64 k')).setCell ⟨w.heap.size + 1, 1, none⟩ (.string x')).setCell ⟨w.heap.size + 1, 2, none⟩ (.int .i64 z')).setCell ⟨w.heap.size + 1, 3, none⟩ (.slice a' m' p')).heap.size = w1.heap.size := by simp
  refine bodyPost_ret (results_cell_row rfl _ _ (w.heap.size + 1) 25 _ (0, 0) _ rfl hb Tryz.underlying25 rfl (by kernel_rfl)) rfl ⟨k', x', z', a', m', p', rfl, ?_, ?_, ?_⟩
  · refine HR.out.keep (fun q hq => ?_) (fun q hq => hf q ?_)
    · rcases hq with hq | ⟨h1, h2⟩
      · exact .inl hq
      · exact .inr ⟨by have := LS.out; omega, by rw [hsz2]; exact h2⟩
    · rcases hq with hq | ⟨h1, h2⟩
      · have := HLT.out q (hSu q hq).1; omega
      · have := LS.out; omega
  · exact hI.keep _ _ _ _ HI1.out (Nat.le_of_eq hsz2.symm) (fun q hq => hf q (by have := HLT.out q hq; omega))
  · refine Chg.set4 ((Chg.of_below LB.out).trans' C1.out (fun q hq h => ?_)) _ _ _ _ (Nat.le_succ _)
    rcases h with h | h
    · exact h
    · omega

end Go.Proofs.YthgkpmgcikopnaaGreatDoor

/-
  Package types: what the free names and the canonical names come to.
-/
namespace Go.Proofs.YthgkpmgcikopnaaGreatDoor
open Go.RowKit Lx Tx Go.Maps Go.WideMaps Go.Shelf
set_option maxRecDepth 100000

section
variable {σ : Type}
theorem at_var (g : Ty → σ → σ) (env : List Name) (x : Name) (s : σ) : atLeaf g env (.var x) s = if x ∈ env then s else g (.var x) s := by
  show (if decide (x ∉ env) = true then g (.var x) s else s) = _
  by_cases h : x ∈ env
  · rw [if_pos h, if_neg (by simpa using h)]
  · rw [if_neg h, if_pos (by simpa using h)]
theorem at_mt (g : Ty → σ → σ) (env : List Name) (n : Nat) (s : σ) : atLeaf g env (.mt n) s = g (.mt n) s := rfl
theorem at_con (g : Ty → σ → σ) (env : List Name) (c : Name) (l : List Ty) (s : σ) : atLeaf g env (.con c l) s = s := rfl
theorem at_fn (g : Ty → σ → σ) (env : List Name) (a b : Ty) (s : σ) : atLeaf g env (.fn a b) s = s := rfl
theorem at_all (g : Ty → σ → σ) (env : List Name) (x : Name) (t : Ty) (s : σ) : atLeaf g env (.all x t) s = s := rfl
end
mutual
theorem thr_free : (t : Ty) → ∀ (env bound : List Name) s, (∀ x, x ∈ bound ↔ x ∈ env) → thr (atLeaf noteVar) (fun _ _ s => s) env t s = t.freeO bound s
  | .var x, env, bound, s, h => by
    rw [thr, Ty.freeO, at_var]
    by_cases hx : x ∈ env
    · rw [if_pos hx, if_pos ((h x).2 hx)]
    · rw [if_neg hx, if_neg (fun e => hx ((h x).1 e))]; rfl
  | .mt n, env, bound, s, h => by rw [thr, Ty.freeO, at_mt]; rfl
  | .con c l, env, bound, s, h => by rw [thr, Ty.freeO, at_con]; exact thrL_free l env bound s h
  | .fn a b, env, bound, s, h => by rw [thr, Ty.freeO, at_fn, thr_free a env bound s h]; exact thr_free b env bound _ h
  | .all x t, env, bound, s, h => by
    rw [thr, Ty.freeO, at_all]
    exact thr_free t (x :: env) (bound ++ [x]) s (fun y => by rw [List.mem_append, List.mem_singleton, List.mem_cons, h y, or_comm])
theorem thrL_free : (l : List Ty) → ∀ (env bound : List Name) s, (∀ x, x ∈ bound ↔ x ∈ env) → thrL (atLeaf noteVar) (fun _ _ s => s) env l s = freeOL bound l s
  | [], env, bound, s, h => by rw [thrL, freeOL]
  | t :: r, env, bound, s, h => by rw [thrL, freeOL, thr_free t env bound s h, thrL_free r env bound _ h]
end
theorem freeL_eq (t : Ty) : freeL t = t.free := thr_free t [] [] [] (fun _ => Iff.rfl)

mutual
theorem thr_metas : (t : Ty) → ∀ (env : List Name) s, thr (atLeaf noteMt) (fun _ _ s => s) env t s = t.metasO s
  | .var x, env, s => by
    rw [thr, Ty.metasO, at_var]
    split <;> rfl
  | .mt n, env, s => by rw [thr, Ty.metasO, at_mt]; rfl
  | .con c l, env, s => by rw [thr, Ty.metasO, at_con]; exact thrL_metas l env s
  | .fn a b, env, s => by rw [thr, Ty.metasO, at_fn, thr_metas a env s]; exact thr_metas b env _
  | .all x t, env, s => by rw [thr, Ty.metasO, at_all]; exact thr_metas t (x :: env) s
theorem thrL_metas : (l : List Ty) → ∀ (env : List Name) s, thrL (atLeaf noteMt) (fun _ _ s => s) env l s = metasOL l s
  | [], env, s => by rw [thrL, metasOL]
  | t :: r, env, s => by rw [thrL, metasOL, thr_metas t env s, thrL_metas r env]
end
theorem metasL_eq (t : Ty) : metasL t = t.metas := thr_metas t [] []

section
variable {σ : Type}
mutual
theorem thr_inv (P : σ → Prop) (fc fl : List Name → Ty → σ → σ) (hc : ∀ env u s, Nm u → P s → P (fc env u s)) (hl : ∀ env u s, Nm u → P s → P (fl env u s)) : (t : Ty) → ∀ env s, Nm t → P s → P (thr fc fl env t s)
  | .var x, env, s, hn, h => by rw [thr]; exact hl _ _ _ hn (hc _ _ _ hn h)
  | .mt n, env, s, hn, h => by rw [thr]; exact hl _ _ _ hn (hc _ _ _ hn h)
  | .con c l, env, s, hn, h => by
    rw [thr]
    have hk : ∀ t ∈ l, Nm t := by cases hn; assumption
    exact hl _ _ _ hn (thrL_inv P fc fl hc hl l env _ hk (hc _ _ _ hn h))
  | .fn a b, env, s, hn, h => by
    rw [thr]
    have hk : Nm a ∧ Nm b := by cases hn; exact ⟨by assumption, by assumption⟩
    exact hl _ _ _ hn (thr_inv P fc fl hc hl b env _ hk.2 (thr_inv P fc fl hc hl a env _ hk.1 (hc _ _ _ hn h)))
  | .all x t, env, s, hn, h => by
    rw [thr]
    have hk : Nm t := by cases hn; assumption
    exact hl _ _ _ hn (thr_inv P fc fl hc hl t _ _ hk (hc _ _ _ hn h))
theorem thrL_inv (P : σ → Prop) (fc fl : List Name → Ty → σ → σ) (hc : ∀ env u s, Nm u → P s → P (fc env u s)) (hl : ∀ env u s, Nm u → P s → P (fl env u s)) : (l : List Ty) → ∀ env s, (∀ t ∈ l, Nm t) → P s → P (thrL fc fl env l s)
  | [], env, s, _, h => by rw [thrL]; exact h
  | t :: r, env, s, hn, h => by
    rw [thrL]
    exact thrL_inv P fc fl hc hl r env _ (fun u hu => hn u (List.mem_cons_of_mem _ hu)) (thr_inv P fc fl hc hl t env s (hn t List.mem_cons_self) h)
end
end
theorem mem_addN (x y : Name) (l : List Name) : y ∈ addN x l ↔ y = x ∨ y ∈ l := addN_mem x y l
/-- all names are short -/
def Short (s : List Name) : Prop := ∀ x ∈ s, x.length ≤ 24
theorem short_note {t : Ty} {s : List Name} (h : Nm t) (hs : Short s) : Short (addN (nmB t).data.toList s) := fun y hy => by
  rcases (mem_addN _ _ _).1 hy with rfl | hy
  · have := nm_len h
    exact this
  · exact hs y hy
theorem short_var {t : Ty} {s : List Name} (h : Nm t) (hs : Short s) : Short (noteVar t s) := by
  rcases noteVar_ways t s with ⟨_, e⟩ | ⟨_, e⟩ <;> rw [e]
  · exact short_note h hs
  · exact hs
theorem short_name {t : Ty} {s : List Name} (h : Nm t) (hs : Short s) : Short (noteName t s) := by
  rcases noteName_ways t s with ⟨_, e⟩ | ⟨_, _, e⟩ | ⟨_, _, e⟩ <;> rw [e]
  · exact short_note h hs
  · exact short_note h hs
  · exact hs
theorem short_freeL (t : Ty) (h : Nm t) : Short (freeL t) :=
  thr_inv Short _ _ (fun env u s hu hs => by unfold atLeaf; split; exact short_var hu hs; exact hs) (fun _ _ _ _ hs => hs) t [] [] h (fun _ hx => (List.not_mem_nil hx).elim)
theorem short_namesL (t : Ty) (h : Nm t) : Short (namesL t) :=
  thr_inv Short _ _ (fun _ _ _ hu hs => short_name hu hs) (fun _ _ _ _ hs => hs) t [] [] h (fun _ hx => (List.not_mem_nil hx).elim)

/-- a new name, and the number behind it -/
def bindN (but : List Name) (_ : Name) (k : Nat) : Name × Nat := (nm 120 (nextK 120 but k), nextK 120 but k + 1)
mutual
theorem chg_numb (but : List Name) : (t : Ty) → ∀ (env : List (Name × Name)) (xs ys : List Name) (k : Nat), (∀ x, look x env = (idx x xs).map fun i => ys.getD i []) → chg (bindN but) id env t k = numb 120 but xs ys t k
  | .var x, env, xs, ys, k, h => by
    rw [chg, numb, h]
    cases idx x xs <;> rfl
  | .mt n, env, xs, ys, k, h => by rw [chg, numb]; rfl
  | .con c l, env, xs, ys, k, h => by rw [chg, numb, chgL_numb but l env xs ys k h]
  | .fn a b, env, xs, ys, k, h => by rw [chg, numb, chg_numb but a env xs ys k h, chg_numb but b env xs ys _ h]
  | .all x t, env, xs, ys, k, h => by
    rw [chg, numb]
    have := chg_numb but t ((x, nm 120 (nextK 120 but k)) :: env) (x :: xs) (nm 120 (nextK 120 but k) :: ys) (nextK 120 but k + 1) (fun z => by
      rw [look, idx]
      by_cases hz : x = z
      · rw [if_pos hz, if_pos hz.symm]; rfl
      · rw [if_neg hz, if_neg (fun e => hz e.symm), h z]
        cases idx z xs <;> rfl)
    show (Ty.all (nm 120 (nextK 120 but k)) (chg (bindN but) id ((x, nm 120 (nextK 120 but k)) :: env) t (nextK 120 but k + 1)).1, (chg (bindN but) id ((x, nm 120 (nextK 120 but k)) :: env) t (nextK 120 but k + 1)).2) = _
    rw [this]
theorem chgL_numb (but : List Name) : (l : List Ty) → ∀ (env : List (Name × Name)) (xs ys : List Name) (k : Nat), (∀ x, look x env = (idx x xs).map fun i => ys.getD i []) → chgL (bindN but) id env l k = numbL 120 but xs ys l k
  | [], env, xs, ys, k, h => by rw [chgL, numbL]
  | t :: r, env, xs, ys, k, h => by rw [chgL, numbL, chg_numb but t env xs ys k h, chgL_numb but r env xs ys _ h]
end
theorem chg_canon (t : Ty) : (chg (bindN (freeL t)) id [] t 0).1 = t.canonT := by
  rw [chg_numb (freeL t) t [] [] [] 0 (fun _ => rfl), freeL_eq]
  rfl
theorem nm_canonT (t : Ty) (h : Nm t) (hs : t.size ≤ 1000000) : Nm t.canonT := by
  rw [canon_db]
  exact nm_canonD _ (nm_db [] t h) (clo_db [] t) (small_db t hs)

section
variable {σ : Type}
mutual
theorem chg_size (bind : Name → σ → Name × σ) : (t : Ty) → ∀ env s, (chg bind id env t s).1.size = t.size
  | .var x, env, s => by
    rw [chg]
    cases look x env <;> rfl
  | .mt n, env, s => by rw [chg]; rfl
  | .con c l, env, s => by rw [chg, Ty.size, Ty.size, chgL_size bind l]
  | .fn a b, env, s => by rw [chg, Ty.size, Ty.size, chg_size bind a, chg_size bind b]
  | .all x t, env, s => by rw [chg, Ty.size, Ty.size, chg_size bind t]
theorem chgL_size (bind : Name → σ → Name × σ) : (l : List Ty) → ∀ env s, sizeL (chgL bind id env l s).1 = sizeL l
  | [], env, s => by rw [chgL]
  | t :: r, env, s => by rw [chgL, sizeL, sizeL, chg_size bind t, chgL_size bind r]
end
end

theorem decF_len20 (f n : Nat) : (decF f n).length ≤ f := by
  induction f generalizing n with
  | zero => simp [decF]
  | succ f ih =>
    rw [decF]
    split
    · simp
    · have := ih (n / 10)
      simp
      exact this
mutual
theorem print_len : (t : Ty) → Nm t → t.print.length + 6 ≤ 40 * t.size ∧ (printA t).length ≤ 40 * t.size + 3
  | .var x, h => by
    have h1 : x.length ≤ 24 := nm_len h
    rw [printA_other _ (fun y u e => by cases e), Ty.print, Ty.size]
    simp
    omega
  | .mt n, h => by
    have h1 : (dec n).length ≤ 20 := decF_len20 20 n
    rw [printA_other _ (fun y u e => by cases e), Ty.print, Ty.size]
    simp
    omega
  | .con c l, h => by
    have h1 : c.length ≤ 24 := nm_len h
    have h2 := printL_len l (by cases h; assumption)
    rw [printA_other _ (fun y u e => by cases e), Ty.print, Ty.size]
    simp
    omega
  | .fn a b, h => by
    have hk : Nm a ∧ Nm b := by cases h; exact ⟨by assumption, by assumption⟩
    have h1 := (print_len a hk.1).1
    have h2 := (print_len b hk.2).1
    rw [printA_other _ (fun y u e => by cases e), Ty.print, Ty.size]
    cases a.isFA <;> simp <;> omega
  | .all x t, h => by
    have h1 : x.length ≤ 24 := nm_len h
    have h2 := (print_len t (by cases h; assumption)).2
    rw [printA_all, Ty.print, Ty.size]
    have hw : wForall.length = 6 := rfl
    simp only [List.length_append, List.length_cons, hw]
    omega
theorem printL_len : (l : List Ty) → (∀ t ∈ l, Nm t) → (printL l).length ≤ 40 * sizeL l
  | [], _ => by rw [printL]; simp
  | t :: r, h => by
    have h1 := (print_len t (h t List.mem_cons_self)).1
    have h2 := printL_len r (fun u hu => h u (List.mem_cons_of_mem _ hu))
    rw [printL, sizeL]
    cases t.big <;> simp <;> omega
end

end Go.Proofs.YthgkpmgcikopnaaGreatDoor

/-
  Package types: Canon.
-/
namespace Go.Proofs.YthgkpmgcikopnaaGreatDoor
open Go.RowKit Lx Tx Go.Maps Go.WideMaps Go.Shelf
set_option maxRecDepth 100000

/-- the closures of Canon -/
structure CanI (lb nb sb mb cb : Nat) (but : List Name) (c : Nat) (k : Nat) (w : World) : Prop where
  new : NewI 120 lb nb sb mb but k w
  cel : Blk w cb 34 #[newV lb nb sb]
  tab : Tab w
  len : k ≤ c * (but.length + 1)
def CanK (lb nb sb mb cb : Nat) (g : Nat) : Prop := g = nb ∨ g = sb ∨ g = mb ∨ g = cb ∨ g = lb ∨ g = 0
theorem CanI.inv (lb nb sb mb cb : Nat) (but : List Name) : InvC (CanI lb nb sb mb cb but) (CanK lb nb sb mb cb) where
  mono c c' s w h hc := { h with len := Nat.le_trans h.len (Nat.mul_le_mul_right _ hc) }
  lt c s w h g hg := by
    rcases hg with rfl | rfl | rfl | rfl | rfl | rfl
    · exact h.new.num.lt
    · exact h.new.cel.lt
    · exact h.new.set.lt
    · exact h.cel.lt
    · exact h.new.let_.lt
    · exact h.tab.lt
  keep c s w w' h _ hk :=
    { new := h.new.keep (hk _ (.inr (.inr (.inr (.inr (.inl rfl)))))) (hk _ (.inl rfl)) (hk _ (.inr (.inl rfl))) (hk _ (.inr (.inr (.inl rfl))))
      cel := h.cel.same (hk _ (.inr (.inr (.inr (.inl rfl)))))
      tab := h.tab.keep (hk _ (.inr (.inr (.inr (.inr (.inr rfl))))))
      len := h.len }

set_option maxHeartbeats 800000 in
theorem tc_canon1 (lb nb sb mb cb : Nat) (but : List Name) (h0 : nb ≠ lb) (h1 : nb ≠ sb) (h2 : nb ≠ mb) (h3 : nb ≠ 0) (h4 : nb ≠ cb) (hbut : but.length ≤ 10000000) :
    BindOK 48 #[.pointer (some ⟨cb, 0, none⟩)] (CanI lb nb sb mb cb but) (only nb) (bindN but) := by
  intro c k X w hi _ hc
  obtain ⟨hn, hcel, ht, hlen⟩ := hi
  have hm : c * (but.length + 1) ≤ 10000000 * 10000001 := Nat.mul_le_mul (by omega) (by omega)
  obtain ⟨_, hk1, hk2⟩ := nextK_spec 120 but k (by omega)
  have hnew := tc_new 120 lb nb sb mb but k w hn ht h0 h1 h2 h3 (by omega)
  obtain ⟨x0, -, l0⟩ := blk_facts1 hcel
  have ek : ∀ args w, (callFunc 83 args).run Tryz.prog w = .ok (.enter 83 args) w := enters_of Tryz.func83 (by kernel_rfl) rfl
  have HN := hidE hnew
  have HC := hidE hcel
  have HT := hidE ht
  have HL : Hid (nextK 120 but k + 1 ≤ (c + 1) * (but.length + 1)) := hidE (by rw [Nat.add_mul]; omega)
  clear hn hcel ht hlen hm hk1 hk2 hnew
  unfold newV at x0
  go_enter Tryz.func48, Tryz.ntmps48
  go_wp2_with fail
  refine HN.out.mono ?_
  rintro e w1 ⟨rfl, n1, c1⟩
  have HN1 := hidE n1
  have C1 := hidE c1
  clear n1 c1
  go_wp2_with fail
  go_ret
  exact ⟨rfl, ⟨HN1.out, HC.out.chg C1.out (fun h => h4 h.symm), HT.out.keep (C1.out.block _ HT.out.lt (fun h => h3 h.symm)), HL.out⟩, C1.out⟩

theorem leaf_any {S S' : Nat → Prop} {w w' : World} {t : Ty} {v : Value} (h : RdV S w t v) (hk : kd t = 1 ∨ kd t = 2) : RdV S' w' t v := by
  obtain ⟨A, c, hv, -⟩ := h
  refine ⟨A, c, hv, ?_⟩
  cases t with
  | var x => rw [Args]; trivial
  | mt n => rw [Args]; trivial
  | con c l => simp [kd] at hk
  | fn a b => simp [kd] at hk
  | all x t => simp [kd] at hk

set_option maxHeartbeats 800000 in
theorem tc_canon2 {σ : Type} (I : Nat → σ → World → Prop) (K M Su : Nat → Prop) (hI : InvC I K) : LeafOK 50 #[] I M Su id := by
  intro c s t S v w hi hv hS hk hnm
  obtain ⟨k, X, Z, A, m, cp, rfl, -, -, -, -, -⟩ := hv.parts
  obtain ⟨-, l1, ls, lb⟩ := laid2 w (.cells #[.int .i64 k, .string X, .int .i64 Z, .slice A m cp] 25) (.cells #[.int .i64 k, .string X, .int .i64 Z, .slice A m cp] 25)
  have HOUT : Hid (RdV Su ((w.alloc (.cells #[.int .i64 k, .string X, .int .i64 Z, .slice A m cp] 25)).alloc (.cells #[.int .i64 k, .string X, .int .i64 Z, .slice A m cp] 25)) (id t) (.agg #[.int .i64 k, .string X, .int .i64 Z, .slice A m cp])) := hidE (leaf_any hv hk)
  have HI := hidE (hI.keep _ _ _ _ hi lb.size (fun g hg => lb.block g (hI.lt _ _ _ hi g hg)))
  have L1 := hidE l1
  have LB := hidE lb
  clear hi hv hS hnm l1 ls lb
  go_enter Tryz.func50, Tryz.ntmps50
  go_wp2_with fail
  exact bodyPost_ret (results_cell_row rfl _ _ (w.heap.size + 1) 25 _ (0, 0) _ rfl L1.out Tryz.underlying25 rfl (by kernel_rfl)) rfl ⟨k, X, Z, A, m, cp, rfl, HOUT.out, HI.out, Chg.of_below LB.out⟩

set_option maxHeartbeats 1600000 in
theorem tc_canon (t : Ty) (S : Nat → Prop) (v : Value) (w : World) (hv : RdV S w t v) (hS : ∀ g, S g → g < w.heap.size) (hnm : Nm t) (hsz : t.size ≤ 1000000) (ht : Tab w) :
    Calls Tryz.prog 15 #[v] w fun e w' => e = .returned (.string ⟨t.canonT.print.toArray⟩) ∧ Below w.heap.size w w' := by
  obtain ⟨K, X, Z, A, m, cp, rfl, -, -, -, -, -⟩ := hv.parts
  have hmf : ∀ (fn : Fn) (first cap : Array Value) (w : World), (Instr.makeFunc fn first cap).run Tryz.prog w = .ok (.func fn first cap) w := fun _ _ _ _ => rfl
  have hal : Below w.heap.size w (w.alloc (.cells #[.int .i64 K, .string X, .int .i64 Z, .slice A m cp] 25)) := (Below.refl _ w).alloc (Nat.le_refl _) _
  have hfr := tc_free t S _ (w.alloc (.cells #[.int .i64 K, .string X, .int .i64 Z, .slice A m cp] 25)) (hv.keep (fun _ h => h) (fun g hg => hal.block g (hS g hg))) (fun g hg => by have := hS g hg; simp; omega) hnm hsz
  rw [size_alloc] at hfr
  have HFR := hidE hfr
  have HBX := hidE (heap_alloc_new w (.cells #[.int .i64 K, .string X, .int .i64 Z, .slice A m cp] 25))
  have HV := hidE hv
  have HS := hidE hS
  have HNM := hidE hnm
  have HT := hidE ht
  have HAL := hidE hal
  clear hv hS hnm ht hal hfr
  go_enter Tryz.func15, Tryz.ntmps15
  go_wp2_with fail
  refine HFR.out.mono ?_
  rintro e w1 ⟨A1, c1, rfl, hown, hl1, b1⟩
  have hs1 : w.heap.size + 1 ≤ w1.heap.size := Nat.le_trans (Nat.le_of_eq (size_alloc w _).symm) b1.size
  have HB1 := hidE (HAL.out.trans (b1.mono (Nat.le_succ _)))
  have HX1 := hidE (Blk.below HBX.out b1 (Nat.lt_succ_self _))
  have hrv := RowV.of_own hown
  obtain ⟨n, hn⟩ : ∃ n, (freeL t).length = n := ⟨_, rfl⟩
  have hst : Hid (Calls Tryz.prog 47 #[.slice (some ⟨w1.heap.size, 0, none⟩) 1 1] (w1.alloc (.cells #[.slice A1 n c1] 41)) fun e w' => e = .returned (.map (some (w1.heap.size + 1))) ∧ MapE mkSet w' (w1.heap.size + 1) (units (freeL t)) ∧ Below (w1.heap.size + 1) (w1.alloc (.cells #[.slice A1 n c1] 41)) w') := hidE (by
    have h := tc_set [freeL t] w1.heap.size 1 (w1.alloc (.cells #[.slice A1 n c1] 41)) (fun j hj => by
      have hj0 : j = 0 := by simp at hj; omega
      subst hj0
      refine ⟨A1, c1, ?_, ?_⟩
      · have := Blk.cell (heap_alloc_new w1 (.cells #[.slice A1 n c1] 41)) 0
        rw [← hn] at this ⊢
        exact this
      · exact hrv.below ((Below.refl _ w1).alloc (Nat.le_refl _) _)) (by simp) (by intro x hx; exact short_freeL t HNM.out x (by simpa using hx)) (by simpa using (by omega : (freeL t).length ≤ 10000000)) (by simp)
    simp only [List.flatten_cons, List.flatten_nil, List.append_nil, size_alloc] at h
    exact h)
  rw [hn]
  clear hown b1 hrv HFR
  go_wp2_with fail
  refine hst.out.mono ?_
  rintro e w2 ⟨rfl, hm2, b2⟩
  have hs2 := b2.size
  rw [size_alloc] at hs2
  have hb12 : Below w1.heap.size w1 w2 := ((Below.refl _ w1).alloc (Nat.le_refl _) _).trans (b2.mono (Nat.le_succ _))
  have HX2 := hidE (HX1.out.below hb12 (by omega))
  have HB2 := hidE (HB1.out.trans (hb12.mono (by omega)))
  have hnw := tc_newNames 120 ⟨#[120]⟩ rfl (w1.heap.size + 1) (freeL t) w2 hm2
  have HNW := hidE hnw
  clear hm2 b2 hb12 hnw hst
  go_wp2_with fail
  refine HNW.out.mono ?_
  rintro e w3 ⟨rfl, hn3, b3⟩
  have hs3 := b3.size
  have HX3 := hidE (HX2.out.below b3 (by omega))
  obtain ⟨p0, p1, p2, p3, u0, u1, u2, u3, hlx⟩ := blk_facts4 HX3.out
  have HN3 := hidE hn3
  have HB3 := hidE (HB2.out.trans (b3.mono (by omega)))
  clear hn3 b3 HNW
  unfold newV
  go_wp2_with fail
  have hbl : Below w3.heap.size w3 (w3.alloc (.cells #[newV w2.heap.size (w2.heap.size + 2) (w2.heap.size + 1)] 34)) := (Below.refl _ w3).alloc (Nat.le_refl _) _
  have hb4 : Below w.heap.size w (w3.alloc (.cells #[newV w2.heap.size (w2.heap.size + 2) (w2.heap.size + 1)] 34)) := HB3.out.alloc (by omega) _
  have htl := HT.out.lt
  have ht4 : Tab (w3.alloc (.cells #[newV w2.heap.size (w2.heap.size + 2) (w2.heap.size + 1)] 34)) := HT.out.below hb4
  have hnl := HN3.out.num.lt
  have hchg := tc_changed 48 50 #[.pointer (some ⟨w3.heap.size, 0, none⟩)] #[] (CanI w2.heap.size (w2.heap.size + 2) (w2.heap.size + 1) (w1.heap.size + 1) w3.heap.size (freeL t)) (CanK w2.heap.size (w2.heap.size + 2) (w2.heap.size + 1) (w1.heap.size + 1) w3.heap.size) (only (w2.heap.size + 2)) (fun _ => False) (bindN (freeL t)) id (CanI.inv _ _ _ _ _ _) (fun g hg => .inl hg) (fun _ h => h.elim)
    (enters_of Tryz.func48 (by kernel_rfl) rfl) (enters_of Tryz.func50 (by kernel_rfl) rfl)
    (tc_canon1 w2.heap.size (w2.heap.size + 2) (w2.heap.size + 1) (w1.heap.size + 1) w3.heap.size (freeL t) (by omega) (by omega) (by omega) (by omega) (by omega) (by omega)) (tc_canon2 _ _ _ _ (CanI.inv _ _ _ _ _ _))
    0 0 t S _ _ ⟨HN3.out.below hbl, heap_alloc_new w3 _, ht4, Nat.zero_le _⟩ (HV.out.keep (fun _ h => h) (fun g hg => hb4.block g (HS.out g hg))) (fun g hg => ⟨by have := HS.out g hg; have := hb4.size; omega, fun h => by have := HS.out g hg; have h : g = w2.heap.size + 2 := h; omega⟩) HNM.out hsz (by have := fas_size t; omega)
  unfold fnV newV at hchg
  refine hchg.mono ?_
  rintro e w5 ⟨k5, x5, z5, a5, m5, q5, rfl, hr5, hi5, cc5⟩
  rw [chg_canon] at hr5
  have hs5 := cc5.size
  have hB5 := hb4.trans (cc5.toBelow (B := w.heap.size) (by have := hb4.size; exact this) (fun q hq h => by have h : q = w2.heap.size + 2 := h; omega))
  have hp := tc_print t.canonT _ _ w5 (by rw [← chg_canon, chg_size]; exact hsz) (nm_canonT t HNM.out hsz) hr5 (fun g hg => by rcases hg with h | h; exact h.elim; exact h.2) hi5.tab (by
    have h1 := (print_len t.canonT (nm_canonT t HNM.out hsz)).1
    have h2 : t.canonT.size = t.size := by rw [← chg_canon, chg_size]
    omega)
  have HP := hidE hp
  have HB5 := hidE hB5
  clear hp hB5 hs5 hr5 hi5 cc5 hchg ht4 hb4 hbl
  go_wp2_with fail
  refine HP.out.mono ?_
  rintro e w6 ⟨rfl, b6⟩
  have HB6 := hidE (HB5.out.trans (b6.mono HB5.out.size))
  clear b6 HP
  go_wp2_with fail
  go_ret
  exact ⟨rfl, HB6.out⟩

end Go.Proofs.YthgkpmgcikopnaaGreatDoor

/-
  Package types: the closures of put.
-/
namespace Go.Proofs.YthgkpmgcikopnaaGreatDoor
open Go.RowKit Lx Tx Go.Maps Go.WideMaps Go.Shelf
set_option maxRecDepth 100000

/-- the name that a for all binds, and what is left: how many places stand within each for all to come, the number that is next -/
def bindP (free but : List Name) (x : Name) (s : List Nat × Nat) : Name × (List Nat × Nat) :=
  if x ∈ free ∧ 0 < s.1.headD 0 then (nm 120 (nextK 120 but s.2), (s.1.tail, nextK 120 but s.2 + 1)) else (x, (s.1.tail, s.2))

/-- the cell in block q holds what is left of a row of numbers in block rg -/
def LeftAt (w : World) (q rg : Nat) (l : List Nat) : Prop :=
  ∃ A c, Blk w q 68 #[.slice A l.length c] ∧ l.length ≤ c ∧ (0 < l.length → ∃ o, A = some ⟨rg, o, none⟩ ∧ ∀ (j : Nat) (hj : j < l.length), w.cell? ⟨rg, o + j, none⟩ = some (.int .i64 (l[j] : Nat)))
theorem LeftAt.keep {w w' : World} {q rg : Nat} {l : List Nat} (h : LeftAt w q rg l) (h1 : w'.heap[q]? = w.heap[q]?) (h2 : w'.heap[rg]? = w.heap[rg]?) : LeftAt w' q rg l := by
  obtain ⟨A, c, hb, hc, hp⟩ := h
  refine ⟨A, c, hb.same h1, hc, fun h0 => ?_⟩
  obtain ⟨o, hA, hcell⟩ := hp h0
  exact ⟨o, hA, fun j hj => (World.cell?_of_block (w := w) (a := ⟨rg, o + j, none⟩) h2).trans (hcell j hj)⟩

/-- which blocks put's closures have -/
structure PutB where
  lb : Nat
  nb : Nat
  sb : Nat
  mb : Nat
  pw : Nat
  rg : Nat
  pf : Nat
  mf : Nat
  pn : Nat
  bi : Nat
  bu : Nat

def PutB.K (b : PutB) (KJ Su : Nat → Prop) (g : Nat) : Prop :=
  g = b.lb ∨ g = b.nb ∨ g = b.sb ∨ g = b.mb ∨ g = b.pw ∨ g = b.rg ∨ g = b.pf ∨ g = b.mf ∨ g = b.pn ∨ g = b.bi ∨ g = b.bu ∨ g = 0 ∨ KJ g ∨ Su g
def PutB.M (b : PutB) (g : Nat) : Prop := g = b.nb ∨ g = b.pw

/-- what put's closures have -/
structure PutI (b : PutB) (kp : Nat) (cp : Array Value) (J : World → Prop) (KJ Su : Nat → Prop) (u : Ty) (uv : Array Value) (free but : List Name) (c : Nat) (s : List Nat × Nat) (w : World) : Prop where
  new : NewI 120 b.lb b.nb b.sb b.mb but s.2 w
  left : LeftAt w b.pw b.rg s.1
  rgl : b.rg < w.heap.size
  fc : Blk w b.pf 84 #[.map (some b.mf)]
  fs : MapE mkSet w b.mf (units free)
  nc : Blk w b.pn 34 #[newV b.lb b.nb b.sb]
  isp : Blk w b.bi 64 #[fnV kp cp]
  ub : Blk w b.bu 25 uv
  ur : RdV Su w u (.agg uv)
  jj : J w
  kj : ∀ g, KJ g → g < w.heap.size
  su : ∀ g, Su g → g < w.heap.size
  tab : Tab w
  len : s.2 ≤ c * (but.length + 1)
  full : 10000000 ≤ s.1.length + c

theorem PutI.inv (b : PutB) (kp : Nat) (cp : Array Value) (J : World → Prop) (KJ Su : Nat → Prop) (u : Ty) (uv : Array Value) (free but : List Name) (hJ : ∀ w w', J w → (∀ g, KJ g → w'.heap[g]? = w.heap[g]?) → J w') :
    InvC (PutI b kp cp J KJ Su u uv free but) (b.K KJ Su) where
  mono c c' s w h hc := { h with len := Nat.le_trans h.len (Nat.mul_le_mul_right _ hc), full := by have := h.full; omega }
  lt c s w h g hg := by
    rcases hg with rfl | rfl | rfl | rfl | rfl | rfl | rfl | rfl | rfl | rfl | rfl | rfl | hg | hg
    · exact h.new.let_.lt
    · exact h.new.num.lt
    · exact h.new.cel.lt
    · exact h.new.set.lt
    · obtain ⟨_, _, hb, _⟩ := h.left; exact hb.lt
    · exact h.rgl
    · exact h.fc.lt
    · exact h.fs.lt
    · exact h.nc.lt
    · exact h.isp.lt
    · exact h.ub.lt
    · exact h.tab.lt
    · exact h.kj g hg
    · exact h.su g hg
  keep c s w w' h hs hk := by
    have k : ∀ g, b.K KJ Su g → w'.heap[g]? = w.heap[g]? := hk
    unfold PutB.K at k
    exact
    { new := h.new.keep (k _ (by simp)) (k _ (by simp)) (k _ (by simp)) (k _ (by simp))
      left := h.left.keep (k _ (by simp)) (k _ (by simp))
      rgl := Nat.lt_of_lt_of_le h.rgl hs
      fc := h.fc.same (k _ (by simp))
      fs := h.fs.keep (k _ (by simp))
      nc := h.nc.same (k _ (by simp))
      isp := h.isp.same (k _ (by simp))
      ub := h.ub.same (k _ (by simp))
      ur := h.ur.keep (fun _ h => h) (fun g hg => k g (by simp [hg]))
      jj := hJ w w' h.jj (fun g hg => k g (by simp [hg]))
      kj := fun g hg => Nat.lt_of_lt_of_le (h.kj g hg) hs
      su := fun g hg => Nat.lt_of_lt_of_le (h.su g hg) hs
      tab := h.tab.keep (k _ (by simp))
      len := h.len
      full := h.full }

/-- all that put's closures have lies apart from what they change -/
structure PutB.Apart (b : PutB) (KJ Su : Nat → Prop) : Prop where
  nb : b.nb ≠ b.lb ∧ b.nb ≠ b.sb ∧ b.nb ≠ b.mb ∧ b.nb ≠ b.pw ∧ b.nb ≠ b.rg ∧ b.nb ≠ b.pf ∧ b.nb ≠ b.mf ∧ b.nb ≠ b.pn ∧ b.nb ≠ b.bi ∧ b.nb ≠ b.bu ∧ b.nb ≠ 0 ∧ ¬ KJ b.nb ∧ ¬ Su b.nb
  pw : b.pw ≠ b.lb ∧ b.pw ≠ b.sb ∧ b.pw ≠ b.mb ∧ b.pw ≠ b.nb ∧ b.pw ≠ b.rg ∧ b.pw ≠ b.pf ∧ b.pw ≠ b.mf ∧ b.pw ≠ b.pn ∧ b.pw ≠ b.bi ∧ b.pw ≠ b.bu ∧ b.pw ≠ 0 ∧ ¬ KJ b.pw ∧ ¬ Su b.pw

/-- the first number goes -/
theorem PutI.step {b : PutB} {kp : Nat} {cp : Array Value} {J : World → Prop} {KJ Su : Nat → Prop} {u : Ty} {uv : Array Value} {free but : List Name} {c p k : Nat} {l : List Nat} {w : World} {v : Value} (hJ : ∀ w w', J w → (∀ g, KJ g → w'.heap[g]? = w.heap[g]?) → J w') (ha : b.Apart KJ Su)
    (h : PutI b kp cp J KJ Su u uv free but c (p :: l, k) w) (hv : LeftAt (w.setCell ⟨b.pw, 0, none⟩ v) b.pw b.rg l) : PutI b kp cp J KJ Su u uv free but (c + 1) (l, k) (w.setCell ⟨b.pw, 0, none⟩ v) := by
  have e : ∀ g, g ≠ b.pw → (w.setCell ⟨b.pw, 0, none⟩ v).heap[g]? = w.heap[g]? := fun g hg => Below.heap_setCell w ⟨b.pw, 0, none⟩ v g hg
  obtain ⟨a1, a2, a3, a4, a5, a6, a7, a8, a9, a10, a11, a12, a13⟩ := ha.pw
  have hs : (w.setCell ⟨b.pw, 0, none⟩ v).heap.size = w.heap.size := by simp
  exact
    { new := h.new.keep (e _ a1.symm) (e _ a4.symm) (e _ a2.symm) (e _ a3.symm)
      left := hv
      rgl := by rw [hs]; exact h.rgl
      fc := h.fc.same (e _ a6.symm)
      fs := h.fs.keep (e _ a7.symm)
      nc := h.nc.same (e _ a8.symm)
      isp := h.isp.same (e _ a9.symm)
      ub := h.ub.same (e _ a10.symm)
      ur := h.ur.keep (fun _ h => h) (fun g hg => e g (fun he => a13 (he ▸ hg)))
      jj := hJ w _ h.jj (fun g hg => e g (fun he => a12 (he ▸ hg)))
      kj := fun g hg => by rw [hs]; exact h.kj g hg
      su := fun g hg => by rw [hs]; exact h.su g hg
      tab := h.tab.keep (e _ a11.symm)
      len := by have := h.len; simp only [Nat.add_mul] at this ⊢; omega
      full := by have := h.full; simp at this ⊢; omega }

/-- a new name was made -/
theorem PutI.fresh {b : PutB} {kp : Nat} {cp : Array Value} {J : World → Prop} {KJ Su : Nat → Prop} {u : Ty} {uv : Array Value} {free but : List Name} {c k k' : Nat} {l : List Nat} {w w' : World} (hJ : ∀ w w', J w → (∀ g, KJ g → w'.heap[g]? = w.heap[g]?) → J w') (ha : b.Apart KJ Su)
    (h : PutI b kp cp J KJ Su u uv free but c (l, k) w) (hn : NewI 120 b.lb b.nb b.sb b.mb but k' w') (hc : Chg (only b.nb) w w') (hk : k' ≤ c * (but.length + 1)) : PutI b kp cp J KJ Su u uv free but c (l, k') w' := by
  obtain ⟨a1, a2, a3, a4, a5, a6, a7, a8, a9, a10, a11, a12, a13⟩ := ha.nb
  have e : ∀ g, g < w.heap.size → g ≠ b.nb → w'.heap[g]? = w.heap[g]? := fun g hl hg => hc.block g hl hg
  exact
    { new := hn
      left := h.left.keep (e _ (by obtain ⟨_, _, hb, _⟩ := h.left; exact hb.lt) a4.symm) (e _ h.rgl a5.symm)
      rgl := Nat.lt_of_lt_of_le h.rgl hc.size
      fc := h.fc.same (e _ h.fc.lt a6.symm)
      fs := h.fs.keep (e _ h.fs.lt a7.symm)
      nc := h.nc.same (e _ h.nc.lt a8.symm)
      isp := h.isp.same (e _ h.isp.lt a9.symm)
      ub := h.ub.same (e _ h.ub.lt a10.symm)
      ur := h.ur.keep (fun _ h => h) (fun g hg => e g (h.su g hg) (fun he => a13 (he ▸ hg)))
      jj := hJ w _ h.jj (fun g hg => e g (h.kj g hg) (fun he => a12 (he ▸ hg)))
      kj := fun g hg => Nat.lt_of_lt_of_le (h.kj g hg) hc.size
      su := fun g hg => Nat.lt_of_lt_of_le (h.su g hg) hc.size
      tab := h.tab.keep (e _ h.tab.lt a11.symm)
      len := hk
      full := h.full }

end Go.Proofs.YthgkpmgcikopnaaGreatDoor

/-
  Package types: the closure of put that tells what a for all binds.
-/
namespace Go.Proofs.YthgkpmgcikopnaaGreatDoor
open Go.RowKit Lx Tx Go.Maps Go.WideMaps Go.Shelf
set_option maxRecDepth 100000

theorem tail_of (g o n c : Nat) (hc : n + 1 ≤ c) : ∃ A', (0 < n → A' = some ⟨g, o + 1, none⟩) ∧
    ∀ w, (Instr.slice 68 (.slice (some ⟨g, o, none⟩) (n + 1) c) (some (.int .i64 1)) none none).run Tryz.prog w = .ok (.slice A' n (c - 1)) w := by
  have hu := Tryz.underlying68
  obtain ⟨i0, hi0, hz0, hz1, hz2⟩ := info_parts int_info
  refine ⟨if c = 1 then some ⟨g, o, none⟩ else some ⟨g, o + 1, none⟩, fun h => if_neg (by omega), fun w => ?_⟩
  simp [Instr.slice, Instr.sliceBounds, run_underlying hu, sizeOf, typeInfo, hi0, hz1, go_sem]
  intro h
  omega

set_option maxHeartbeats 1600000 in
theorem tc_put1 (b : PutB) (kp : Nat) (cp : Array Value) (J : World → Prop) (KJ Su : Nat → Prop) (u : Ty) (uv : Array Value) (free but : List Name) (hJ : ∀ w w', J w → (∀ g, KJ g → w'.heap[g]? = w.heap[g]?) → J w') (ha : b.Apart KJ Su) (hbut : but.length ≤ 10000000) :
    BindOK 88 #[.pointer (some ⟨b.pw, 0, none⟩), .pointer (some ⟨b.pf, 0, none⟩), .pointer (some ⟨b.pn, 0, none⟩)] (PutI b kp cp J KJ Su u uv free but) b.M (bindP free but) := by
  intro c s X w hi hX24 hc
  obtain ⟨wi, k⟩ := s
  have hfull := hi.full
  cases wi with
  | nil => exfalso; simp at hfull; omega
  | cons p l =>
    obtain ⟨A, cq, hb, hcq, hp⟩ := hi.left
    obtain ⟨o, rfl, hcell⟩ := hp (by simp)
    obtain ⟨x0, x1, x2⟩ := blk_facts1 hb
    have hlen := hi.len
    obtain ⟨n, hn⟩ : ∃ n, l.length = n := ⟨_, rfl⟩
    rw [List.length_cons, hn] at x0 hcq
    have hp0 : w.cell? ⟨b.rg, o, none⟩ = some (.int .i64 (p : Nat)) := hcell 0 (by simp)
    have hcell' : ∀ (j : Nat) (hj : j < l.length), w.cell? ⟨b.rg, o + 1 + j, none⟩ = some (.int .i64 (l[j] : Nat)) := fun j hj => by
      have := hcell (j + 1) (by simp; omega)
      rw [show o + 1 + j = o + (j + 1) by omega]
      simpa using this
    -- the cell with what is left then
    have hleft : ∀ A' , (0 < n → A' = some ⟨b.rg, o + 1, none⟩) → LeftAt (w.setCell ⟨b.pw, 0, none⟩ (.slice A' n (cq - 1))) b.pw b.rg l := fun A' hA' => by
      refine ⟨A', cq - 1, ?_, by omega, fun h0 => ⟨o + 1, hA' (by omega), fun j hj => ?_⟩⟩
      · rw [hn]; exact one_setCell hb
      · exact (World.cell?_of_block (w := w) (a := ⟨b.rg, o + 1 + j, none⟩) (Below.heap_setCell w ⟨b.pw, 0, none⟩ _ b.rg ha.pw.2.2.2.2.1.symm)).trans (hcell' j hj)
    have HLEFT := hidE hleft
    have HI := hidE hi
    have HL := hidE hlen
    have hmul : c * (but.length + 1) ≤ 10000000 * 10000001 := Nat.mul_le_mul (by omega) (by omega)
    have HMUL := hidE hmul
    clear hb hp hcell hcell' hleft hi hlen hn hmul hfull
    have ek : ∀ args w, (callFunc 83 args).run Tryz.prog w = .ok (.enter 83 args) w := enters_of Tryz.func83 (by kernel_rfl) rfl
    obtain ⟨A', hA', hsl⟩ := tail_of b.rg o n cq hcq
    have h1 := PutI.step hJ ha HI.out (HLEFT.out A' hA')
    obtain ⟨W1, hW1⟩ : ∃ W1, w.setCell ⟨b.pw, 0, none⟩ (.slice A' n (cq - 1)) = W1 := ⟨_, rfl⟩
    rw [hW1] at h1
    have hc1 : Chg b.M w W1 := by rw [← hW1]; exact (Chg.refl b.M w).setCell (p := ⟨b.pw, 0, none⟩) (.inr (.inr rfl)) _
    obtain ⟨y0, y1, y2⟩ := blk_facts1 h1.fc
    obtain ⟨z0, z1, z2⟩ := blk_facts1 h1.nc
    have hlk0 := h1.fs.getOk X (by unfold maxLen; omega)
    rw [look_units] at hlk0
    have hal : Below W1.heap.size W1 (W1.alloc (.cells #[] 133)) := (Below.refl _ W1).alloc (Nat.le_refl _) _
    have h2 : PutI b kp cp J KJ Su u uv free but (c + 1) (l, k) (W1.alloc (.cells #[] 133)) := (PutI.inv b kp cp J KJ Su u uv free but hJ).keep _ _ _ _ h1 hal.size (fun g hg => hal.block g ((PutI.inv b kp cp J KJ Su u uv free but hJ).lt _ _ _ h1 g hg))
    have H2 := hidE h2
    have C2 : Hid (Chg b.M w (W1.alloc (.cells #[] 133))) := hidE (hc1.below hal)
    clear h1 hc1 hA' HLEFT HI hcq hX24 h2 hal
    unfold newV at z0
    go_enter Tryz.func88, Tryz.ntmps88
    by_cases hin : X.data.toList ∈ free
    · rw [if_pos hin] at hlk0
      replace hlk0 : (Instr.lookup 84 (.map (some b.mf)) (.string X) true).run Tryz.prog W1 = .ok (.tuple #[.agg #[], .bool true]) W1 := hlk0
      by_cases hp : 0 < p
      · have HB : Hid (bindP free but X.data.toList (p :: l, k) = (nm 120 (nextK 120 but k), (l, nextK 120 but k + 1))) := hidE (by unfold bindP; rw [if_pos ⟨hin, hp⟩]; rfl)
        rw [HB.out]
        have hp' : (0 : Int) < (p : Int) := by omega
        have hnk := (nextK_spec 120 but k (by have := HL.out; have := HMUL.out; omega)).2
        obtain ⟨a1, a2, a3, a4, a5, a6, a7, a8, a9, a10, a11, a12, a13⟩ := ha.nb
        have hnew := tc_new 120 b.lb b.nb b.sb b.mb but k (W1.alloc (.cells #[] 133)) H2.out.new H2.out.tab a1 a2 a3 a11 (by have := HL.out; have := HMUL.out; omega)
        have HNEW := hidE hnew
        clear hin hp hnew a1 a2 a3 a4 a5 a6 a7 a8 a9 a10 a11 a12 a13
        go_wp2_with fail
        refine HNEW.out.mono ?_
        rintro e w3 ⟨rfl, n3, c3⟩
        have H3 := hidE (PutI.fresh hJ ha H2.out n3 c3 (by have := HL.out; rw [Nat.add_mul]; omega))
        have C3 := hidE (C2.out.trans' c3 (fun g _ h => .inl h))
        clear n3 c3 HNEW
        go_wp2_with fail
        go_ret
        exact ⟨rfl, H3.out, C3.out⟩
      · obtain rfl : p = 0 := by omega
        have HB : Hid (bindP free but X.data.toList (0 :: l, k) = (X.data.toList, (l, k))) := hidE (by unfold bindP; rw [if_neg (fun h => absurd h.2 (by simp))]; rfl)
        rw [HB.out]
        clear hin hp
        go_wp2_with fail
        go_ret
        exact ⟨rfl, H2.out, C2.out⟩
    · rw [if_neg hin] at hlk0
      replace hlk0 : (Instr.lookup 84 (.map (some b.mf)) (.string X) true).run Tryz.prog W1 = .ok (.tuple #[.agg #[], .bool false]) W1 := hlk0
      have HB : Hid (bindP free but X.data.toList (p :: l, k) = (X.data.toList, (l, k))) := hidE (by unfold bindP; rw [if_neg (fun h => hin h.1)]; rfl)
      rw [HB.out]
      clear hin
      go_wp2_with fail
      go_ret
      exact ⟨rfl, H2.out, C2.out⟩

end Go.Proofs.YthgkpmgcikopnaaGreatDoor

/-
  Package types: the closures of put that tell places, and what stands in them.
-/
namespace Go.Proofs.YthgkpmgcikopnaaGreatDoor
open Go.RowKit Lx Tx Go.Maps Go.WideMaps Go.Shelf
set_option maxRecDepth 100000

set_option maxHeartbeats 1600000 in
theorem tc_put2 (b : PutB) (kp : Nat) (cp : Array Value) (J : World → Prop) (KJ Su : Nat → Prop) (u : Ty) (uk uz : Int) (ux : ByteArray) (ua : Option Addr) (um uc : Nat) (free but : List Name) (isP : Ty → Bool) (hJ : ∀ w w', J w → (∀ g, KJ g → w'.heap[g]? = w.heap[g]?) → J w')
    (ep : ∀ args w, (callFunc kp args).run Tryz.prog w = .ok (.enter kp args) w) (HP : IsPl kp cp J isP) :
    LeafOK 89 #[.pointer (some ⟨b.bi, 0, none⟩), .pointer (some ⟨b.bu, 0, none⟩)] (PutI b kp cp J KJ Su u #[.int .i64 uk, .string ux, .int .i64 uz, .slice ua um uc] free but) b.M Su (fun t => if isP t = true then u else t) := by
  intro c s t S v w hi hv hS hkd hnm
  obtain ⟨k, X, Z, A, m, cq, rfl, -, -, -, -, -⟩ := hv.parts
  have hinv := PutI.inv b kp cp J KJ Su u #[.int .i64 uk, .string ux, .int .i64 uz, .slice ua um uc] free but hJ
  obtain ⟨l0, l1, ls, lb⟩ := laid2 w (.cells #[.int .i64 k, .string X, .int .i64 Z, .slice A m cq] 25) (.cells #[.int .i64 0, .string ⟨#[]⟩, .int .i64 0, .slice none 0 0] 25)
  have h2 := hinv.keep _ _ _ _ hi lb.size (fun g hg => lb.block g (hinv.lt _ _ _ hi g hg))
  have hv2 := hv.keep (fun _ h => h) (fun g hg => lb.block g (hS g hg))
  have hpl := HP t S _ _ h2.jj hv2 (fun g hg => by have := hS g hg; omega) hkd hnm
  obtain ⟨x0, x1, x2⟩ := blk_facts1 hi.isp
  have h2b : b.bu < w.heap.size := hi.ub.lt
  have HKL := hidE (hinv.lt _ _ _ hi)
  have HPL := hidE hpl
  have H2 := hidE h2
  have HV2 := hidE hv2
  have L0 := hidE l0
  have L1 := hidE l1
  have LS := hidE ls
  have LB := hidE lb
  have HS := hidE hS
  obtain ⟨q, hq⟩ : ∃ q, isP t = q := ⟨_, rfl⟩
  have HQ := hidE hq
  simp only [hq] at HPL ⊢
  clear hi h2 hv2 hpl hv l0 l1 ls lb hS hnm hq
  unfold fnV at x0
  go_enter Tryz.func89, Tryz.ntmps89
  go_wp2_with fail
  refine HPL.out.mono ?_
  rintro e w1 ⟨rfl, b1⟩
  have hs1 := b1.size
  rw [LS.out] at hs1
  have h3 := hinv.keep _ _ _ _ H2.out b1.size (fun g hg => b1.block g (hinv.lt _ _ _ H2.out g hg))
  have r0 := Blk.below L0.out b1 (by rw [LS.out]; omega)
  have r1 := Blk.below L1.out b1 (by rw [LS.out]; omega)
  obtain ⟨p0, p1, p2, p3, p4, p5, p6, p7, p8⟩ := blk_facts4 r0
  obtain ⟨q0, q1, q2, q3, q4, q5, q6, q7, q8⟩ := blk_facts4 r1
  obtain ⟨u0, u1, u2, u3, u4, u5, u6, u7, u8⟩ := blk_facts4 h3.ub
  have R1 := hidE r1
  have H3 := hidE h3
  have B1 := hidE (LB.out.trans (b1.mono (by rw [LS.out]; omega)))
  clear h3 r0 r1 b1 HPL
  have hset : ∀ (a0 a1 a2 a3 : Value), let W := (((w1.setCell ⟨w.heap.size + 1, 0, none⟩ a0).setCell ⟨w.heap.size + 1, 1, none⟩ a1).setCell ⟨w.heap.size + 1, 2, none⟩ a2).setCell ⟨w.heap.size + 1, 3, none⟩ a3
      (∀ g, g ≠ w.heap.size + 1 → W.heap[g]? = w1.heap[g]?) ∧ W.heap.size = w1.heap.size ∧ Chg b.M w W := fun a0 a1 a2 a3 => ⟨fun g hg => heap_set4 _ _ _ _ _ _ _ hg, by simp, (Chg.of_below B1.out).set4 _ _ _ _ (Nat.le_succ _)⟩
  cases q with
  | true =>
    go_wp2_with fail
    have hb := blk_set4 (.int .i64 uk) (.string ux) (.int .i64 uz) (.slice ua um uc) R1.out
    obtain ⟨f1, f2, f3⟩ := hset (.int .i64 uk) (.string ux) (.int .i64 uz) (.slice ua um uc)
    refine bodyPost_ret (results_cell_row rfl _ _ (w.heap.size + 1) 25 _ (0, 0) _ rfl hb Tryz.underlying25 rfl (by kernel_rfl)) rfl ⟨uk, ux, uz, ua, um, uc, rfl, ?_, ?_, f3⟩
    · exact H3.out.ur.keep (fun _ h => h) (fun g hg => f1 g (by have := HKL.out g (by unfold PutB.K; simp [hg]); omega))
    · exact hinv.keep _ _ _ _ H3.out (Nat.le_of_eq f2.symm) (fun g hg => f1 g (by have := HKL.out g hg; omega))
  | false =>
    go_wp2_with fail
    have hb := blk_set4 (.int .i64 k) (.string X) (.int .i64 Z) (.slice A m cq) R1.out
    obtain ⟨f1, f2, f3⟩ := hset (.int .i64 k) (.string X) (.int .i64 Z) (.slice A m cq)
    refine bodyPost_ret (results_cell_row rfl _ _ (w.heap.size + 1) 25 _ (0, 0) _ rfl hb Tryz.underlying25 rfl (by kernel_rfl)) rfl ⟨k, X, Z, A, m, cq, rfl, ?_, ?_, f3⟩
    · exact leaf_any HV2.out hkd
    · exact hinv.keep _ _ _ _ H3.out (Nat.le_of_eq f2.symm) (fun g hg => f1 g (by have := HKL.out g hg; omega))

/-- places of a name -/
def isPV (x : Name) : Ty → Bool
  | .var y => y == x
  | _ => false
/-- places of a number -/
def isPM (n : Int) : Ty → Bool
  | .mt k => (k : Int) == n
  | _ => false

set_option maxHeartbeats 800000 in
theorem tc_Put1 (jb : Nat) (X : ByteArray) : IsPl 54 #[.pointer (some ⟨jb, 0, none⟩)] (fun w => Blk w jb 9 #[.string X]) (isPV X.data.toList) := by
  intro t S v w hj hv hS hk hnm
  obtain ⟨k, Y, Z, A, m, cq, rfl, hk', hY, -, -, -⟩ := hv.parts
  obtain ⟨x0, x1, x2⟩ := blk_facts1 hj
  have hal := (Below.refl _ w).alloc (Nat.le_refl _) (.cells #[.int .i64 k, .string Y, .int .i64 Z, .slice A m cq] 25)
  cases t with
  | var y =>
    obtain rfl : k = 1 := hk'
    have hq : isPV X.data.toList (.var y) = (Y.toList == X.toList) := by
      show (y == X.data.toList) = _
      rw [hY, Lib.toList_data, Lib.toList_data]; rfl
    rw [hq]
    obtain ⟨q, hqq⟩ : ∃ q, (Y.toList == X.toList) = q := ⟨_, rfl⟩
    rw [hqq]
    clear hj hv hS hk hnm hY hq
    cases q
    all_goals
      go_enter Tryz.func54, Tryz.ntmps54
      go_wp2
      go_ret
      exact ⟨rfl, hal⟩
  | mt n =>
    obtain rfl : k = 2 := hk'
    show Calls _ _ _ _ fun e w' => e = .returned (.bool false) ∧ _
    clear hj hv hS hk hnm hY
    go_enter Tryz.func54, Tryz.ntmps54
    go_wp2
    go_ret
    exact ⟨rfl, hal⟩
  | con c l => simp [kd] at hk
  | fn a b => simp [kd] at hk
  | all x t => simp [kd] at hk

set_option maxHeartbeats 800000 in
theorem tc_Fill1 (jb : Nat) (n : Int) : IsPl 55 #[.pointer (some ⟨jb, 0, none⟩)] (fun w => Blk w jb 3 #[.int .i64 n]) (isPM n) := by
  intro t S v w hj hv hS hk hnm
  obtain ⟨k, Y, Z, A, m, cq, rfl, hk', -, hZ, -, -⟩ := hv.parts
  obtain ⟨x0, x1, x2⟩ := blk_facts1 hj
  have hal := (Below.refl _ w).alloc (Nat.le_refl _) (.cells #[.int .i64 k, .string Y, .int .i64 Z, .slice A m cq] 25)
  cases t with
  | var y =>
    obtain rfl : k = 1 := hk'
    show Calls _ _ _ _ fun e w' => e = .returned (.bool false) ∧ _
    clear hj hv hS hk hnm hZ
    go_enter Tryz.func55, Tryz.ntmps55
    go_wp2
    go_ret
    exact ⟨rfl, hal⟩
  | mt j =>
    obtain rfl : k = 2 := hk'
    have hq : isPM n (.mt j) = (Z == n) := by rw [hZ]; rfl
    rw [hq]
    obtain ⟨q, hqq⟩ : ∃ q, (Z == n) = q := ⟨_, rfl⟩
    rw [hqq]
    clear hj hv hS hk hnm hZ hq
    cases q
    all_goals
      go_enter Tryz.func55, Tryz.ntmps55
      go_wp2
      go_ret
      exact ⟨rfl, hal⟩
  | con c l => simp [kd] at hk
  | fn a b => simp [kd] at hk
  | all x t => simp [kd] at hk

end Go.Proofs.YthgkpmgcikopnaaGreatDoor

/-
  Package types: put.
-/
namespace Go.Proofs.YthgkpmgcikopnaaGreatDoor
open Go.RowKit Lx Tx Go.Maps Go.WideMaps Go.Shelf
set_option maxRecDepth 100000

/-- each for all has its number of places -/
theorem wi_len (isP : Ty → Bool) (n : Nat) : ∀ (t : Ty) (env : List Name) (s : Pl), t.size ≤ n → (thr (plCome isP) plLeave env t s).wi.length = s.wi.length + t.fas := by
  induction n with
  | zero => intro t env s h; rw [size_kids] at h; omega
  | succ n ih =>
    intro t env s h
    have hL : ∀ (l : List Ty) (env' : List Name) (s' : Pl), (∀ u ∈ l, u.size ≤ n) → (thrL (plCome isP) plLeave env' l s').wi.length = s'.wi.length + fasL l := by
      intro l
      induction l with
      | nil => intro env' s' _; rw [thrL, fasL]; rfl
      | cons u r ihr =>
        intro env' s' hsz
        rw [thrL, fasL, ihr env' _ (fun x hx => hsz x (List.mem_cons_of_mem _ hx)), ih u env' s' (hsz u List.mem_cons_self)]
        omega
    have hmem : ∀ u ∈ kids t, u.size ≤ n := fun u hu => by
      obtain ⟨i, hi, rfl⟩ := List.mem_iff_getElem.1 hu
      have := kid_size t i hi; omega
    rw [thr_kids, fas_kids]
    have hl : ∀ q : Pl, (plLeave env t q).wi.length = q.wi.length := fun q => by rw [plLeave]; split <;> simp
    rw [hl, hL _ _ _ hmem]
    by_cases h5 : kd t = 5
    · rw [plCome_all isP env t s h5, if_pos h5]; simp; omega
    · rw [if_neg h5]
      have : (plCome isP env t s).wi = s.wi := by rw [plCome, if_neg h5]; split <;> rfl
      rw [this]; omega
theorem placesOf_len (isP : Ty → Bool) (t : Ty) : (placesOf isP t).wi.length = t.fas := by
  unfold placesOf
  rw [wi_len isP t.size t [] ⟨[], [], 0⟩ (Nat.le_refl _)]
  simp

/-- u in the places, as the code puts it -/
def putT (isP : Ty → Bool) (t u : Ty) : Ty :=
  if (placesOf isP t).al = 0 then t else (chg (bindP (freeL u) (freeL u ++ namesL t)) (fun l => if isP l = true then u else l) [] t ((placesOf isP t).wi, 0)).1

theorem own_left {w : World} {B : Nat} {A : Option Addr} {c : Nat} {wi : List Nat} (d : Nat) (hd : d < w.heap.size) (h : w.ownsRow B 3 1 (.slice A wi.length c) wi.length (intV wi)) :
    ∃ rg, (rg = d ∨ B ≤ rg) ∧ rg < w.heap.size ∧ wi.length ≤ c ∧ (0 < wi.length → A = some ⟨rg, 0, none⟩ ∧ ∀ (j : Nat) (hj : j < wi.length), w.cell? ⟨rg, 0 + j, none⟩ = some (.int .i64 (wi[j] : Nat))) := by
  have hc := fun g hg => h.cells (g := g) hg
  have hlt := h.lt
  rcases h.2 with ⟨hv, h0⟩ | ⟨g, cap, cur, hv, hg, hb, h1, _⟩
  · exact ⟨d, .inl rfl, hd, by omega, fun h => by omega⟩
  · injection hv with hv1 hv2 hv3
    subst hv1 hv3
    refine ⟨g, .inr hg, (hlt g rfl).2, by omega, fun _ => ⟨rfl, fun j hj => ?_⟩⟩
    have := hc g rfl j _ (intV_at wi j hj)
    rw [add_zero_addr] at this
    rw [Nat.zero_add]
    exact this

/-- what put leaves -/
def PPst (KJ S Su : Nat → Prop) (t : Ty) (w : World) (e : Ending) (w' : World) : Prop :=
  ∃ k x z a m q, e = .returned (.agg #[.int .i64 k, .string x, .int .i64 z, .slice a m q]) ∧ RdV (fun g => S g ∨ Su g ∨ (w.heap.size ≤ g ∧ g < w'.heap.size)) w' t (.agg #[.int .i64 k, .string x, .int .i64 z, .slice a m q]) ∧ Chg KJ w w'

set_option maxHeartbeats 3200000 in
theorem tc_put (kp : Nat) (cp : Array Value) (J : World → Prop) (KJ : Nat → Prop) (isP : Ty → Bool) (hJ : ∀ w w', J w → (∀ g, KJ g → w'.heap[g]? = w.heap[g]?) → J w') (ep : ∀ args w, (callFunc kp args).run Tryz.prog w = .ok (.enter kp args) w) (HP : IsPl kp cp J isP)
    (t u : Ty) (S Su : Nat → Prop) (v uv : Value) (w : World) (hj : J w) (hKJ : ∀ g, KJ g → g < w.heap.size) (hv : RdV S w t v) (hu : RdV Su w u uv) (hS : ∀ g, S g → g < w.heap.size ∧ ¬ KJ g) (hSu : ∀ g, Su g → g < w.heap.size ∧ ¬ KJ g) (hnm : Nm t) (hnu : Nm u) (hsz : t.size ≤ 1000000) (hsu : u.size ≤ 1000000) (ht : Tab w) (htK : ¬ KJ 0) :
    Calls Tryz.prog 53 #[v, uv, fnV kp cp] w (PPst KJ S Su (putT isP t u) w) := by
  obtain ⟨K, X, Z, A, m, cq, rfl, -, -, -, -, -⟩ := hv.parts
  obtain ⟨K', X', Z', A', m', cq', rfl, -, -, -, -, -⟩ := hu.parts
  have hmf : ∀ (fn : Fn) (first cap : Array Value) (w : World), (Instr.makeFunc fn first cap).run Tryz.prog w = .ok (.func fn first cap) w := fun _ _ _ _ => rfl
  obtain ⟨l0, l1, l2, l3, ls, lb⟩ := laid4 w (.cells #[.int .i64 K, .string X, .int .i64 Z, .slice A m cq] 25) (.cells #[.int .i64 K', .string X', .int .i64 Z', .slice A' m' cq'] 25) (.cells #[fnV kp cp] 64) (.cells #[.int .i64 0, .string ⟨#[]⟩, .int .i64 0, .slice none 0 0] 25)
  obtain ⟨W4, hW4⟩ : ∃ W, (((w.alloc (.cells #[.int .i64 K, .string X, .int .i64 Z, .slice A m cq] 25)).alloc (.cells #[.int .i64 K', .string X', .int .i64 Z', .slice A' m' cq'] 25)).alloc (.cells #[fnV kp cp] 64)).alloc (.cells #[.int .i64 0, .string ⟨#[]⟩, .int .i64 0, .slice none 0 0] 25) = W := ⟨_, rfl⟩
  rw [hW4] at l0 l1 l2 l3 ls lb
  have hv4 := hv.keep (fun _ h => h) (fun g hg => lb.block g (hS g hg).1)
  have hu4 := hu.keep (fun _ h => h) (fun g hg => lb.block g (hSu g hg).1)
  have hj4 : J W4 := hJ w _ hj (fun g hg => lb.block g (hKJ g hg))
  have ht4 := ht.below lb
  have htl := ht.lt
  have HPL := hidE (tc_places kp cp J KJ isP hJ ep HP t S _ W4 hj4 (fun g hg => by have := hKJ g hg; omega) hv4 (fun g hg => ⟨by have := (hS g hg).1; omega, (hS g hg).2⟩) hnm hsz)
  have e4 : ∀ g, g < w.heap.size → ¬ KJ g → W4.heap[g]? = w.heap[g]? := fun g hg _ => lb.block g hg
  obtain ⟨p0, p1, p2, p3, p4, p5, p6, p7, p8⟩ := blk_facts4 (show Blk W4 w.heap.size 25 _ from l0)
  obtain ⟨q0, q1, q2⟩ := blk_facts1 (show Blk W4 (w.heap.size + 1 + 1) 64 _ from l2)
  have L0 : Hid (Blk W4 w.heap.size 25 #[.int .i64 K, .string X, .int .i64 Z, .slice A m cq]) := hidE l0
  have L1 : Hid (Blk W4 (w.heap.size + 1) 25 #[.int .i64 K', .string X', .int .i64 Z', .slice A' m' cq']) := hidE l1
  have L2 : Hid (Blk W4 (w.heap.size + 1 + 1) 64 #[fnV kp cp]) := hidE l2
  have L3 : Hid (Blk W4 (w.heap.size + 1 + 1 + 1) 25 #[.int .i64 0, .string ⟨#[]⟩, .int .i64 0, .slice none 0 0]) := hidE l3
  have LS := hidE ls
  have LB := hidE lb
  have HV4 := hidE hv4
  have HU4 := hidE hu4
  have HT4 := hidE ht4
  have HS := hidE hS
  have HSU := hidE hSu
  have HKJ := hidE hKJ
  have HNM := hidE hnm
  have HNU := hidE hnu
  have HTK := hidE htK
  obtain ⟨al, hal⟩ : ∃ al, (placesOf isP t).al = al := ⟨_, rfl⟩
  obtain ⟨wi, hwi⟩ : ∃ wi, (placesOf isP t).wi = wi := ⟨_, rfl⟩
  have hwl := placesOf_len isP t
  rw [hwi] at hwl
  have HPT : Hid (putT isP t u = if al = 0 then t else (chg (bindP (freeL u) (freeL u ++ namesL t)) (fun l => if isP l = true then u else l) [] t (wi, 0)).1) := hidE (by unfold putT; rw [hal, hwi])
  obtain ⟨R, hR⟩ : ∃ R, putT isP t u = R := ⟨_, rfl⟩
  rw [hR] at HPT ⊢
  rw [hal, hwi] at HPL
  have HWL := hidE hwl
  obtain ⟨nw, hnw⟩ : ∃ nw, wi.length = nw := ⟨_, rfl⟩
  rw [hnw] at HPL
  have HNW := hidE hnw
  clear hv hu hS hSu hKJ hnm hnu ht htK hj hj4 hv4 hu4 ht4 l0 l1 l2 l3 ls lb e4 hal hwi hwl hR hnw
  unfold fnV at q0 HPL hW4 ⊢
  go_enter Tryz.func53, Tryz.ntmps53
  go_wp2_with fail
  refine HPL.out.mono ?_
  rintro e w5 ⟨A5, c5, rfl, hown, halb, hj5, cc5⟩
  have hs5 := cc5.size
  rw [LS.out] at hs5
  obtain ⟨rg, hrg1, hrg2, hrg3, hrg4⟩ := own_left (w := w5) (wi := wi) (w.heap.size + 1 + 1) (by omega) (by rw [HNW.out]; exact hown)
  have hrgb : w.heap.size ≤ rg := by rcases hrg1 with h | h; omega; rw [LS.out] at h; omega
  rw [HNW.out] at hrg3
  have hrg4' : 0 < nw → A5 = some ⟨rg, 0, none⟩ ∧ ∀ (j : Nat) (hj : j < wi.length), w5.cell? ⟨rg, 0 + j, none⟩ = some (.int .i64 (wi[j] : Nat)) := fun h => hrg4 (by rw [HNW.out]; exact h)
  have HRG4 := hidE hrg4'
  -- with the cell of what is left
  obtain ⟨w6, hw6⟩ : ∃ W, w5.alloc (.cells #[.slice A5 nw c5] 68) = W := ⟨_, rfl⟩
  have b6 : Below w5.heap.size w5 w6 := by rw [← hw6]; exact (Below.refl _ w5).alloc (Nat.le_refl _) _
  have hs6 : w6.heap.size = w5.heap.size + 1 := by rw [← hw6]; exact size_alloc _ _
  have L4 : Hid (Blk w6 w5.heap.size 68 #[.slice A5 nw c5]) := hidE (by rw [← hw6]; exact heap_alloc_new w5 _)
  have c6 : Chg KJ W4 w6 := cc5.below b6
  have hkjl : ∀ g, KJ g → g < w.heap.size := HKJ.out
  have k0 := L0.out.chg c6 (fun h => by have := hkjl _ h; omega)
  have k1 := L1.out.chg c6 (fun h => by have := hkjl _ h; omega)
  have k3 := L3.out.chg c6 (fun h => by have := hkjl _ h; omega)
  obtain ⟨a0, a1, a2, a3, a4, a5, a6, a7, a8⟩ := blk_facts4 k0
  obtain ⟨d0, d1, d2, d3, d4, d5, d6, d7, d8⟩ := blk_facts4 k1
  obtain ⟨f0, f1, f2, f3, f4, f5, f6, f7, f8⟩ := blk_facts4 k3
  have hj6 : J w6 := hJ w5 w6 hj5 (fun g hg => b6.block g (by have := hkjl g hg; omega))
  have hv6 := HV4.out.keep (w' := w6) (fun _ h => h) (fun g hg => c6.block g (by have := (HS.out g hg).1; rw [LS.out]; omega) (HS.out g hg).2)
  have hu6 := HU4.out.keep (w' := w6) (fun _ h => h) (fun g hg => c6.block g (by have := (HSU.out g hg).1; rw [LS.out]; omega) (HSU.out g hg).2)
  have ht6 := HT4.out.keep (c6.block _ HT4.out.lt HTK.out)
  have K0 := hidE k0
  have K1 := hidE k1
  have K3 := hidE k3
  have C6 := hidE c6
  have HJ6 := hidE hj6
  have HV6 := hidE hv6
  have HU6 := hidE hu6
  have HT6 := hidE ht6
  have HRG1 := hidE hrg1
  have B6 := hidE b6
  have HJ5 := hidE hj5
  clear hrg1 hrg4 hrg4' hown hj5 cc5 b6 c6 k0 k1 k3 hj6 hv6 hu6 ht6 HPL p0 p1 p2 p3 p4 p5 p6 p7 p8 q0 q1 q2
  by_cases h0 : al = 0
  · have HR0 := HPT.out
    rw [if_pos h0] at HR0
    have HR1 := hidE HR0
    have t0 : ((al : Int) == 0) = true := by rw [h0]; rfl
    clear h0 HR0 halb
    go_wp2_with fail
    have hb := blk_set4 (.int .i64 K) (.string X) (.int .i64 Z) (.slice A m cq) K3.out
    have hf : ∀ g, g ≠ w.heap.size + 1 + 1 + 1 → ((((w6.setCell ⟨w.heap.size + 1 + 1 + 1, 0, none⟩ (.int .i64 K)).setCell ⟨w.heap.size + 1 + 1 + 1, 1, none⟩ (.string X)).setCell ⟨w.heap.size + 1 + 1 + 1, 2, none⟩ (.int .i64 Z)).setCell ⟨w.heap.size + 1 + 1 + 1, 3, none⟩ (.slice A m cq)).heap[g]? = w6.heap[g]? := fun g hg => heap_set4 _ _ _ _ _ _ _ hg
    refine bodyPost_ret (results_cell_row rfl _ _ (w.heap.size + 1 + 1 + 1) 25 _ (0, 0) _ rfl hb Tryz.underlying25 rfl (by kernel_rfl)) rfl ⟨K, X, Z, A, m, cq, rfl, ?_, ?_⟩
    · rw [HR1.out]
      exact HV6.out.keep (fun g h => .inl h) (fun g hg => hf g (by have := (HS.out g hg).1; omega))
    · exact ((Chg.of_below LB.out).trans C6.out).set4 _ _ _ _ (by omega)
  · have HR0 := HPT.out
    rw [if_neg h0] at HR0
    have HR1 := hidE HR0
    have t0 : ((al : Int) == 0) = false := by rw [Bool.eq_false_iff]; intro e; simp at e; omega
    have HFR := hidE (tc_free u Su _ w6 HU6.out (fun g hg => by have := (HSU.out g hg).1; omega) HNU.out hsu)
    obtain ⟨n1, hn1⟩ : ∃ n1, (freeL u).length = n1 := ⟨_, rfl⟩
    have HN1 := hidE hn1
    rw [hn1] at HFR
    clear h0 HR0 hn1 halb
    go_wp2_with fail
    refine HFR.out.mono ?_
    rintro e w7 ⟨A1, c1, rfl, hown, hl1, b7⟩
    have hs7 := b7.size
    have hown' : w7.ownsRow w6.heap.size 9 1 (.slice A1 (freeL u).length c1) (freeL u).length (strV (freeL u)) := by rw [HN1.out]; exact hown
    have hrv := RowV.of_own hown'
    have hst : Hid (Calls Tryz.prog 47 #[.slice (some ⟨w7.heap.size, 0, none⟩) 1 1] (w7.alloc (.cells #[.slice A1 n1 c1] 41)) fun e w' => e = .returned (.map (some (w7.heap.size + 1))) ∧ MapE mkSet w' (w7.heap.size + 1) (units (freeL u)) ∧ Below (w7.heap.size + 1) (w7.alloc (.cells #[.slice A1 n1 c1] 41)) w') := hidE (by
      have h := tc_set [freeL u] w7.heap.size 1 (w7.alloc (.cells #[.slice A1 n1 c1] 41)) (fun j hj => by
        have hj0 : j = 0 := by simp at hj; omega
        subst hj0
        refine ⟨A1, c1, ?_, ?_⟩
        · have := Blk.cell (heap_alloc_new w7 (.cells #[.slice A1 n1 c1] 41)) 0
          rw [← HN1.out] at this ⊢
          exact this
        · exact hrv.below ((Below.refl _ w7).alloc (Nat.le_refl _) _)) (by simp) (by intro x hx; exact short_freeL u HNU.out x (by simpa using hx)) (by simpa using (by rw [HN1.out]; omega : (freeL u).length ≤ 10000000)) (by simp)
      simp only [List.flatten_cons, List.flatten_nil, List.append_nil, size_alloc] at h
      exact h)
    have RV1 := hidE hrv
    have B7 := hidE b7
    clear hown hown' hrv b7 HFR
    go_wp2_with fail
    refine hst.out.mono ?_
    rintro e w8 ⟨rfl, hm8, b8⟩
    have hs8 := b8.size
    rw [size_alloc] at hs8
    obtain ⟨w9, hw9⟩ : ∃ W, w8.alloc (.cells #[.map (some (w7.heap.size + 1))] 84) = W := ⟨_, rfl⟩
    have b89 : Below w8.heap.size w8 w9 := by rw [← hw9]; exact (Below.refl _ w8).alloc (Nat.le_refl _) _
    have hs9 : w9.heap.size = w8.heap.size + 1 := by rw [← hw9]; exact size_alloc _ _
    have b79 : Below w7.heap.size w7 w9 := (((Below.refl _ w7).alloc (Nat.le_refl _) _).trans (b8.mono (Nat.le_succ _))).trans (b89.mono (by omega))
    have B9 := hidE (B7.out.trans (b79.mono hs7))
    have L9 : Hid (Blk w9 w8.heap.size 84 #[.map (some (w7.heap.size + 1))]) := hidE (by rw [← hw9]; exact heap_alloc_new w8 _)
    have HM9 := hidE (hm8.keep (b89.block _ hm8.lt))
    have RV9 := hidE (RV1.out.below b79)
    have k0 := K0.out.below B9.out K0.out.lt
    obtain ⟨g0, g1, g2, g3, g4, g5, g6, g7, g8⟩ := blk_facts4 k0
    have HNA := hidE (tc_names t S _ w9 (HV6.out.keep (fun _ h => h) (fun g hg => B9.out.block g (by have := (HS.out g hg).1; omega))) (fun g hg => by have := (HS.out g hg).1; omega) HNM.out hsz)
    obtain ⟨n2, hn2⟩ : ∃ n2, (namesL t).length = n2 := ⟨_, rfl⟩
    have HN2 := hidE hn2
    rw [hn2] at HNA
    clear hm8 b8 b89 b79 hn2 hst
    go_wp2_with fail
    refine HNA.out.mono ?_
    rintro e w10 ⟨A2, c2, rfl, hown, hl2, b10⟩
    have hs10 := b10.size
    have hown' : w10.ownsRow w9.heap.size 9 1 (.slice A2 (namesL t).length c2) (namesL t).length (strV (namesL t)) := by rw [HN2.out]; exact hown
    have hrv2 := RowV.of_own hown'
    have hrv1 := RV9.out.below b10
    have hst2 : Hid (Calls Tryz.prog 47 #[.slice (some ⟨w10.heap.size, 0, none⟩) 2 2] (w10.alloc (.cells #[.slice A1 n1 c1, .slice A2 n2 c2] 41)) fun e w' => e = .returned (.map (some (w10.heap.size + 1))) ∧ MapE mkSet w' (w10.heap.size + 1) (units (freeL u ++ namesL t)) ∧ Below (w10.heap.size + 1) (w10.alloc (.cells #[.slice A1 n1 c1, .slice A2 n2 c2] 41)) w') := hidE (by
      have h := tc_set [freeL u, namesL t] w10.heap.size 2 (w10.alloc (.cells #[.slice A1 n1 c1, .slice A2 n2 c2] 41)) (fun j hj => by
        have hj0 : j = 0 ∨ j = 1 := by simp at hj; omega
        rcases hj0 with rfl | rfl
        · refine ⟨A1, c1, ?_, ?_⟩
          · have := Blk.cell (heap_alloc_new w10 (.cells #[.slice A1 n1 c1, .slice A2 n2 c2] 41)) 0
            rw [← HN1.out] at this ⊢
            exact this
          · exact hrv1.below ((Below.refl _ w10).alloc (Nat.le_refl _) _)
        · refine ⟨A2, c2, ?_, ?_⟩
          · have := Blk.cell (heap_alloc_new w10 (.cells #[.slice A1 n1 c1, .slice A2 n2 c2] 41)) 1
            rw [← HN2.out] at this ⊢
            exact this
          · exact hrv2.below ((Below.refl _ w10).alloc (Nat.le_refl _) _)) (by simp) (by
            intro x hx
            simp only [List.flatten_cons, List.flatten_nil, List.append_nil, List.mem_append] at hx
            rcases hx with hx | hx
            · exact short_freeL u HNU.out x hx
            · exact short_namesL t HNM.out x hx) (by simp only [List.flatten_cons, List.flatten_nil, List.append_nil, List.length_append]; rw [HN1.out, HN2.out]; omega) (by simp)
      simp only [List.flatten_cons, List.flatten_nil, List.append_nil, size_alloc] at h
      exact h)
    have B10 := hidE b10
    clear hown hown' hrv1 hrv2 b10 HNA
    go_wp2_with fail
    refine hst2.out.mono ?_
    rintro e w12 ⟨rfl, hm12, b12⟩
    have hs12 := b12.size
    rw [size_alloc] at hs12
    have b912 : Below w9.heap.size w9 w12 := (B10.out.alloc (by omega) _).trans (b12.mono (by omega))
    have HNW2 := hidE (tc_newNames 120 ⟨#[120]⟩ rfl (w10.heap.size + 1) (freeL u ++ namesL t) w12 hm12)
    have B12 := hidE b912
    clear hm12 b12 b912 hst2
    go_wp2_with fail
    refine HNW2.out.mono ?_
    rintro e w13 ⟨rfl, hn13, b13⟩
    have hs13 := b13.size
    have hnl := hn13.num.lt
    obtain ⟨w14, hw14⟩ : ∃ W, w13.alloc (.cells #[newV w12.heap.size (w12.heap.size + 2) (w12.heap.size + 1)] 34) = W := ⟨_, rfl⟩
    have b14 : Below w13.heap.size w13 w14 := by rw [← hw14]; exact (Below.refl _ w13).alloc (Nat.le_refl _) _
    have hs14 : w14.heap.size = w13.heap.size + 1 := by rw [← hw14]; exact size_alloc _ _
    have L14 : Blk w14 w13.heap.size 34 #[newV w12.heap.size (w12.heap.size + 2) (w12.heap.size + 1)] := by rw [← hw14]; exact heap_alloc_new w13 _
    have b914 : Below w9.heap.size w9 w14 := (B12.out.trans (b13.mono (by omega))).trans (b14.mono (by omega))
    have b614 : Below w6.heap.size w6 w14 := B9.out.trans (b914.mono (by omega))
    have c514 : Below w5.heap.size w5 w14 := B6.out.trans (b614.mono (by omega))
    have c414 : Chg KJ W4 w14 := C6.out.below b614
    have kk0 := K0.out.below b614 K0.out.lt
    have kk3 := K3.out.below b614 K3.out.lt
    obtain ⟨m0, m1, m2, m3, m4, m5, m6, m7, m8⟩ := blk_facts4 kk0
    have hkjl : ∀ g, KJ g → g < w.heap.size := HKJ.out
    have hpi : PutI ⟨w12.heap.size, w12.heap.size + 2, w12.heap.size + 1, w10.heap.size + 1, w5.heap.size, rg, w8.heap.size, w7.heap.size + 1, w13.heap.size, w.heap.size + 1 + 1, w.heap.size + 1⟩ kp cp J KJ Su u #[.int .i64 K', .string X', .int .i64 Z', .slice A' m' cq'] (freeL u) (freeL u ++ namesL t) (10000000 - t.fas) (wi, 0) w14 :=
      { new := hn13.below b14
        left := ⟨A5, c5, by rw [HNW.out]; exact L4.out.below b614 L4.out.lt, by rw [HNW.out]; exact hrg3, fun h0 => ⟨0, (HRG4.out (by rw [← HNW.out]; exact h0)).1, fun j hj => (World.cell?_of_block (w := w5) (a := ⟨rg, 0 + j, none⟩) (c514.block rg hrg2)).trans ((HRG4.out (by rw [← HNW.out]; exact h0)).2 j hj)⟩⟩
        rgl := by show rg < _; omega
        fc := L9.out.below b914 L9.out.lt
        fs := HM9.out.keep (b914.block _ HM9.out.lt)
        nc := L14
        isp := L2.out.chg c414 (fun h => by have := hkjl _ h; omega)
        ub := K1.out.below b614 K1.out.lt
        ur := HU6.out.keep (fun _ h => h) (fun g hg => b614.block g (by have := (HSU.out g hg).1; omega))
        jj := hJ w6 _ HJ6.out (fun g hg => b614.block g (by have := hkjl g hg; omega))
        kj := fun g hg => by have := hkjl g hg; omega
        su := fun g hg => by have := (HSU.out g hg).1; omega
        tab := HT6.out.below b614
        len := Nat.zero_le _
        full := by have := HWL.out; have := fas_size t; show 10000000 ≤ wi.length + (10000000 - t.fas); omega }
    have hap : PutB.Apart ⟨w12.heap.size, w12.heap.size + 2, w12.heap.size + 1, w10.heap.size + 1, w5.heap.size, rg, w8.heap.size, w7.heap.size + 1, w13.heap.size, w.heap.size + 1 + 1, w.heap.size + 1⟩ KJ Su :=
      { nb := by refine ⟨?_, ?_, ?_, ?_, ?_, ?_, ?_, ?_, ?_, ?_, ?_, fun h => ?_, fun h => ?_⟩; all_goals (try show _ ≠ _); all_goals first | (have := hkjl _ h; simp at this; omega) | (have := (HSU.out _ h).1; simp at this; omega) | (simp only; omega)
        pw := by refine ⟨?_, ?_, ?_, ?_, ?_, ?_, ?_, ?_, ?_, ?_, ?_, fun h => ?_, fun h => ?_⟩; all_goals (try show _ ≠ _); all_goals first | (have := hkjl _ h; simp at this; omega) | (have := (HSU.out _ h).1; simp at this; omega) | (simp only; omega) }
    have hMK : ∀ g, PutB.M ⟨w12.heap.size, w12.heap.size + 2, w12.heap.size + 1, w10.heap.size + 1, w5.heap.size, rg, w8.heap.size, w7.heap.size + 1, w13.heap.size, w.heap.size + 1 + 1, w.heap.size + 1⟩ g → g = w12.heap.size + 2 ∨ g = w5.heap.size := fun g h => h
    have hchg := tc_changed 88 89 #[.pointer (some ⟨w5.heap.size, 0, none⟩), .pointer (some ⟨w8.heap.size, 0, none⟩), .pointer (some ⟨w13.heap.size, 0, none⟩)] #[.pointer (some ⟨w.heap.size + 1 + 1, 0, none⟩), .pointer (some ⟨w.heap.size + 1, 0, none⟩)]
      (PutI ⟨w12.heap.size, w12.heap.size + 2, w12.heap.size + 1, w10.heap.size + 1, w5.heap.size, rg, w8.heap.size, w7.heap.size + 1, w13.heap.size, w.heap.size + 1 + 1, w.heap.size + 1⟩ kp cp J KJ Su u #[.int .i64 K', .string X', .int .i64 Z', .slice A' m' cq'] (freeL u) (freeL u ++ namesL t))
      (PutB.K ⟨w12.heap.size, w12.heap.size + 2, w12.heap.size + 1, w10.heap.size + 1, w5.heap.size, rg, w8.heap.size, w7.heap.size + 1, w13.heap.size, w.heap.size + 1 + 1, w.heap.size + 1⟩ KJ Su)
      (PutB.M ⟨w12.heap.size, w12.heap.size + 2, w12.heap.size + 1, w10.heap.size + 1, w5.heap.size, rg, w8.heap.size, w7.heap.size + 1, w13.heap.size, w.heap.size + 1 + 1, w.heap.size + 1⟩) Su
      (bindP (freeL u) (freeL u ++ namesL t)) (fun l => if isP l = true then u else l) (PutI.inv _ kp cp J KJ Su u _ _ _ hJ)
      (fun g h => by rcases hMK g h with rfl | rfl <;> simp [PutB.K])
      (fun g h => ⟨by simp [PutB.K, h], fun h2 => by have := (HSU.out g h).1; rcases hMK g h2 with h3 | h3 <;> omega⟩)
      (enters_of Tryz.func88 (by kernel_rfl) rfl) (enters_of Tryz.func89 (by kernel_rfl) rfl)
      (tc_put1 _ kp cp J KJ Su u _ _ _ hJ hap (by rw [List.length_append, HN1.out, HN2.out]; omega)) (tc_put2 _ kp cp J KJ Su u _ _ _ _ _ _ _ _ isP hJ ep HP)
      (10000000 - t.fas) (wi, 0) t S _ w14 hpi (HV6.out.keep (fun _ h => h) (fun g hg => b614.block g (by have := (HS.out g hg).1; omega)))
      (fun g hg => ⟨by have := (HS.out g hg).1; omega, fun h2 => by have := (HS.out g hg).1; rcases hMK g h2 with h3 | h3 <;> omega⟩) HNM.out hsz (by have := fas_size t; omega)
    unfold fnV at hchg
    have HCHG := hidE hchg
    have B514 := hidE c514
    have C414 := hidE c414
    have KK3 := hidE kk3
    have HMK := hidE hMK
    clear hpi hap hchg hMK kk0 kk3 c414 c514 b614 b914 b14 L14 b13 hn13 HNW2
    unfold newV at hw14 ⊢
    go_wp2_with fail
    refine HCHG.out.mono ?_
    rintro e w15 ⟨k', x', z', a', m', q', rfl, hr, -, cc15⟩
    rw [← HR1.out] at hr
    have hs15 := cc15.size
    have kk3 := Blk.chg KK3.out cc15 (fun h => by rcases HMK.out _ h with h | h <;> omega)
    obtain ⟨i0, i1, i2, i3, i4, i5, i6, i7, i8⟩ := blk_facts4 kk3
    have HR := hidE hr
    have C15 := hidE cc15
    have K15 := hidE kk3
    clear hr cc15 kk3 HCHG
    go_wp2_with fail
    have hb := blk_set4 (.int .i64 k') (.string x') (.int .i64 z') (.slice a' m' q') K15.out
    have hf : ∀ g, g ≠ w.heap.size + 1 + 1 + 1 → ((((w15.setCell ⟨w.heap.size + 1 + 1 + 1, 0, none⟩ (.int .i64 k')).setCell ⟨w.heap.size + 1 + 1 + 1, 1, none⟩ (.string x')).setCell ⟨w.heap.size + 1 + 1 + 1, 2, none⟩ (.int .i64 z')).setCell ⟨w.heap.size + 1 + 1 + 1, 3, none⟩ (.slice a' m' q')).heap[g]? = w15.heap[g]? := fun g hg => heap_set4 _ _ _ _ _ _ _ hg
    have hfs : ((((w15.setCell ⟨w.heap.size + 1 + 1 + 1, 0, none⟩ (.int .i64 k')).setCell ⟨w.heap.size + 1 + 1 + 1, 1, none⟩ (.string x')).setCell ⟨w.heap.size + 1 + 1 + 1, 2, none⟩ (.int .i64 z')).setCell ⟨w.heap.size + 1 + 1 + 1, 3, none⟩ (.slice a' m' q')).heap.size = w15.heap.size := by simp
    refine bodyPost_ret (results_cell_row rfl _ _ (w.heap.size + 1 + 1 + 1) 25 _ (0, 0) _ rfl hb Tryz.underlying25 rfl (by kernel_rfl)) rfl ⟨k', x', z', a', m', q', rfl, ?_, ?_⟩
    · exact HR.out.keep (fun g h => by rcases h with h | h; exact .inr (.inl h); exact .inr (.inr ⟨by omega, by rw [hfs]; exact h.2⟩)) (fun g hg => hf g (by rcases hg with h | h; (have := (HSU.out g h).1; omega); omega))
    · exact ((((Chg.of_below LB.out).trans C414.out).trans' C15.out (fun g hg h => by rcases HMK.out _ h with h | h <;> omega))).set4 _ _ _ _ (by omega)

end Go.Proofs.YthgkpmgcikopnaaGreatDoor

/-
  Package types: Put and Fill.
-/
namespace Go.Proofs.YthgkpmgcikopnaaGreatDoor
open Go.RowKit Lx Tx Go.Maps Go.WideMaps Go.Shelf
set_option maxRecDepth 100000

/-- what Put and Fill leave -/
def QPst (S Su : Nat → Prop) (t : Ty) (w : World) (e : Ending) (w' : World) : Prop :=
  ∃ k x z a m q, e = .returned (.agg #[.int .i64 k, .string x, .int .i64 z, .slice a m q]) ∧ RdV (fun g => S g ∨ Su g ∨ (w.heap.size ≤ g ∧ g < w'.heap.size)) w' t (.agg #[.int .i64 k, .string x, .int .i64 z, .slice a m q]) ∧ Below w.heap.size w w'

set_option maxHeartbeats 1600000 in
theorem tc_Put (t u : Ty) (Y : ByteArray) (S Su : Nat → Prop) (v uv : Value) (w : World) (hv : RdV S w t v) (hu : RdV Su w u uv) (hS : ∀ g, S g → g < w.heap.size) (hSu : ∀ g, Su g → g < w.heap.size) (hnm : Nm t) (hnu : Nm u) (hsz : t.size ≤ 1000000) (hsu : u.size ≤ 1000000) (ht : Tab w) :
    Calls Tryz.prog 18 #[v, .string Y, uv] w (QPst S Su (putT (isPV Y.data.toList) t u) w) := by
  obtain ⟨K, X, Z, A, m, cq, rfl, -, -, -, -, -⟩ := hv.parts
  obtain ⟨K', X', Z', A', m', cq', rfl, -, -, -, -, -⟩ := hu.parts
  have hmf : ∀ (fn : Fn) (first cap : Array Value) (w : World), (Instr.makeFunc fn first cap).run Tryz.prog w = .ok (.func fn first cap) w := fun _ _ _ _ => rfl
  obtain ⟨l0, l1, l2, l3, ls, lb⟩ := laid4 w (.cells #[.int .i64 K, .string X, .int .i64 Z, .slice A m cq] 25) (.cells #[.string Y] 9) (.cells #[.int .i64 K', .string X', .int .i64 Z', .slice A' m' cq'] 25) (.cells #[.int .i64 0, .string ⟨#[]⟩, .int .i64 0, .slice none 0 0] 25)
  obtain ⟨W4, hW4⟩ : ∃ W, (((w.alloc (.cells #[.int .i64 K, .string X, .int .i64 Z, .slice A m cq] 25)).alloc (.cells #[.string Y] 9)).alloc (.cells #[.int .i64 K', .string X', .int .i64 Z', .slice A' m' cq'] 25)).alloc (.cells #[.int .i64 0, .string ⟨#[]⟩, .int .i64 0, .slice none 0 0] 25) = W := ⟨_, rfl⟩
  rw [hW4] at l0 l1 l2 l3 ls lb
  have htl := ht.lt
  have HPUT := hidE (tc_put 54 #[.pointer (some ⟨w.heap.size + 1, 0, none⟩)] (fun w' => Blk w' (w.heap.size + 1) 9 #[.string Y]) (only (w.heap.size + 1)) (isPV Y.data.toList) (fun a b h hk => Blk.same h (hk _ rfl)) (enters_of Tryz.func54 (by kernel_rfl) rfl) (tc_Put1 (w.heap.size + 1) Y)
    t u S Su _ _ W4 l1 (fun g hg => by have hg : g = w.heap.size + 1 := hg; omega) (hv.keep (fun _ h => h) (fun g hg => lb.block g (hS g hg))) (hu.keep (fun _ h => h) (fun g hg => lb.block g (hSu g hg)))
    (fun g hg => ⟨by have := hS g hg; omega, fun h => by have := hS g hg; have h : g = w.heap.size + 1 := h; omega⟩) (fun g hg => ⟨by have := hSu g hg; omega, fun h => by have := hSu g hg; have h : g = w.heap.size + 1 := h; omega⟩) hnm hnu hsz hsu (ht.below lb) (fun h => by have h : 0 = w.heap.size + 1 := h; omega))
  obtain ⟨p0, p1, p2, p3, p4, p5, p6, p7, p8⟩ := blk_facts4 (show Blk W4 w.heap.size 25 _ from l0)
  obtain ⟨q0, q1, q2, q3, q4, q5, q6, q7, q8⟩ := blk_facts4 (show Blk W4 (w.heap.size + 1 + 1) 25 _ from l2)
  have L3 : Hid (Blk W4 (w.heap.size + 1 + 1 + 1) 25 #[.int .i64 0, .string ⟨#[]⟩, .int .i64 0, .slice none 0 0]) := hidE l3
  have LS := hidE ls
  have LB := hidE lb
  have HS := hidE hS
  have HSU := hidE hSu
  obtain ⟨R, hR⟩ : ∃ R, putT (isPV Y.data.toList) t u = R := ⟨_, rfl⟩
  rw [hR] at HPUT ⊢
  unfold fnV at HPUT
  clear hv hu hS hSu hnm hnu ht l0 l1 l2 l3 ls lb hR
  go_enter Tryz.func18, Tryz.ntmps18
  go_wp2_with fail
  refine HPUT.out.mono ?_
  rintro e w5 ⟨k', x', z', a', m', q', rfl, hr, c5⟩
  have hs5 := c5.size
  rw [LS.out] at hs5
  have kk3 := Blk.chg L3.out c5 (fun h => by have h : w.heap.size + 1 + 1 + 1 = w.heap.size + 1 := h; omega)
  obtain ⟨i0, i1, i2, i3, i4, i5, i6, i7, i8⟩ := blk_facts4 kk3
  have HR := hidE hr
  have C5 := hidE c5
  have K5 := hidE kk3
  clear hr c5 kk3 HPUT
  go_wp2_with fail
  have hb := blk_set4 (.int .i64 k') (.string x') (.int .i64 z') (.slice a' m' q') K5.out
  have hf : ∀ g, g ≠ w.heap.size + 1 + 1 + 1 → ((((w5.setCell ⟨w.heap.size + 1 + 1 + 1, 0, none⟩ (.int .i64 k')).setCell ⟨w.heap.size + 1 + 1 + 1, 1, none⟩ (.string x')).setCell ⟨w.heap.size + 1 + 1 + 1, 2, none⟩ (.int .i64 z')).setCell ⟨w.heap.size + 1 + 1 + 1, 3, none⟩ (.slice a' m' q')).heap[g]? = w5.heap[g]? := fun g hg => heap_set4 _ _ _ _ _ _ _ hg
  have hfs : ((((w5.setCell ⟨w.heap.size + 1 + 1 + 1, 0, none⟩ (.int .i64 k')).setCell ⟨w.heap.size + 1 + 1 + 1, 1, none⟩ (.string x')).setCell ⟨w.heap.size + 1 + 1 + 1, 2, none⟩ (.int .i64 z')).setCell ⟨w.heap.size + 1 + 1 + 1, 3, none⟩ (.slice a' m' q')).heap.size = w5.heap.size := by simp
  refine bodyPost_ret (results_cell_row rfl _ _ (w.heap.size + 1 + 1 + 1) 25 _ (0, 0) _ rfl hb Tryz.underlying25 rfl (by kernel_rfl)) rfl ⟨k', x', z', a', m', q', rfl, ?_, ?_⟩
  · refine HR.out.keep (fun g h => ?_) (fun g h => hf g ?_)
    · rcases h with h | h | h
      · exact .inl h
      · exact .inr (.inl h)
      · exact .inr (.inr ⟨by have := LS.out; omega, by rw [hfs]; exact h.2⟩)
    · rcases h with h | h | h
      · have := HS.out g h; omega
      · have := HSU.out g h; omega
      · have := LS.out; omega
  · refine below_set4 ?_ _ _ _ _ (by omega)
    exact LB.out.trans (C5.out.toBelow (by have := LS.out; omega) (fun k hk h => by have h : k = w.heap.size + 1 := h; omega))

set_option maxHeartbeats 1600000 in
theorem tc_Fill (t u : Ty) (n : Int) (S Su : Nat → Prop) (v uv : Value) (w : World) (hv : RdV S w t v) (hu : RdV Su w u uv) (hS : ∀ g, S g → g < w.heap.size) (hSu : ∀ g, Su g → g < w.heap.size) (hnm : Nm t) (hnu : Nm u) (hsz : t.size ≤ 1000000) (hsu : u.size ≤ 1000000) (ht : Tab w) :
    Calls Tryz.prog 19 #[v, .int .i64 n, uv] w (QPst S Su (putT (isPM n) t u) w) := by
  obtain ⟨K, X, Z, A, m, cq, rfl, -, -, -, -, -⟩ := hv.parts
  obtain ⟨K', X', Z', A', m', cq', rfl, -, -, -, -, -⟩ := hu.parts
  have hmf : ∀ (fn : Fn) (first cap : Array Value) (w : World), (Instr.makeFunc fn first cap).run Tryz.prog w = .ok (.func fn first cap) w := fun _ _ _ _ => rfl
  obtain ⟨l0, l1, l2, l3, ls, lb⟩ := laid4 w (.cells #[.int .i64 K, .string X, .int .i64 Z, .slice A m cq] 25) (.cells #[.int .i64 n] 3) (.cells #[.int .i64 K', .string X', .int .i64 Z', .slice A' m' cq'] 25) (.cells #[.int .i64 0, .string ⟨#[]⟩, .int .i64 0, .slice none 0 0] 25)
  obtain ⟨W4, hW4⟩ : ∃ W, (((w.alloc (.cells #[.int .i64 K, .string X, .int .i64 Z, .slice A m cq] 25)).alloc (.cells #[.int .i64 n] 3)).alloc (.cells #[.int .i64 K', .string X', .int .i64 Z', .slice A' m' cq'] 25)).alloc (.cells #[.int .i64 0, .string ⟨#[]⟩, .int .i64 0, .slice none 0 0] 25) = W := ⟨_, rfl⟩
  rw [hW4] at l0 l1 l2 l3 ls lb
  have htl := ht.lt
  have HPUT := hidE (tc_put 55 #[.pointer (some ⟨w.heap.size + 1, 0, none⟩)] (fun w' => Blk w' (w.heap.size + 1) 3 #[.int .i64 n]) (only (w.heap.size + 1)) (isPM n) (fun a b h hk => Blk.same h (hk _ rfl)) (enters_of Tryz.func55 (by kernel_rfl) rfl) (tc_Fill1 (w.heap.size + 1) n)
    t u S Su _ _ W4 l1 (fun g hg => by have hg : g = w.heap.size + 1 := hg; omega) (hv.keep (fun _ h => h) (fun g hg => lb.block g (hS g hg))) (hu.keep (fun _ h => h) (fun g hg => lb.block g (hSu g hg)))
    (fun g hg => ⟨by have := hS g hg; omega, fun h => by have := hS g hg; have h : g = w.heap.size + 1 := h; omega⟩) (fun g hg => ⟨by have := hSu g hg; omega, fun h => by have := hSu g hg; have h : g = w.heap.size + 1 := h; omega⟩) hnm hnu hsz hsu (ht.below lb) (fun h => by have h : 0 = w.heap.size + 1 := h; omega))
  obtain ⟨p0, p1, p2, p3, p4, p5, p6, p7, p8⟩ := blk_facts4 (show Blk W4 w.heap.size 25 _ from l0)
  obtain ⟨q0, q1, q2, q3, q4, q5, q6, q7, q8⟩ := blk_facts4 (show Blk W4 (w.heap.size + 1 + 1) 25 _ from l2)
  have L3 : Hid (Blk W4 (w.heap.size + 1 + 1 + 1) 25 #[.int .i64 0, .string ⟨#[]⟩, .int .i64 0, .slice none 0 0]) := hidE l3
  have LS := hidE ls
  have LB := hidE lb
  have HS := hidE hS
  have HSU := hidE hSu
  obtain ⟨R, hR⟩ : ∃ R, putT (isPM n) t u = R := ⟨_, rfl⟩
  rw [hR] at HPUT ⊢
  unfold fnV at HPUT
  clear hv hu hS hSu hnm hnu ht l0 l1 l2 l3 ls lb hR
  go_enter Tryz.func19, Tryz.ntmps19
  go_wp2_with fail
  refine HPUT.out.mono ?_
  rintro e w5 ⟨k', x', z', a', m', q', rfl, hr, c5⟩
  have hs5 := c5.size
  rw [LS.out] at hs5
  have kk3 := Blk.chg L3.out c5 (fun h => by have h : w.heap.size + 1 + 1 + 1 = w.heap.size + 1 := h; omega)
  obtain ⟨i0, i1, i2, i3, i4, i5, i6, i7, i8⟩ := blk_facts4 kk3
  have HR := hidE hr
  have C5 := hidE c5
  have K5 := hidE kk3
  clear hr c5 kk3 HPUT
  go_wp2_with fail
  have hb := blk_set4 (.int .i64 k') (.string x') (.int .i64 z') (.slice a' m' q') K5.out
  have hf : ∀ g, g ≠ w.heap.size + 1 + 1 + 1 → ((((w5.setCell ⟨w.heap.size + 1 + 1 + 1, 0, none⟩ (.int .i64 k')).setCell ⟨w.heap.size + 1 + 1 + 1, 1, none⟩ (.string x')).setCell ⟨w.heap.size + 1 + 1 + 1, 2, none⟩ (.int .i64 z')).setCell ⟨w.heap.size + 1 + 1 + 1, 3, none⟩ (.slice a' m' q')).heap[g]? = w5.heap[g]? := fun g hg => heap_set4 _ _ _ _ _ _ _ hg
  have hfs : ((((w5.setCell ⟨w.heap.size + 1 + 1 + 1, 0, none⟩ (.int .i64 k')).setCell ⟨w.heap.size + 1 + 1 + 1, 1, none⟩ (.string x')).setCell ⟨w.heap.size + 1 + 1 + 1, 2, none⟩ (.int .i64 z')).setCell ⟨w.heap.size + 1 + 1 + 1, 3, none⟩ (.slice a' m' q')).heap.size = w5.heap.size := by simp
  refine bodyPost_ret (results_cell_row rfl _ _ (w.heap.size + 1 + 1 + 1) 25 _ (0, 0) _ rfl hb Tryz.underlying25 rfl (by kernel_rfl)) rfl ⟨k', x', z', a', m', q', rfl, ?_, ?_⟩
  · refine HR.out.keep (fun g h => ?_) (fun g h => hf g ?_)
    · rcases h with h | h | h
      · exact .inl h
      · exact .inr (.inl h)
      · exact .inr (.inr ⟨by have := LS.out; omega, by rw [hfs]; exact h.2⟩)
    · rcases h with h | h | h
      · have := HS.out g h; omega
      · have := HSU.out g h; omega
      · have := LS.out; omega
  · refine below_set4 ?_ _ _ _ _ (by omega)
    exact LB.out.trans (C5.out.toBelow (by have := LS.out; omega) (fun k hk h => by have h : k = w.heap.size + 1 := h; omega))

end Go.Proofs.YthgkpmgcikopnaaGreatDoor

/-
  The laws of types: types in boxes; reading a text that is known.
-/
namespace Go.Proofs.YthgkpmgcikopnaaGreatDoor
open Go.RowKit Lx Tx Go.Maps Go.WideMaps Go.Shelf
set_option maxRecDepth 100000

/-- block g holds this type; what is behind its arguments lies below N -/
structure Bx (N : Nat) (w : World) (g : Nat) (t : Ty) (K : Int) (X : ByteArray) (Z : Int) (A : Option Addr) (m c : Nat) : Prop where
  blk : Blk w g 25 #[.int .i64 K, .string X, .int .i64 Z, .slice A m c]
  rd : RdV (fun g => g < N) w t (.agg #[.int .i64 K, .string X, .int .i64 Z, .slice A m c])
  lt : N ≤ w.heap.size
theorem Bx.below {N : Nat} {w w' : World} {g : Nat} {t : Ty} {K : Int} {X : ByteArray} {Z : Int} {A : Option Addr} {m c : Nat} (h : Bx N w g t K X Z A m c) (hb : Below w.heap.size w w') : Bx N w' g t K X Z A m c :=
  ⟨h.blk.below hb h.blk.lt, h.rd.keep (fun _ h => h) (fun g hg => hb.block g (Nat.lt_of_lt_of_le hg h.lt)), Nat.le_trans h.lt hb.size⟩
theorem Bx.cells {N : Nat} {w : World} {g : Nat} {t : Ty} {K : Int} {X : ByteArray} {Z : Int} {A : Option Addr} {m c : Nat} (h : Bx N w g t K X Z A m c) :
    w.cell? ⟨g, 0, none⟩ = some (.int .i64 K) ∧ w.cell? ⟨g, 1, none⟩ = some (.string X) ∧ w.cell? ⟨g, 2, none⟩ = some (.int .i64 Z) ∧ w.cell? ⟨g, 3, none⟩ = some (.slice A m c) := ⟨h.blk.cell 0, h.blk.cell 1, h.blk.cell 2, h.blk.cell 3⟩
theorem Bx.made {w : World} {t : Ty} {K : Int} {X : ByteArray} {Z : Int} {A : Option Addr} {m c : Nat} (h : RdV (fun g => g < w.heap.size) w t (.agg #[.int .i64 K, .string X, .int .i64 Z, .slice A m c])) :
    Bx w.heap.size (w.alloc (.cells #[.int .i64 K, .string X, .int .i64 Z, .slice A m c] 25)) w.heap.size t K X Z A m c :=
  ⟨heap_alloc_new w _, h.keep (fun _ h => h) (fun g hg => Below.heap_alloc w _ g hg), by simp⟩

/-- what Parse leaves, where the text is a type -/
def OkPst (t : Ty) (w : World) (e : Ending) (w' : World) : Prop :=
  ∃ K X Z A m c, e = .returned (.tuple #[.agg #[.int .i64 K, .string X, .int .i64 Z, .slice A m c], .int .i64 0]) ∧ RdV (fun g => g < w'.heap.size) w' t (.agg #[.int .i64 K, .string X, .int .i64 Z, .slice A m c]) ∧ Below w.heap.size w w'
/-- where it is none -/
def ErrPst (n : Nat) (w : World) (e : Ending) (w' : World) : Prop :=
  ∃ K X Z A m c, e = .returned (.tuple #[.agg #[.int .i64 K, .string X, .int .i64 Z, .slice A m c], .int .i64 (n : Nat)]) ∧ Below w.heap.size w w'
theorem tc_parseOk (s : ByteArray) (t : Ty) (h : parse s.data.toList = .ok t) (w : World) (hs : s.size ≤ maxLen) : Calls Tryz.prog 12 #[.string s] w (OkPst t w) := by
  refine (tc_parse s w hs).mono ?_
  rintro e w' ⟨hb, K, X, Z, A, m, c, ⟨n, h0, hp, -⟩ | ⟨u, hp, he, hr⟩⟩
  · rw [h] at hp; cases hp
  · rw [h] at hp
    injection hp with hp
    subst hp
    exact ⟨K, X, Z, A, m, c, he, hr.keep (fun g hg => hg.2) (fun _ _ => rfl), hb⟩
theorem tc_parseErr (s : ByteArray) (n : Nat) (h : parse s.data.toList = .error n) (w : World) (hs : s.size ≤ maxLen) : Calls Tryz.prog 12 #[.string s] w (ErrPst n w) := by
  refine (tc_parse s w hs).mono ?_
  rintro e w' ⟨hb, K, X, Z, A, m, c, ⟨k, h0, hp, he⟩ | ⟨u, hp, he, hr⟩⟩
  · rw [h] at hp
    injection hp with hp
    subst hp
    exact ⟨K, X, Z, A, m, c, he, hb⟩
  · rw [h] at hp; cases hp
theorem parse_zero {s : List UInt8} {n : Nat} (h : parse s = .error n) : n ≠ 0 := by
  intro e
  subst e
  unfold parse at h
  obtain ⟨⟨ts, l, er⟩, hq⟩ : ∃ p, scanS s = p := ⟨_, rfl⟩
  rw [hq] at h
  cases er with
  | zero =>
    simp only at h
    split at h
    · split at h
      · injection h with h; omega
      · cases h
    · injection h with h; omega
  | succ k =>
    simp at h

/-- what is free: a slice of names -/
def FreePst (l : List Name) (w : World) (e : Ending) (w' : World) : Prop :=
  ∃ A cp, e = .returned (.slice A l.length cp) ∧ RowV w' (.slice A l.length cp) (strV l) ∧ Below w.heap.size w w'
def MetasPst (l : List Nat) (w : World) (e : Ending) (w' : World) : Prop :=
  ∃ A cp, e = .returned (.slice A l.length cp) ∧ RowV w' (.slice A l.length cp) (intV l) ∧ Below w.heap.size w w'

section
variable {N : Nat} {w : World} {g : Nat} {t : Ty} {K : Int} {X : ByteArray} {Z : Int} {A : Option Addr} {m c : Nat}
theorem Bx.lt' (h : Bx N w g t K X Z A m c) : ∀ q, q < N → q < w.heap.size := fun _ hq => Nat.lt_of_lt_of_le hq h.lt
theorem Bx.print (h : Bx N w g t K X Z A m c) (hn : Nm t) (hs : t.size ≤ 1000000) (ht : Tab w) :
    Calls Tryz.prog 14 #[.agg #[.int .i64 K, .string X, .int .i64 Z, .slice A m c]] w fun e w' => e = .returned (.string ⟨t.print.toArray⟩) ∧ Below w.heap.size w w' :=
  tc_print t _ _ w hs hn h.rd h.lt' ht (by have := (print_len t hn).1; omega)
theorem Bx.canon (h : Bx N w g t K X Z A m c) (hn : Nm t) (hs : t.size ≤ 1000000) (ht : Tab w) :
    Calls Tryz.prog 15 #[.agg #[.int .i64 K, .string X, .int .i64 Z, .slice A m c]] w fun e w' => e = .returned (.string ⟨t.canonT.print.toArray⟩) ∧ Below w.heap.size w w' :=
  tc_canon t _ _ w h.rd h.lt' hn hs ht
theorem Bx.free (h : Bx N w g t K X Z A m c) (hn : Nm t) (hs : t.size ≤ 1000000) :
    Calls Tryz.prog 36 #[.agg #[.int .i64 K, .string X, .int .i64 Z, .slice A m c]] w (FreePst t.free w) := by
  have := tc_free t _ _ w h.rd h.lt' hn hs
  rw [freeL_eq] at this
  refine this.mono ?_
  rintro e w' ⟨A, cp, rfl, ho, -, hb⟩
  exact ⟨A, cp, rfl, RowV.of_own ho, hb⟩
theorem Bx.metas (h : Bx N w g t K X Z A m c) (hn : Nm t) (hs : t.size ≤ 1000000) :
    Calls Tryz.prog 37 #[.agg #[.int .i64 K, .string X, .int .i64 Z, .slice A m c]] w (MetasPst t.metas w) := by
  have := tc_metas t _ _ w h.rd h.lt' hn hs
  rw [metasL_eq] at this
  refine this.mono ?_
  rintro e w' ⟨A, cp, rfl, ho, -, hb⟩
  exact ⟨A, cp, rfl, RowV.of_own ho, hb⟩
theorem Bx.depth (h : Bx N w g t K X Z A m c) (hs : t.size ≤ 1000000) :
    Calls Tryz.prog 33 #[.agg #[.int .i64 K, .string X, .int .i64 Z, .slice A m c]] w fun e w' => e = .returned (.int .i64 (t.depth : Nat)) ∧ Below w.heap.size w w' :=
  tc_depth 1000000 t _ _ w hs (Nat.le_refl _) h.rd h.lt'
end

/-- what Put and Fill leave, told by the end of the heap -/
def PutPst (t : Ty) (w : World) (e : Ending) (w' : World) : Prop :=
  ∃ k x z a m q, e = .returned (.agg #[.int .i64 k, .string x, .int .i64 z, .slice a m q]) ∧ RdV (fun g => g < w'.heap.size) w' t (.agg #[.int .i64 k, .string x, .int .i64 z, .slice a m q]) ∧ Below w.heap.size w w'
section
variable {N N' : Nat} {w : World} {t u : Ty} {v uv : Value}
theorem rd_put (hv : RdV (fun g => g < N) w t v) (hu : RdV (fun g => g < N') w u uv) (hN : N ≤ w.heap.size) (hN' : N' ≤ w.heap.size) (hnm : Nm t) (hnu : Nm u) (hsz : t.size ≤ 1000000) (hsu : u.size ≤ 1000000) (ht : Tab w) (Y : ByteArray) :
    Calls Tryz.prog 18 #[v, .string Y, uv] w (PutPst (putT (isPV Y.data.toList) t u) w) := by
  refine (tc_Put t u Y _ _ v uv w hv hu (fun g hg => Nat.lt_of_lt_of_le hg hN) (fun g hg => Nat.lt_of_lt_of_le hg hN') hnm hnu hsz hsu ht).mono ?_
  rintro e w' ⟨k, x, z, a, m, q, rfl, hr, hb⟩
  have := hb.size
  exact ⟨k, x, z, a, m, q, rfl, hr.keep (fun g hg => by rcases hg with h | h | h <;> omega) (fun _ _ => rfl), hb⟩
theorem rd_fill (hv : RdV (fun g => g < N) w t v) (hu : RdV (fun g => g < N') w u uv) (hN : N ≤ w.heap.size) (hN' : N' ≤ w.heap.size) (hnm : Nm t) (hnu : Nm u) (hsz : t.size ≤ 1000000) (hsu : u.size ≤ 1000000) (ht : Tab w) (n : Int) :
    Calls Tryz.prog 19 #[v, .int .i64 n, uv] w (PutPst (putT (isPM n) t u) w) := by
  refine (tc_Fill t u n _ _ v uv w hv hu (fun g hg => Nat.lt_of_lt_of_le hg hN) (fun g hg => Nat.lt_of_lt_of_le hg hN') hnm hnu hsz hsu ht).mono ?_
  rintro e w' ⟨k, x, z, a, m, q, rfl, hr, hb⟩
  have := hb.size
  exact ⟨k, x, z, a, m, q, rfl, hr.keep (fun g hg => by rcases hg with h | h | h <;> omega) (fun _ _ => rfl), hb⟩
end

end Go.Proofs.YthgkpmgcikopnaaGreatDoor

/-
  The laws of types: the chapter's examples.
-/
namespace Go.Proofs.YthgkpmgcikopnaaGreatDoor
open Go.RowKit Lx Tx Go.Maps Go.WideMaps Go.Shelf
set_option maxRecDepth 100000

/-- forall a b. (a -> T b) -> b -/
def exA : Ty := .all [97] (.all [98] (.fn (.fn (.var [97]) (.con [84] [.var [98]])) (.var [98])))
/-- T a (U b) ?3 -> c -> d -/
def exB : Ty := .fn (.con [84] [.var [97], .con [85] [.var [98]], .mt 3]) (.fn (.var [99]) (.var [100]))
/-- forall a. x0 -> a -/
def exC : Ty := .all [97] (.fn (.var [120, 48]) (.var [97]))
/-- forall a. a -> b -/
def exD : Ty := .all [97] (.fn (.var [97]) (.var [98]))
def exU : Ty := .var [97]
def sA : ByteArray := { data := #[102, 111, 114, 97, 108, 108, 32, 97, 46, 102, 111, 114, 97, 108, 108, 32, 98, 32, 46, 32, 40, 97, 45, 62, 84, 32, 40, 98, 41, 41, 45, 62, 98] }
def sB : ByteArray := { data := #[84, 32, 97, 32, 40, 85, 32, 98, 41, 32, 63, 51, 32, 45, 62, 32, 40, 99, 32, 45, 62, 32, 100, 41] }
def sG : ByteArray := { data := #[97, 32, 98] }
def sC : ByteArray := { data := #[102, 111, 114, 97, 108, 108, 32, 97, 46, 32, 120, 48, 32, 45, 62, 32, 97] }
def sD : ByteArray := { data := #[102, 111, 114, 97, 108, 108, 32, 97, 46, 32, 97, 32, 45, 62, 32, 98] }
def sU : ByteArray := { data := #[97] }
theorem parse_A : parse sA.data.toList = .ok exA := by kernel_rfl
theorem parse_B : parse sB.data.toList = .ok exB := by kernel_rfl
theorem parse_G : parse sG.data.toList = .error 20 := by kernel_rfl
theorem parse_H : parse (ByteArray.mk #[]).data.toList = .error 20 := by kernel_rfl
theorem parse_C : parse sC.data.toList = .ok exC := by kernel_rfl
theorem parse_D : parse sD.data.toList = .ok exD := by kernel_rfl
theorem parse_U : parse sU.data.toList = .ok exU := by kernel_rfl
theorem print_A : (⟨exA.print.toArray⟩ : ByteArray) = { data := #[102, 111, 114, 97, 108, 108, 32, 97, 32, 98, 46, 32, 40, 97, 32, 45, 62, 32, 84, 32, 98, 41, 32, 45, 62, 32, 98] } := by kernel_rfl
theorem canon_A : (⟨exA.canonT.print.toArray⟩ : ByteArray) = { data := #[102, 111, 114, 97, 108, 108, 32, 120, 48, 32, 120, 49, 46, 32, 40, 120, 48, 32, 45, 62, 32, 84, 32, 120, 49, 41, 32, 45, 62, 32, 120, 49] } := by kernel_rfl
theorem print_B : (⟨exB.print.toArray⟩ : ByteArray) = { data := #[84, 32, 97, 32, 40, 85, 32, 98, 41, 32, 63, 51, 32, 45, 62, 32, 99, 32, 45, 62, 32, 100] } := by kernel_rfl
theorem free_B : exB.free.length = 4 := by kernel_rfl
theorem metas_B : exB.metas.length = 1 := by kernel_rfl
theorem canon_C : (⟨exC.canonT.print.toArray⟩ : ByteArray) = { data := #[102, 111, 114, 97, 108, 108, 32, 120, 49, 46, 32, 120, 48, 32, 45, 62, 32, 120, 49] } := by kernel_rfl
theorem canon_D : (⟨(putT (isPV [98]) exD exU).canonT.print.toArray⟩ : ByteArray) = { data := #[102, 111, 114, 97, 108, 108, 32, 120, 48, 46, 32, 120, 48, 32, 45, 62, 32, 97] } := by kernel_rfl

end Go.Proofs.YthgkpmgcikopnaaGreatDoor

/-
  Package types: what is put, as mathematics: places are counted as they are met, and no name that is free in what is put is bound around it.
-/
namespace Go.Proofs.YthgkpmgcikopnaaGreatDoor
open Go.RowKit Lx Tx
set_option maxRecDepth 100000

mutual
/-- how many places, where these names are bound -/
def cnt (isP : Ty → Bool) (env : List Name) : Ty → Nat
  | .var x => if x ∉ env ∧ isP (.var x) = true then 1 else 0
  | .mt n => if isP (.mt n) = true then 1 else 0
  | .con _ l => cntL isP env l
  | .fn a b => cnt isP env a + cnt isP env b
  | .all x t => cnt isP (x :: env) t
def cntL (isP : Ty → Bool) (env : List Name) : List Ty → Nat
  | [] => 0
  | t :: r => cnt isP env t + cntL isP env r
end
mutual
/-- how many within each for all, in the order in which these are written -/
def pls (isP : Ty → Bool) (env : List Name) : Ty → List Nat
  | .var _ => []
  | .mt _ => []
  | .con _ l => plsL isP env l
  | .fn a b => pls isP env a ++ pls isP env b
  | .all x t => cnt isP (x :: env) t :: pls isP (x :: env) t
def plsL (isP : Ty → Bool) (env : List Name) : List Ty → List Nat
  | [] => []
  | t :: r => pls isP env t ++ plsL isP env r
end

mutual
theorem thr_pls (isP : Ty → Bool) : (t : Ty) → ∀ (env : List Name) (s : Pl), thr (plCome isP) plLeave env t s = ⟨s.ar, s.wi ++ pls isP env t, s.al + cnt isP env t⟩
  | .var x, env, s => by
    rw [thr, cnt, pls, List.append_nil]
    show plCome isP env (.var x) s = _
    unfold plCome
    rw [if_neg (show ¬ kd (Ty.var x) = 5 from fun h => by simp [kd] at h)]
    have hl : (isLf env (.var x) = true ∧ isP (.var x) = true) ↔ (x ∉ env ∧ isP (.var x) = true) := by
      show (decide (x ∉ env) = true ∧ _) ↔ _
      rw [decide_eq_true_iff]
    by_cases h : x ∉ env ∧ isP (.var x) = true
    · rw [if_pos (hl.2 h), if_pos h]
    · rw [if_neg (fun e => h (hl.1 e)), if_neg h]; rfl
  | .mt n, env, s => by
    rw [thr, cnt, pls, List.append_nil]
    show plCome isP env (.mt n) s = _
    unfold plCome
    rw [if_neg (show ¬ kd (Ty.mt n) = 5 from fun h => by simp [kd] at h)]
    by_cases h : isP (.mt n) = true
    · rw [if_pos ⟨rfl, h⟩, if_pos h]
    · rw [if_neg (fun e => h e.2), if_neg h]; rfl
  | .con c l, env, s => by
    rw [thr, cnt, pls]
    show thrL (plCome isP) plLeave env l (plCome isP env (.con c l) s) = _
    rw [show plCome isP env (.con c l) s = s from (if_neg (fun h => by simp [kd] at h)).trans (if_neg (fun e => by cases e.1))]
    exact thrL_pls isP l env s
  | .fn a b, env, s => by
    rw [thr, cnt, pls]
    show thr (plCome isP) plLeave env b (thr (plCome isP) plLeave env a (plCome isP env (.fn a b) s)) = _
    rw [show plCome isP env (.fn a b) s = s from (if_neg (fun h => by simp [kd] at h)).trans (if_neg (fun e => by cases e.1)), thr_pls isP a, thr_pls isP b]
    simp only [List.append_assoc, Nat.add_assoc]
  | .all x t, env, s => by
    rw [thr, cnt, pls, plCome_all isP env (.all x t) s rfl, thr_pls isP t]
    show plLeave env (.all x t) _ = _
    unfold plLeave
    rw [if_pos (show kd (Ty.all x t) = 5 from rfl)]
    have h1 : (s.ar ++ [s.wi.length]).getD ((s.ar ++ [s.wi.length]).length - 1) 0 = s.wi.length := by simp
    simp only [h1]
    congr 1
    · simp
    · rw [List.append_assoc, List.getD_eq_getElem?_getD, List.getElem?_append_right (Nat.le_refl _)]
      rw [List.set_append_right _ _ (Nat.le_refl _)]
      simp
theorem thrL_pls (isP : Ty → Bool) : (l : List Ty) → ∀ (env : List Name) (s : Pl), thrL (plCome isP) plLeave env l s = ⟨s.ar, s.wi ++ plsL isP env l, s.al + cntL isP env l⟩
  | [], env, s => by rw [thrL, cntL, plsL, List.append_nil]; rfl
  | t :: r, env, s => by
    rw [thrL, cntL, plsL, thr_pls isP t, thrL_pls isP r]
    simp only [List.append_assoc, Nat.add_assoc]
end
theorem placesOf_eq (isP : Ty → Bool) (t : Ty) : placesOf isP t = ⟨[], pls isP [] t, cnt isP [] t⟩ := by
  unfold placesOf
  rw [thr_pls]
  simp

mutual
/-- all its variables and bound names stand in this list -/
def NIn (but : List Name) : Ty → Prop
  | .var x => x ∈ but
  | .mt _ => True
  | .con _ l => NInL but l
  | .fn a b => NIn but a ∧ NIn but b
  | .all x t => x ∈ but ∧ NIn but t
def NInL (but : List Name) : List Ty → Prop
  | [] => True
  | t :: r => NIn but t ∧ NInL but r
end

section
variable (isP : Ty → Bool) (u : Ty) (but free : List Name)
/-- what stands in the place of a free name -/
def Fu (isP : Ty → Bool) (u : Ty) (x : Name) : Dt := if isP (.var x) = true then db [] u else .fv x
/-- what stands in the place of an unknown -/
def Gu (isP : Ty → Bool) (u : Ty) (n : Nat) : Dt := if isP (.mt n) = true then db [] u else .mt n
mutual
theorem rep_none : (t : Ty) → ∀ env, cnt isP env t = 0 → repD (Fu isP u) (Gu isP u) (db env t) = db env t
  | .var x, env, h => by
    rw [db]
    cases hi : idx x env with
    | some i => rw [repD]
    | none =>
      rw [cnt] at h
      have hx : x ∉ env := (idx_none x env).1 hi
      rw [repD, Fu, if_neg]
      intro hp
      rw [if_pos ⟨hx, hp⟩] at h
      exact absurd h (by decide)
  | .mt n, env, h => by
    rw [cnt] at h
    rw [db, repD, Gu, if_neg]
    intro hp
    rw [if_pos hp] at h
    exact absurd h (by decide)
  | .con c l, env, h => by rw [cnt] at h; rw [db, repD, rep_noneL l env h]
  | .fn a b, env, h => by
    rw [cnt] at h
    rw [db, repD, rep_none a env (by omega), rep_none b env (by omega)]
  | .all x t, env, h => by rw [cnt] at h; rw [db, repD, rep_none t (x :: env) h]
theorem rep_noneL : (l : List Ty) → ∀ env, cntL isP env l = 0 → repDL (Fu isP u) (Gu isP u) (dbL env l) = dbL env l
  | [], env, h => by rw [dbL, repDL]
  | t :: r, env, h => by
    rw [cntL] at h
    rw [dbL, repDL, rep_none t env (by omega), rep_noneL r env (by omega)]
end

/-- old names and new ones: as many; what is bound stays bound by the same for all, what is free stays free -/
structure Ren (env : List (Name × Name)) (xs ys : List Name) (k : Nat) : Prop where
  lk : ∀ x, look x env = (idx x xs).map fun i => ys.getD i []
  hit : ∀ x ∈ but, ∀ i, idx x xs = some i → i < ys.length ∧ idx (ys.getD i []) ys = some i
  miss : ∀ x ∈ but, idx x xs = none → x ∉ ys
  kept : ∀ (i : Nat) (y : Name), ys[i]? = some y → y ∈ but → xs[i]? = some y
  made : ∀ y ∈ ys, y ∈ but ∨ ∃ j, j < k ∧ y = nm 120 j
theorem Ren.nil : Ren but [] [] [] 0 where
  lk x := rfl
  hit x _ i h := by simp [idx] at h
  miss x _ _ h := (List.not_mem_nil h).elim
  kept i y h := by simp at h
  made y h := (List.not_mem_nil h).elim
theorem look_step {env : List (Name × Name)} {xs ys : List Name} (h : ∀ x, look x env = (idx x xs).map fun i => ys.getD i []) (x y z : Name) :
    look z ((x, y) :: env) = (idx z (x :: xs)).map fun i => (y :: ys).getD i [] := by
  rw [look, idx]
  by_cases hz : x = z
  · rw [if_pos hz, if_pos hz.symm]; rfl
  · rw [if_neg hz, if_neg (fun e => hz e.symm), h z]
    cases idx z xs <;> rfl
theorem Ren.keep {env : List (Name × Name)} {xs ys : List Name} {k : Nat} (h : Ren but env xs ys k) (x : Name) (hx : x ∈ but) : Ren but ((x, x) :: env) (x :: xs) (x :: ys) k where
  lk := look_step h.lk x x
  hit z hz i hi := by
    rw [idx] at hi
    by_cases e : z = x
    · rw [if_pos e] at hi
      injection hi with hi
      subst hi
      exact ⟨by simp, by rw [List.getD_cons_zero, idx, if_pos rfl]⟩
    · rw [if_neg e] at hi
      cases hj : idx z xs with
      | none => rw [hj] at hi; cases hi
      | some j =>
        rw [hj] at hi
        injection hi with hi
        subst hi
        obtain ⟨h1, h2⟩ := h.hit z hz j hj
        refine ⟨by simp; omega, ?_⟩
        rw [List.getD_cons_succ, idx, if_neg, h2]
        · rfl
        · intro he
          have hy : ys[j]? = some x := by rw [List.getElem?_eq_getElem h1, ← he, List.getD_eq_getElem?_getD, List.getElem?_eq_getElem h1]; rfl
          have hxs := h.kept j x hy hx
          have hlt := idx_lt z xs j hj
          have : xs.getD j [] = z := by
            have key : ∀ (l : List Name) (j : Nat), idx z l = some j → l.getD j [] = z := by
              intro l
              induction l with
              | nil => intro j h; simp [idx] at h
              | cons a r ih =>
                intro j h
                rw [idx] at h
                by_cases e : z = a
                · rw [if_pos e] at h; injection h with h; subst h; simp [e]
                · rw [if_neg e] at h
                  cases hr : idx z r with
                  | none => rw [hr] at h; cases h
                  | some q => rw [hr] at h; injection h with h; subst h; simpa using ih q hr
            exact key xs j hj
          rw [List.getD_eq_getElem?_getD, hxs] at this
          exact e this.symm
  miss z hz hi hm := by
    rw [idx] at hi
    by_cases e : z = x
    · rw [if_pos e] at hi; cases hi
    · rw [if_neg e] at hi
      rcases List.mem_cons.1 hm with hm | hm
      · exact e hm
      · exact h.miss z hz (by cases hj : idx z xs with | none => rfl | some j => rw [hj] at hi; cases hi) hm
  kept i y hi hy := by
    cases i with
    | zero => exact hi
    | succ i => exact h.kept i y hi hy
  made y hy := by
    rcases List.mem_cons.1 hy with rfl | hy
    · exact .inl hx
    · exact h.made y hy
theorem Ren.more {env : List (Name × Name)} {xs ys : List Name} {k k' : Nat} (h : Ren but env xs ys k) (hk : k ≤ k') : Ren but env xs ys k' :=
  { h with made := fun y hy => by rcases h.made y hy with h | ⟨j, h1, h2⟩; exact .inl h; exact .inr ⟨j, by omega, h2⟩ }
theorem Ren.fresh {env : List (Name × Name)} {xs ys : List Name} {k : Nat} (h : Ren but env xs ys k) (x : Name) (hb : k + but.length + 1 < 10 ^ 15) :
    Ren but ((x, nm 120 (nextK 120 but k)) :: env) (x :: xs) (nm 120 (nextK 120 but k) :: ys) (nextK 120 but k + 1) := by
  obtain ⟨n0, n1, n2⟩ := nextK_spec 120 but k (by omega)
  have hny : nm 120 (nextK 120 but k) ∉ ys := fun hm => by
    rcases h.made _ hm with hm | ⟨j, h1, h2⟩
    · exact n0 hm
    · have := nm_inj 120 _ _ (by omega) (by omega) h2; omega
  refine { lk := look_step h.lk x _, hit := fun z hz i hi => ?_, miss := fun z hz hi hm => ?_, kept := fun i y hi hy => ?_, made := fun y hy => ?_ }
  · rw [idx] at hi
    by_cases e : z = x
    · rw [if_pos e] at hi
      injection hi with hi
      subst hi
      exact ⟨by simp, by rw [List.getD_cons_zero, idx, if_pos rfl]⟩
    · rw [if_neg e] at hi
      cases hj : idx z xs with
      | none => rw [hj] at hi; cases hi
      | some j =>
        rw [hj] at hi
        injection hi with hi
        subst hi
        obtain ⟨h1, h2⟩ := h.hit z hz j hj
        refine ⟨by simp; omega, ?_⟩
        rw [List.getD_cons_succ, idx, if_neg, h2]
        · rfl
        · intro he
          exact hny (by rw [← he]; exact getD_mem ys j h1)
  · rw [idx] at hi
    by_cases e : z = x
    · rw [if_pos e] at hi; cases hi
    · rw [if_neg e] at hi
      rcases List.mem_cons.1 hm with hm | hm
      · exact n0 (by rw [← hm]; exact hz)
      · exact h.miss z hz (by cases hj : idx z xs with | none => rfl | some j => rw [hj] at hi; cases hi) hm
  · cases i with
    | zero =>
      injection hi with hi
      exact absurd (by rw [hi]; exact hy) n0
    | succ i => exact h.kept i y hi hy
  · rcases List.mem_cons.1 hy with rfl | hy
    · exact .inr ⟨_, by omega, rfl⟩
    · rcases h.made y hy with h | ⟨j, h1, h2⟩
      · exact .inl h
      · exact .inr ⟨j, by omega, h2⟩

/-- what changing a type comes to, and how far the numbers of new names go -/
def Goal (ys : List Name) (d : Dt) (k f : Nat) (rest : List Nat) (r : Ty × (List Nat × Nat)) : Prop :=
  db ys r.1 = repD (Fu isP u) (Gu isP u) d ∧ r.2.1 = rest ∧ k ≤ r.2.2 ∧ r.2.2 ≤ k + f * (but.length + 1)
def GoalL (ys : List Name) (d : List Dt) (k f : Nat) (rest : List Nat) (r : List Ty × (List Nat × Nat)) : Prop :=
  dbL ys r.1 = repDL (Fu isP u) (Gu isP u) d ∧ r.2.1 = rest ∧ k ≤ r.2.2 ∧ r.2.2 ≤ k + f * (but.length + 1)
end

mutual
theorem chg_put (isP : Ty → Bool) (u : Ty) (but free : List Name) (hf : ∀ x, FvOcc x (db [] u) → x ∈ free) (hfb : ∀ x ∈ free, x ∈ but) : (t : Ty) → ∀ (env : List (Name × Name)) (xs ys : List Name) (k : Nat) (rest : List Nat),
    Ren but env xs ys k → NIn but t → (0 < cnt isP xs t → ∀ y ∈ ys, y ∉ free) → k + (t.fas + 1) * (but.length + 1) < 10 ^ 15 →
    Goal isP u but ys (db xs t) k t.fas rest (chg (bindP free but) (fun l => if isP l = true then u else l) env t (pls isP xs t ++ rest, k))
  | .var x, env, xs, ys, k, rest, hr, hn, hp, _ => by
    rw [NIn] at hn
    rw [chg, pls, hr.lk, Ty.fas, db]
    refine ⟨?_, rfl, Nat.le_refl _, Nat.le_add_right _ _⟩
    cases hi : idx x xs with
    | some i =>
      show db ys (.var (ys.getD i [])) = _
      rw [db, (hr.hit x hn i hi).2, repD]
    | none =>
      show db ys (if isP (.var x) = true then u else .var x) = _
      rw [repD, Fu]
      by_cases hq : isP (.var x) = true
      · rw [if_pos hq, if_pos hq]
        refine db_apart ys u (fun z hz hm => hp ?_ z hm (hf z hz))
        rw [cnt, if_pos ⟨(idx_none x xs).1 hi, hq⟩]
        exact Nat.one_pos
      · rw [if_neg hq, if_neg hq, db, (idx_none x ys).2 (hr.miss x hn hi)]
  | .mt n, env, xs, ys, k, rest, hr, hn, hp, _ => by
    rw [chg, pls, Ty.fas, db]
    refine ⟨?_, rfl, Nat.le_refl _, Nat.le_add_right _ _⟩
    rw [repD, Gu]
    show db ys (if isP (.mt n) = true then u else .mt n) = _
    by_cases hq : isP (.mt n) = true
    · rw [if_pos hq, if_pos hq]
      refine db_apart ys u (fun z hz hm => hp ?_ z hm (hf z hz))
      rw [cnt, if_pos hq]
      exact Nat.one_pos
    · rw [if_neg hq, if_neg hq, db]
  | .con c l, env, xs, ys, k, rest, hr, hn, hp, hb => by
    rw [NIn] at hn
    rw [cnt] at hp
    rw [Ty.fas] at hb ⊢
    obtain ⟨h1, h2, h3, h4⟩ := chg_putL isP u but free hf hfb l env xs ys k rest hr hn hp hb
    rw [chg, pls, db]
    exact ⟨by show db ys (.con c _) = _; rw [db, repD, h1], h2, h3, h4⟩
  | .fn a b, env, xs, ys, k, rest, hr, hn, hp, hb => by
    rw [NIn] at hn
    rw [cnt] at hp
    rw [Ty.fas] at hb ⊢
    have e : (a.fas + b.fas + 1) * (but.length + 1) = a.fas * (but.length + 1) + (b.fas + 1) * (but.length + 1) := by rw [← Nat.add_mul, Nat.add_assoc]
    have e3 : (b.fas + 1) * (but.length + 1) = b.fas * (but.length + 1) + (but.length + 1) := by rw [Nat.add_mul, Nat.one_mul]
    have e4 : (a.fas + 1) * (but.length + 1) = a.fas * (but.length + 1) + (but.length + 1) := by rw [Nat.add_mul, Nat.one_mul]
    obtain ⟨h1, h2, h3, h4⟩ := chg_put isP u but free hf hfb a env xs ys k (pls isP xs b ++ rest) hr hn.1 (fun h => hp (by omega)) (by omega)
    have hs : (chg (bindP free but) (fun l => if isP l = true then u else l) env a (pls isP xs a ++ (pls isP xs b ++ rest), k)).2 = (pls isP xs b ++ rest, (chg (bindP free but) (fun l => if isP l = true then u else l) env a (pls isP xs a ++ (pls isP xs b ++ rest), k)).2.2) := Prod.ext h2 rfl
    obtain ⟨j1, j2, j3, j4⟩ := chg_put isP u but free hf hfb b env xs ys _ rest (hr.more but h3) hn.2 (fun h => hp (by omega)) (by omega)
    rw [chg, pls, db, List.append_assoc, hs]
    refine ⟨by show db ys (.fn _ _) = _; rw [db, repD, h1, j1], j2, Nat.le_trans h3 j3, Nat.le_trans j4 ?_⟩
    rw [Nat.add_mul]; omega
  | .all x t, env, xs, ys, k, rest, hr, hn, hp, hb => by
    rw [NIn] at hn
    rw [cnt] at hp
    rw [Ty.fas] at hb ⊢
    have e4 : (t.fas + 1 + 1) * (but.length + 1) = t.fas * (but.length + 1) + (but.length + 1) + (but.length + 1) := by rw [Nat.add_mul, Nat.add_mul, Nat.one_mul]
    have e5 : (t.fas + 1) * (but.length + 1) = t.fas * (but.length + 1) + (but.length + 1) := by rw [Nat.add_mul, Nat.one_mul]
    rw [chg, pls, db]
    by_cases hc : x ∈ free ∧ 0 < cnt isP (x :: xs) t
    · have hbd : bindP free but x ((cnt isP (x :: xs) t :: pls isP (x :: xs) t) ++ rest, k) = (nm 120 (nextK 120 but k), (pls isP (x :: xs) t ++ rest, nextK 120 but k + 1)) := by
        unfold bindP; rw [if_pos ⟨hc.1, hc.2⟩]; rfl
      rw [hbd]
      obtain ⟨n0, n1, n2⟩ := nextK_spec 120 but k (by omega)
      obtain ⟨h1, h2, h3, h4⟩ := chg_put isP u but free hf hfb t _ (x :: xs) (nm 120 (nextK 120 but k) :: ys) (nextK 120 but k + 1) rest (hr.fresh but x (by omega)) hn.2 (fun h y hy => by
        rcases List.mem_cons.1 hy with rfl | hy
        · exact fun hm => n0 (hfb _ hm)
        · exact hp h y hy) (by omega)
      exact ⟨by show db ys (.all _ _) = _; rw [db, repD, h1], h2, Nat.le_trans (by omega) h3, Nat.le_trans h4 (by omega)⟩
    · have hbd : bindP free but x ((cnt isP (x :: xs) t :: pls isP (x :: xs) t) ++ rest, k) = (x, (pls isP (x :: xs) t ++ rest, k)) := by
        unfold bindP; rw [if_neg (fun h => hc ⟨h.1, h.2⟩)]; rfl
      rw [hbd]
      obtain ⟨h1, h2, h3, h4⟩ := chg_put isP u but free hf hfb t _ (x :: xs) (x :: ys) k rest (hr.keep but x hn.1) hn.2 (fun h y hy => by
        rcases List.mem_cons.1 hy with rfl | hy
        · exact fun hm => hc ⟨hm, h⟩
        · exact hp h y hy) (by omega)
      exact ⟨by show db ys (.all _ _) = _; rw [db, repD, h1], h2, Nat.le_trans (by omega) h3, Nat.le_trans h4 (by omega)⟩
theorem chg_putL (isP : Ty → Bool) (u : Ty) (but free : List Name) (hf : ∀ x, FvOcc x (db [] u) → x ∈ free) (hfb : ∀ x ∈ free, x ∈ but) : (l : List Ty) → ∀ (env : List (Name × Name)) (xs ys : List Name) (k : Nat) (rest : List Nat),
    Ren but env xs ys k → NInL but l → (0 < cntL isP xs l → ∀ y ∈ ys, y ∉ free) → k + (fasL l + 1) * (but.length + 1) < 10 ^ 15 →
    GoalL isP u but ys (dbL xs l) k (fasL l) rest (chgL (bindP free but) (fun l => if isP l = true then u else l) env l (plsL isP xs l ++ rest, k))
  | [], env, xs, ys, k, rest, _, _, _, _ => by
    rw [chgL, plsL, dbL, fasL]
    exact ⟨by show dbL ys [] = _; rw [dbL, repDL], rfl, Nat.le_refl _, Nat.le_add_right _ _⟩
  | a :: b, env, xs, ys, k, rest, hr, hn, hp, hb => by
    rw [NInL] at hn
    rw [cntL] at hp
    rw [fasL] at hb ⊢
    have e : (a.fas + fasL b + 1) * (but.length + 1) = a.fas * (but.length + 1) + (fasL b + 1) * (but.length + 1) := by rw [← Nat.add_mul, Nat.add_assoc]
    have e3 : (fasL b + 1) * (but.length + 1) = fasL b * (but.length + 1) + (but.length + 1) := by rw [Nat.add_mul, Nat.one_mul]
    have e4 : (a.fas + 1) * (but.length + 1) = a.fas * (but.length + 1) + (but.length + 1) := by rw [Nat.add_mul, Nat.one_mul]
    obtain ⟨h1, h2, h3, h4⟩ := chg_put isP u but free hf hfb a env xs ys k (plsL isP xs b ++ rest) hr hn.1 (fun h => hp (by omega)) (by omega)
    have hs : (chg (bindP free but) (fun l => if isP l = true then u else l) env a (pls isP xs a ++ (plsL isP xs b ++ rest), k)).2 = (plsL isP xs b ++ rest, (chg (bindP free but) (fun l => if isP l = true then u else l) env a (pls isP xs a ++ (plsL isP xs b ++ rest), k)).2.2) := Prod.ext h2 rfl
    obtain ⟨j1, j2, j3, j4⟩ := chg_putL isP u but free hf hfb b env xs ys _ rest (hr.more but h3) hn.2 (fun h => hp (by omega)) (by omega)
    rw [chgL, plsL, dbL, List.append_assoc, hs]
    refine ⟨by show dbL ys (_ :: _) = _; rw [dbL, repDL, h1, j1], j2, Nat.le_trans h3 j3, Nat.le_trans j4 ?_⟩
    rw [Nat.add_mul]; omega
end

end Go.Proofs.YthgkpmgcikopnaaGreatDoor
