/-
  Contracts of the code's functions, part 32.
-/
import Derived.Test.YtaomnlcplmkokaaGreatDoorBuAC
import Derived.Test.YtaomnlcplmkokaaGreatDoorBuAE
import Derived.Test.YtaomnlcplmkokaaGreatDoorBuZ
import Derived.Deep.Cut
/-
  The laws of match: a list of bindings, as a text.
-/
namespace Go.Proofs.YtaomnlcplmkokaaGreatDoor
open Go.RowKit Lx Tx Go.Maps Go.WideMaps Go.Shelf
set_option maxRecDepth 100000

/-- what told tells of bindings -/
def toldS : List (Name × Ty) → List UInt8
  | [] => []
  | (x, t) :: l => 59 :: (x ++ 61 :: (t.canonT.print ++ toldS l))
theorem toldS_snoc (x : Name) (t : Ty) : (l : List (Name × Ty)) → toldS (l ++ [(x, t)]) = toldS l ++ (59 :: (x ++ 61 :: t.canonT.print))
  | [] => by simp [toldS]
  | (y, u) :: l => by rw [List.cons_append, toldS, toldS, toldS_snoc x t l]; simp
theorem toldS_len (l : List (Name × Ty)) (h : ∀ e ∈ l, e.1.length ≤ 24 ∧ Nm e.2 ∧ e.2.size ≤ 1000) : (toldS l).length ≤ 41000 * l.length := by
  induction l with
  | nil => simp [toldS]
  | cons e l ih =>
    obtain ⟨x, t⟩ := e
    obtain ⟨h1, h2, h3⟩ := h _ List.mem_cons_self
    have h1 : x.length ≤ 24 := h1
    have h2 : Nm t := h2
    have h3 : t.size ≤ 1000 := h3
    have h4 := ih (fun e he => h e (List.mem_cons_of_mem _ he))
    have h5 := (print_len t.canonT (nm_canonT t h2 (by omega))).1
    have h6 : t.canonT.size = t.size := by rw [← chg_canon]; exact chg_size _ _ _ _
    rw [toldS]
    simp only [List.length_cons, List.length_append]
    omega

/-- the cells of the binding at i -/
theorem bindV_at (q : List (Name × TV)) (i : Nat) (hi : i < q.length) : (bindV q)[i * 5]? = some (.string ⟨q[i].1.toArray⟩) ∧ (bindV q)[i * 5 + 1]? = some (.int .i64 q[i].2.k) ∧ (bindV q)[i * 5 + 2]? = some (.string q[i].2.x) ∧ (bindV q)[i * 5 + 3]? = some (.int .i64 q[i].2.z) ∧ (bindV q)[i * 5 + 4]? = some (.slice q[i].2.a q[i].2.m q[i].2.p) := by
  induction q generalizing i with
  | nil => simp at hi
  | cons e q ih =>
    cases i with
    | zero => exact ⟨rfl, rfl, rfl, rfl, rfl⟩
    | succ i =>
      have hh := ih i (by simpa using hi)
      have e5 : (i + 1) * 5 = i * 5 + 1 + 1 + 1 + 1 + 1 := by omega
      have hb : bindV (e :: q) = .string ⟨e.1.toArray⟩ :: .int .i64 e.2.k :: .string e.2.x :: .int .i64 e.2.z :: .slice e.2.a e.2.m e.2.p :: bindV q := rfl
      rw [hb, e5]
      simpa using hh
theorem RelV.at {S : Nat → Prop} {w : World} : ∀ (r : List (Name × Ty)) (q : List (Name × TV)) (i : Nat) (hr : i < r.length) (hq : i < q.length), RelV S w r q → r[i].1 = q[i].1 ∧ RdV S w r[i].2 q[i].2.val
  | [], _, i, hr, _, _ => by simp at hr
  | _ :: _, [], i, _, hq, _ => by simp at hq
  | (x, t) :: r, (y, v) :: q, i, hr, hq, h => by
    rw [RelV] at h
    cases i with
    | zero => exact ⟨h.1, h.2.1⟩
    | succ i => exact RelV.at r q i (by simpa using hr) (by simpa using hq) h.2.2
theorem bind_cell {w : World} {B n cp : Nat} {A : Option Addr} {q : List (Name × TV)} (h : w.ownsRow B 56 5 (.slice A n cp) n (bindV q)) {i : Nat} (hi : i < n) :
    ∃ g, A = some ⟨g, 0, none⟩ ∧ g < w.heap.size ∧ ∀ W : World, W.heap[g]? = w.heap[g]? → ∀ (k : Nat) u, (bindV q)[k]? = some u → W.cell? ⟨g, k, none⟩ = some u := by
  have hc := fun g hg => h.cells (g := g) hg
  have hlt := h.lt
  rcases h.2 with ⟨h0, h1⟩ | ⟨g, cap, cur, hv, hB, _⟩
  · omega
  · injection hv with h1 h2 h3
    subst h1
    refine ⟨g, rfl, (hlt g rfl).2, fun W hW k u hu => ?_⟩
    have h4 := hc g rfl k u hu
    have hadd : (⟨g, 0, none⟩ : Addr).add k = ⟨g, k, none⟩ := by unfold Addr.add; split <;> simp_all
    rw [hadd] at h4
    exact (World.cell?_of_block (w := w) (a := ⟨g, k, none⟩) hW).trans h4

/-- at the head of each round -/
def HeadTd (l : List (Name × Ty)) (n : Nat) (w0 : World) (gg : Nat) (vs vi : Value) (wr : World) : Prop :=
  ∃ i, gg = n - i ∧ vi = .int .i64 (i : Nat) ∧ i ≤ n ∧ vs = .string ⟨([121, 101, 115] ++ toldS (l.take i)).toArray⟩ ∧ Below w0.heap.size w0 wr

set_option maxHeartbeats 6400000 in
theorem tc_told (l : List (Name × Ty)) (S : Nat → Prop) (B : Nat) (A : Option Addr) (n cp : Nat) (w : World) (ht : Tab w) (hb : BindR S B w (.slice A n cp) n l) (hS : ∀ g, S g → g < w.heap.size) (hl : ∀ e ∈ l, e.1.length ≤ 24 ∧ Nm e.2 ∧ e.2.size ≤ 1000) (hn6 : n ≤ 1000) :
    Calls Tryz.prog 13 #[.slice A n cp, .bool true] w fun e w' => e = .returned (.string ⟨([121, 101, 115] ++ toldS l).toArray⟩) ∧ Below w.heap.size w w' := by
  obtain ⟨q, hrel, hq, hown⟩ := hb
  have hln : l.length = n := by rw [RelV.len l q hrel, hq]
  have HREL := hidE hrel
  have HQ := hidE hq
  have HOWN := hidE hown
  have HS := hidE hS
  have HL := hidE hl
  have HLN := hidE hln
  have HT := hidE ht
  clear hrel hq hown hS hl hln ht
  go_enter Tryz.func13, Tryz.ntmps13
  go_wp2_with fail
  go_loopg [5, 6] n (fun gg vs vi wr => HeadTd l n w gg vs vi wr)
  case atStart => exact ⟨0, rfl, rfl, Nat.zero_le _, by rw [List.take_zero, toldS]; rfl, Below.refl _ _⟩
  case round =>
    obtain ⟨i, rfl, rfl, hin, rfl, hbw⟩ := hrel
    have HBW := hidE hbw
    have hszr := hbw.size
    clear hbw
    by_cases hlt : i < n
    · have hil : i < l.length := by rw [HLN.out]; exact hlt
      have hiq : i < q.length := by rw [HQ.out]; exact hlt
      obtain ⟨g, rfl, hg1, hg2⟩ := bind_cell HOWN.out hlt
      obtain ⟨c0, c1, c2, c3, c4⟩ := bindV_at q i hiq
      obtain ⟨hx, hrd⟩ := RelV.at l q i hil hiq HREL.out
      obtain ⟨hx24, hnt, hst⟩ := HL.out _ (List.getElem_mem hil)
      have hsn : toldS (l.take (i + 1)) = toldS (l.take i) ++ (59 :: (l[i].1 ++ 61 :: l[i].2.canonT.print)) := by
        rw [List.take_succ_eq_append_getElem hil]
        exact toldS_snoc l[i].1 l[i].2 (l.take i)
      have hlen := toldS_len (l.take i) (fun e he => HL.out e (List.mem_of_mem_take he))
      rw [List.length_take] at hlen
      have hcl := (print_len l[i].2.canonT (nm_canonT _ hnt (by omega))).1
      have hcs : l[i].2.canonT.size = l[i].2.size := by rw [← chg_canon]; exact chg_size _ _ _ _
      rw [← hx] at c0
      obtain ⟨⟨x, t⟩, he⟩ : ∃ e, l[i] = e := ⟨_, rfl⟩
      obtain ⟨⟨y, k5, x5, z5, a5, m5, p5⟩, hq'⟩ : ∃ e, q[i] = e := ⟨_, rfl⟩
      rw [he] at hx24 hnt hst hsn hcl hcs hrd c0
      rw [hq'] at c1 c2 c3 c4 hrd
      replace hrd : RdV S w t (.agg #[.int .i64 k5, .string x5, .int .i64 z5, .slice a5 m5 p5]) := hrd
      have HC := hidE (fun (W : World) (hW : Below w.heap.size w W) => tc_canon t S _ W (hrd.keep (S' := S) (w' := W) (fun _ h => h) (fun g hg => hW.block g (HS.out g hg))) (fun g hg => by have := HS.out g hg; have := hW.size; omega) hnt (by have h : t.size ≤ 1000 := hst; omega) (HT.out.below hW))
      obtain ⟨PS, hPS⟩ : ∃ PS : ByteArray, (⟨([121, 101, 115] ++ toldS (l.take i)).toArray⟩ : ByteArray) = PS := ⟨_, rfl⟩
      obtain ⟨PX, hPX⟩ : ∃ PX : ByteArray, (⟨x.toArray⟩ : ByteArray) = PX := ⟨_, rfl⟩
      obtain ⟨PC, hPC⟩ : ∃ PC : ByteArray, (⟨t.canonT.print.toArray⟩ : ByteArray) = PC := ⟨_, rfl⟩
      have hPSs : PS.size ≤ 50000000 := by
        rw [← hPS]; show (([121, 101, 115] ++ toldS (l.take i)).toArray).size ≤ _
        rw [List.size_toArray, List.length_append]; simp; omega
      have hPXs : PX.size ≤ 24 := by rw [← hPX]; show x.toArray.size ≤ _; rw [List.size_toArray]; exact hx24
      have hPCs : PC.size ≤ 50000 := by rw [← hPC]; show t.canonT.print.toArray.size ≤ _; rw [List.size_toArray]; have h : t.size ≤ 1000 := hst; have h2 : t.canonT.size = t.size := hcs; have h3 : t.canonT.print.length + 6 ≤ 40 * t.canonT.size := hcl; omega
      have SOF : Hid (∀ W : World, Below w.heap.size w W → (fun W : World => W.cell? ⟨g, i * 5, none⟩ = some (.string PX) ∧ W.cell? ⟨g, i * 5 + 1, none⟩ = some (.int .i64 k5) ∧ W.cell? ⟨g, i * 5 + 2, none⟩ = some (.string x5) ∧ W.cell? ⟨g, i * 5 + 3, none⟩ = some (.int .i64 z5) ∧ W.cell? ⟨g, i * 5 + 4, none⟩ = some (.slice a5 m5 p5)) W) := hidE fun W hW => by
        have hk := hW.block g hg1
        refine ⟨?_, hg2 W hk _ _ c1, hg2 W hk _ _ c2, hg2 W hk _ _ c3, hg2 W hk _ _ c4⟩
        rw [← hPX]
        exact hg2 W hk _ _ c0
      have HNX : Hid ((⟨([121, 101, 115] ++ toldS (l.take (i + 1))).toArray⟩ : ByteArray) = (((PS ++ ⟨#[59]⟩) ++ PX) ++ ⟨#[61]⟩) ++ PC) := hidE (by
        rw [hsn, ← hPS, ← hPX, ← hPC]
        simp [ByteArray.ext_iff])
      rw [hPC] at HC
      rw [hPS]
      have B0 : Hid (Below w.heap.size w wr.drew) := hidE HBW.out.drew
      have hb1 : ¬ 9223372036854775807 < PS.size + 1 := by omega
      have hb2 : ¬ 9223372036854775807 < PS.size + 1 + PX.size := by omega
      have hb3 : ¬ 9223372036854775807 < PS.size + 1 + PX.size + 1 := by omega
      have hb4 : ¬ 9223372036854775807 < PS.size + 1 + PX.size + 1 + PC.size := by omega
      clear hx24 hnt hst hsn hlen hcl hcs hrd c0 c1 c2 c3 c4 hx he hq' hPS hPX hPC hil hiq hg2
      go_upto_region 7 with fail
      go_region_held3 (fun W : World => W.cell? ⟨g, i * 5, none⟩ = some (.string PX) ∧ W.cell? ⟨g, i * 5 + 1, none⟩ = some (.int .i64 k5) ∧ W.cell? ⟨g, i * 5 + 2, none⟩ = some (.string x5) ∧ W.cell? ⟨g, i * 5 + 3, none⟩ = some (.int .i64 z5) ∧ W.cell? ⟨g, i * 5 + 4, none⟩ = some (.slice a5 m5 p5)) (first | (with_reducible exact SOF.out _ B0.out))
        ((first | ((with_reducible refine (HC.out _ B0.out).mono ?_); rintro e w5 ⟨rfl, b5⟩; replace B0 := hidE (B0.out.trans (b5.mono B0.out.size)); clear b5)))
      all_goals
        go_wp2_with fail
        go_roundg (n - (i + 1))
        case measure => omega
        case rel => exact ⟨i + 1, rfl, by go_num, by omega, by rw [HNX.out], B0.out⟩
    · have hend : l.take i = l := List.take_of_length_le (by rw [HLN.out]; omega)
      have HE := hidE hend
      clear hend
      go_wp2_with fail
      go_ret
      rw [HE.out]
      exact ⟨rfl, HBW.out⟩

end Go.Proofs.YtaomnlcplmkokaaGreatDoor

/-
  The laws of match: the chapter's examples hold.
-/
namespace Go.Proofs.YtaomnlcplmkokaaGreatDoor
open Go.RowKit Lx Tx Go.Maps Go.WideMaps Go.Shelf
set_option maxRecDepth 100000

/-- a -> T b -/
def mxA : Ty := .fn (.var [97]) (.con [84] [.var [98]])
def msA : ByteArray := { data := #[97, 32, 45, 62, 32, 84, 32, 98] }
theorem mparse_A : parse msA.data.toList = .ok mxA := by kernel_rfl
/-- Int -> T (U c) -/
def mxB : Ty := .fn (.con [73, 110, 116] []) (.con [84] [.con [85] [.var [99]]])
def msB : ByteArray := { data := #[73, 110, 116, 32, 45, 62, 32, 84, 32, 40, 85, 32, 99, 41] }
theorem mparse_B : parse msB.data.toList = .ok mxB := by kernel_rfl
/-- a -> a -/
def mxC : Ty := .fn (.var [97]) (.var [97])
def msC : ByteArray := { data := #[97, 32, 45, 62, 32, 97] }
theorem mparse_C : parse msC.data.toList = .ok mxC := by kernel_rfl
/-- Int -> U -/
def mxD : Ty := .fn (.con [73, 110, 116] []) (.con [85] [])
def msD : ByteArray := { data := #[73, 110, 116, 32, 45, 62, 32, 85] }
theorem mparse_D : parse msD.data.toList = .ok mxD := by kernel_rfl
/-- forall a b. a -> b -/
def mxE : Ty := .all [97] (.all [98] (.fn (.var [97]) (.var [98])))
def msE : ByteArray := { data := #[102, 111, 114, 97, 108, 108, 32, 97, 32, 98, 46, 32, 97, 32, 45, 62, 32, 98] }
theorem mparse_E : parse msE.data.toList = .ok mxE := by kernel_rfl
/-- forall c. c -> c -/
def mxF : Ty := .all [99] (.fn (.var [99]) (.var [99]))
def msF : ByteArray := { data := #[102, 111, 114, 97, 108, 108, 32, 99, 46, 32, 99, 32, 45, 62, 32, 99] }
theorem mparse_F : parse msF.data.toList = .ok mxF := by kernel_rfl
/-- forall a. a -> a -/
def mxG : Ty := .all [97] (.fn (.var [97]) (.var [97]))
def msG : ByteArray := { data := #[102, 111, 114, 97, 108, 108, 32, 97, 46, 32, 97, 32, 45, 62, 32, 97] }
theorem mparse_G : parse msG.data.toList = .ok mxG := by kernel_rfl
/-- forall c d. c -> d -/
def mxH : Ty := .all [99] (.all [100] (.fn (.var [99]) (.var [100])))
def msH : ByteArray := { data := #[102, 111, 114, 97, 108, 108, 32, 99, 32, 100, 46, 32, 99, 32, 45, 62, 32, 100] }
theorem mparse_H : parse msH.data.toList = .ok mxH := by kernel_rfl

theorem row_new (w : World) (l : List Name) (t : TypeId) : RowV (w.alloc (.cells (strV l).toArray t)) (.slice (some ⟨w.heap.size, 0, none⟩) l.length l.length) (strV l) := by
  refine ⟨_, _, by rw [strV_len], fun _ => ⟨w.heap.size, rfl, by simp, fun j u hu => ?_⟩⟩
  have h := new_cells' w (strV l).toArray t w.heap.size rfl j u (by simpa using hu)
  have hadd : (⟨w.heap.size, 0, none⟩ : Addr).add j = ⟨w.heap.size, j, none⟩ := by unfold Addr.add; split <;> simp_all
  rw [hadd] at h
  exact h

theorem matchB_of {vars : List Name} {p t : Ty} (h1 : ((foundM vars p t).all fun e => !e.2.poly) = true) (h2 : (smT [] [] (putP (placeM (foundM vars p t)) p) t 0).1 = true) : matchB vars p t := by
  refine ⟨?_, (same_iff _ _).1 h2⟩
  rintro ⟨x, u, hl, hq⟩
  have h := List.all_eq_true.1 h1 _ (look_in x u _ hl)
  have h : (!u.poly) = true := h
  rw [hq] at h
  cases h
theorem matchB_not {vars : List Name} {p t : Ty} (h2 : (smT [] [] (putP (placeM (foundM vars p t)) p) t 0).1 = false) : ¬ matchB vars p t := fun h => by
  have := (same_iff _ _).2 h.2
  rw [h2] at this
  cases this
theorem mAB : matchB [[97], [98]] mxA mxB := matchB_of (by kernel_rfl) (by kernel_rfl)
theorem mCD : ¬ matchB [[97]] mxC mxD := matchB_not (by kernel_rfl)
theorem mEF : instB mxE mxF := matchB_of (by kernel_rfl) (by kernel_rfl)
theorem mGH : ¬ instB mxG mxH := matchB_not (by kernel_rfl)
theorem mtold : (⟨([121, 101, 115] ++ toldS (listM (foundM [[97], [98]] mxA mxB) (freeL mxA))).toArray⟩ : ByteArray) = { data := #[121, 101, 115, 59, 97, 61, 73, 110, 116, 59, 98, 61, 85, 32, 99] } := by kernel_rfl
theorem mlist : (listM (foundM [[97], [98]] mxA mxB) (freeL mxA)).length = 2 := by kernel_rfl
theorem mpeel : (peelN 112 (freeL mxH) mxH 0).length = 2 := by kernel_rfl
theorem mprint : (⟨(peelT 112 (freeL mxH) mxH 0).print.toArray⟩ : ByteArray) = { data := #[112, 48, 32, 45, 62, 32, 112, 49] } := by kernel_rfl

theorem nm_of3 {s : ByteArray} {t : Ty} (h : parse s.data.toList = .ok t) : Nm t := (parse_nm _ _ h).1
theorem listM_ok (vars : List Name) (p t : Ty) (hp : Nm p) (ht : Nm t) (hs : t.size ≤ 1000) : ∀ e ∈ listM (foundM vars p t) (freeL p), e.1.length ≤ 24 ∧ Nm e.2 ∧ e.2.size ≤ 1000 := fun e he => by
  obtain ⟨h1, h2⟩ := listM_mem _ _ e he
  obtain ⟨h3, h4⟩ := found_sub vars 1000 p t ht hs _ _ h2
  exact ⟨short_freeA p hp _ h1, h3, h4⟩
theorem BindR.below {S : Nat → Prop} {B n : Nat} {w w' : World} {v : Value} {l : List (Name × Ty)} (h : BindR S B w v n l) (hS : ∀ g, S g → g < w.heap.size) (hb : Below w.heap.size w w') : BindR S B w' v n l := by
  obtain ⟨q, h1, h2, h3⟩ := h
  exact ⟨q, RelV.keep (fun _ h => h) (fun g hg => hb.block g (hS g hg)) _ _ h1, h2, own_below h3 hb⟩

set_option maxHeartbeats 6400000 in
theorem tc_awake (w : World) (ht : Tab w) : Calls Tryz.prog 9 #[] w fun e w' => e = .returned (.bool true) ∧ Below w.heap.size w w' := by
  have HT := hidE ht
  have HPA := hidE (fun w => tc_readOk msA mxA mparse_A w (by unfold maxLen; decide))
  unfold msA at HPA
  obtain ⟨qA, hqA⟩ : ∃ q, mayB { data := #[97, 32, 45, 62, 32, 84, 32, 98] } mxA = q := ⟨_, rfl⟩
  rw [hqA] at HPA
  have HPB := hidE (fun w => tc_readOk msB mxB mparse_B w (by unfold maxLen; decide))
  unfold msB at HPB
  obtain ⟨qB, hqB⟩ : ∃ q, mayB { data := #[73, 110, 116, 32, 45, 62, 32, 84, 32, 40, 85, 32, 99, 41] } mxB = q := ⟨_, rfl⟩
  rw [hqB] at HPB
  have HPC := hidE (fun w => tc_readOk msC mxC mparse_C w (by unfold maxLen; decide))
  unfold msC at HPC
  obtain ⟨qC, hqC⟩ : ∃ q, mayB { data := #[97, 32, 45, 62, 32, 97] } mxC = q := ⟨_, rfl⟩
  rw [hqC] at HPC
  have HPD := hidE (fun w => tc_readOk msD mxD mparse_D w (by unfold maxLen; decide))
  unfold msD at HPD
  obtain ⟨qD, hqD⟩ : ∃ q, mayB { data := #[73, 110, 116, 32, 45, 62, 32, 85] } mxD = q := ⟨_, rfl⟩
  rw [hqD] at HPD
  have HPE := hidE (fun w => tc_readOk msE mxE mparse_E w (by unfold maxLen; decide))
  unfold msE at HPE
  obtain ⟨qE, hqE⟩ : ∃ q, mayB { data := #[102, 111, 114, 97, 108, 108, 32, 97, 32, 98, 46, 32, 97, 32, 45, 62, 32, 98] } mxE = q := ⟨_, rfl⟩
  rw [hqE] at HPE
  have HPF := hidE (fun w => tc_readOk msF mxF mparse_F w (by unfold maxLen; decide))
  unfold msF at HPF
  obtain ⟨qF, hqF⟩ : ∃ q, mayB { data := #[102, 111, 114, 97, 108, 108, 32, 99, 46, 32, 99, 32, 45, 62, 32, 99] } mxF = q := ⟨_, rfl⟩
  rw [hqF] at HPF
  have HPG := hidE (fun w => tc_readOk msG mxG mparse_G w (by unfold maxLen; decide))
  unfold msG at HPG
  obtain ⟨qG, hqG⟩ : ∃ q, mayB { data := #[102, 111, 114, 97, 108, 108, 32, 97, 46, 32, 97, 32, 45, 62, 32, 97] } mxG = q := ⟨_, rfl⟩
  rw [hqG] at HPG
  have HPH := hidE (fun w => tc_readOk msH mxH mparse_H w (by unfold maxLen; decide))
  unfold msH at HPH
  obtain ⟨qH, hqH⟩ : ∃ q, mayB { data := #[102, 111, 114, 97, 108, 108, 32, 99, 32, 100, 46, 32, 99, 32, 45, 62, 32, 100] } mxH = q := ⟨_, rfl⟩
  rw [hqH] at HPH
  clear ht hqA hqB hqC hqD hqE hqF hqG hqH
  go_enter Tryz.func9, Tryz.ntmps9
  go_wp2_with fail
  refine (HPA.out _).mono ?_
  rintro e w1 ⟨KA, XA, ZA, AA, mA, cA, Kr1, Xr1, Zr1, Ar1, mr1, cr1, rfl, hr, -, b1⟩
  obtain ⟨V1, hV1⟩ : ∃ V, (w1.alloc (.cells #[.int .i64 KA, .string XA, .int .i64 ZA, .slice AA mA cA] 26)).alloc (.cells #[.int .i64 Kr1, .string Xr1, .int .i64 Zr1, .slice Ar1 mr1 cr1] 29) = V := ⟨_, rfl⟩
  have hbx : Bx w1.heap.size ((w1.alloc (.cells #[.int .i64 KA, .string XA, .int .i64 ZA, .slice AA mA cA] 26)).alloc (.cells #[.int .i64 Kr1, .string Xr1, .int .i64 Zr1, .slice Ar1 mr1 cr1] 29)) w1.heap.size mxA KA XA ZA AA mA cA := (Bx.made hr).below ((Below.refl _ _).alloc (Nat.le_refl _) _)
  have hbb : Below w.heap.size w ((w1.alloc (.cells #[.int .i64 KA, .string XA, .int .i64 ZA, .slice AA mA cA] 26)).alloc (.cells #[.int .i64 Kr1, .string Xr1, .int .i64 Zr1, .slice Ar1 mr1 cr1] 29)) := (b1.alloc b1.size _).alloc (by rw [size_alloc]; exact Nat.le_succ_of_le b1.size) _
  rw [hV1] at hbx hbb
  have BW : Hid (Below w.heap.size w V1) := hidE hbb
  have BXA := hidE hbx
  have HV1 := hidE hV1
  clear hbx hbb hr b1 hV1 HPA
  go_upto_region 2 with fail
  rw [HV1.out]
  go_wp2_with fail
  refine (HPB.out _).mono ?_
  rintro e w2 ⟨KB, XB, ZB, AB, mB, cB, Kr2, Xr2, Zr2, Ar2, mr2, cr2, rfl, hr, -, b2⟩
  obtain ⟨V2, hV2⟩ : ∃ V, (w2.alloc (.cells #[.int .i64 KB, .string XB, .int .i64 ZB, .slice AB mB cB] 26)).alloc (.cells #[.int .i64 Kr2, .string Xr2, .int .i64 Zr2, .slice Ar2 mr2 cr2] 29) = V := ⟨_, rfl⟩
  have hbx : Bx w2.heap.size ((w2.alloc (.cells #[.int .i64 KB, .string XB, .int .i64 ZB, .slice AB mB cB] 26)).alloc (.cells #[.int .i64 Kr2, .string Xr2, .int .i64 Zr2, .slice Ar2 mr2 cr2] 29)) w2.heap.size mxB KB XB ZB AB mB cB := (Bx.made hr).below ((Below.refl _ _).alloc (Nat.le_refl _) _)
  have hbb : Below V1.heap.size V1 ((w2.alloc (.cells #[.int .i64 KB, .string XB, .int .i64 ZB, .slice AB mB cB] 26)).alloc (.cells #[.int .i64 Kr2, .string Xr2, .int .i64 Zr2, .slice Ar2 mr2 cr2] 29)) := (b2.alloc b2.size _).alloc (by rw [size_alloc]; exact Nat.le_succ_of_le b2.size) _
  rw [hV2] at hbx hbb
  replace BW : Hid (Below w.heap.size w V2) := hidE (BW.out.trans (hbb.mono BW.out.size))
  replace BXA := hidE (BXA.out.below hbb)
  have BXB := hidE hbx
  have HV2 := hidE hV2
  clear hbx hbb hr b2 hV2 HPB
  go_upto_region 3 with fail
  rw [HV2.out]
  obtain ⟨x0, x1, x2, x3⟩ := BXA.out.cells
  obtain ⟨y0, y1, y2, y3⟩ := BXB.out.cells
  obtain ⟨U21, hU21⟩ : ∃ U, V2.alloc (.cells #[.string ⟨#[97]⟩, .string ⟨#[98]⟩] 9) = U := ⟨_, rfl⟩
  have hbu : Below V2.heap.size V2 (V2.alloc (.cells #[.string ⟨#[97]⟩, .string ⟨#[98]⟩] 9)) := (Below.refl _ _).alloc (Nat.le_refl _) _
  have hrw : RowV (V2.alloc (.cells #[.string ⟨#[97]⟩, .string ⟨#[98]⟩] 9)) (.slice (some ⟨V2.heap.size, 0, none⟩) 2 2) (strV [[97], [98]]) := row_new V2 [[97], [98]] _
  rw [hU21] at hbu hrw
  have HBU := hidE hbu
  have HM := hidE (tc_Match mxA mxB [[97], [98]] _ _ _ _ _ 2 2 U21 (HT.out.below (BW.out.trans (hbu.mono BW.out.size))) (BXA.out.below hbu).rn (BXB.out.below hbu).rn (fun _ h => h) (fun _ h => h) hrw rfl (by intro x hx; simp at hx; rcases hx with rfl | rfl <;> (unfold maxLen; decide)) (by decide) (nm_of3 mparse_A) (nm_of3 mparse_B) (by decide) (by decide))
  have HU := hidE hU21
  clear hU21 hbu hrw
  go_wp2_with fail
  rw [HU.out]
  refine HM.out.mono ?_
  rintro e w21 ⟨b21, hor⟩
  obtain ⟨-, Al, nl, cl, rfl, hbr⟩ := hor.resolve_right (fun h => h.1 mAB)
  clear hor x0 x1 x2 x3 y0 y1 y2 y3
  have hbb : Below V2.heap.size V2 w21 := HBU.out.trans (b21.mono HBU.out.size)
  have LSZ : Hid (U21.heap.size ≤ w21.heap.size) := hidE b21.size
  have HBR := hidE hbr
  replace BW : Hid (Below w.heap.size w w21) := hidE (BW.out.trans (hbb.mono BW.out.size))
  clear hbb b21 HM HU HBU hbr BXA BXB
  go_upto_region 4 with fail
  go_wp2_with fail
  refine (HPC.out _).mono ?_
  rintro e w3 ⟨KC, XC, ZC, AC, mC, cC, Kr3, Xr3, Zr3, Ar3, mr3, cr3, rfl, hr, -, b3⟩
  obtain ⟨V3, hV3⟩ : ∃ V, (w3.alloc (.cells #[.int .i64 KC, .string XC, .int .i64 ZC, .slice AC mC cC] 26)).alloc (.cells #[.int .i64 Kr3, .string Xr3, .int .i64 Zr3, .slice Ar3 mr3 cr3] 29) = V := ⟨_, rfl⟩
  have hbx : Bx w3.heap.size ((w3.alloc (.cells #[.int .i64 KC, .string XC, .int .i64 ZC, .slice AC mC cC] 26)).alloc (.cells #[.int .i64 Kr3, .string Xr3, .int .i64 Zr3, .slice Ar3 mr3 cr3] 29)) w3.heap.size mxC KC XC ZC AC mC cC := (Bx.made hr).below ((Below.refl _ _).alloc (Nat.le_refl _) _)
  have hbb : Below w21.heap.size w21 ((w3.alloc (.cells #[.int .i64 KC, .string XC, .int .i64 ZC, .slice AC mC cC] 26)).alloc (.cells #[.int .i64 Kr3, .string Xr3, .int .i64 Zr3, .slice Ar3 mr3 cr3] 29)) := (b3.alloc b3.size _).alloc (by rw [size_alloc]; exact Nat.le_succ_of_le b3.size) _
  rw [hV3] at hbx hbb
  replace BW : Hid (Below w.heap.size w V3) := hidE (BW.out.trans (hbb.mono BW.out.size))
  replace HBR := hidE (BindR.below HBR.out (fun g hg => Nat.lt_of_lt_of_le hg LSZ.out) hbb)
  replace LSZ := hidE (Nat.le_trans LSZ.out hbb.size)
  have BXC := hidE hbx
  have HV3 := hidE hV3
  clear hbx hbb hr b3 hV3 HPC
  go_upto_region 5 with fail
  rw [HV3.out]
  go_wp2_with fail
  refine (HPD.out _).mono ?_
  rintro e w4 ⟨KD, XD, ZD, AD, mD, cD, Kr4, Xr4, Zr4, Ar4, mr4, cr4, rfl, hr, -, b4⟩
  obtain ⟨V4, hV4⟩ : ∃ V, (w4.alloc (.cells #[.int .i64 KD, .string XD, .int .i64 ZD, .slice AD mD cD] 26)).alloc (.cells #[.int .i64 Kr4, .string Xr4, .int .i64 Zr4, .slice Ar4 mr4 cr4] 29) = V := ⟨_, rfl⟩
  have hbx : Bx w4.heap.size ((w4.alloc (.cells #[.int .i64 KD, .string XD, .int .i64 ZD, .slice AD mD cD] 26)).alloc (.cells #[.int .i64 Kr4, .string Xr4, .int .i64 Zr4, .slice Ar4 mr4 cr4] 29)) w4.heap.size mxD KD XD ZD AD mD cD := (Bx.made hr).below ((Below.refl _ _).alloc (Nat.le_refl _) _)
  have hbb : Below V3.heap.size V3 ((w4.alloc (.cells #[.int .i64 KD, .string XD, .int .i64 ZD, .slice AD mD cD] 26)).alloc (.cells #[.int .i64 Kr4, .string Xr4, .int .i64 Zr4, .slice Ar4 mr4 cr4] 29)) := (b4.alloc b4.size _).alloc (by rw [size_alloc]; exact Nat.le_succ_of_le b4.size) _
  rw [hV4] at hbx hbb
  replace BW : Hid (Below w.heap.size w V4) := hidE (BW.out.trans (hbb.mono BW.out.size))
  replace HBR := hidE (BindR.below HBR.out (fun g hg => Nat.lt_of_lt_of_le hg LSZ.out) hbb)
  replace LSZ := hidE (Nat.le_trans LSZ.out hbb.size)
  replace BXC := hidE (BXC.out.below hbb)
  have BXD := hidE hbx
  have HV4 := hidE hV4
  clear hbx hbb hr b4 hV4 HPD
  go_upto_region 6 with fail
  rw [HV4.out]
  obtain ⟨x0, x1, x2, x3⟩ := BXC.out.cells
  obtain ⟨y0, y1, y2, y3⟩ := BXD.out.cells
  obtain ⟨U22, hU22⟩ : ∃ U, V4.alloc (.cells #[.string ⟨#[97]⟩] 9) = U := ⟨_, rfl⟩
  have hbu : Below V4.heap.size V4 (V4.alloc (.cells #[.string ⟨#[97]⟩] 9)) := (Below.refl _ _).alloc (Nat.le_refl _) _
  have hrw : RowV (V4.alloc (.cells #[.string ⟨#[97]⟩] 9)) (.slice (some ⟨V4.heap.size, 0, none⟩) 1 1) (strV [[97]]) := row_new V4 [[97]] _
  rw [hU22] at hbu hrw
  have HBU := hidE hbu
  have HM := hidE (tc_Match mxC mxD [[97]] _ _ _ _ _ 1 1 U22 (HT.out.below (BW.out.trans (hbu.mono BW.out.size))) (BXC.out.below hbu).rn (BXD.out.below hbu).rn (fun _ h => h) (fun _ h => h) hrw rfl (by intro x hx; simp at hx; rcases hx with rfl <;> (unfold maxLen; decide)) (by decide) (nm_of3 mparse_C) (nm_of3 mparse_D) (by decide) (by decide))
  have HU := hidE hU22
  clear hU22 hbu hrw
  go_wp2_with fail
  rw [HU.out]
  refine HM.out.mono ?_
  rintro e w22 ⟨b22, hor⟩
  obtain ⟨-, rfl⟩ := hor.resolve_left (fun h => mCD h.1)
  clear hor x0 x1 x2 x3 y0 y1 y2 y3
  have hbb : Below V4.heap.size V4 w22 := HBU.out.trans (b22.mono HBU.out.size)
  replace BW : Hid (Below w.heap.size w w22) := hidE (BW.out.trans (hbb.mono BW.out.size))
  replace HBR := hidE (BindR.below HBR.out (fun g hg => Nat.lt_of_lt_of_le hg LSZ.out) hbb)
  replace LSZ := hidE (Nat.le_trans LSZ.out hbb.size)
  clear hbb b22 HM HU HBU BXC BXD
  go_upto_region 7 with fail
  go_wp2_with fail
  refine (HPE.out _).mono ?_
  rintro e w5 ⟨KE, XE, ZE, AE, mE, cE, Kr5, Xr5, Zr5, Ar5, mr5, cr5, rfl, hr, -, b5⟩
  obtain ⟨V5, hV5⟩ : ∃ V, (w5.alloc (.cells #[.int .i64 KE, .string XE, .int .i64 ZE, .slice AE mE cE] 26)).alloc (.cells #[.int .i64 Kr5, .string Xr5, .int .i64 Zr5, .slice Ar5 mr5 cr5] 29) = V := ⟨_, rfl⟩
  have hbx : Bx w5.heap.size ((w5.alloc (.cells #[.int .i64 KE, .string XE, .int .i64 ZE, .slice AE mE cE] 26)).alloc (.cells #[.int .i64 Kr5, .string Xr5, .int .i64 Zr5, .slice Ar5 mr5 cr5] 29)) w5.heap.size mxE KE XE ZE AE mE cE := (Bx.made hr).below ((Below.refl _ _).alloc (Nat.le_refl _) _)
  have hbb : Below w22.heap.size w22 ((w5.alloc (.cells #[.int .i64 KE, .string XE, .int .i64 ZE, .slice AE mE cE] 26)).alloc (.cells #[.int .i64 Kr5, .string Xr5, .int .i64 Zr5, .slice Ar5 mr5 cr5] 29)) := (b5.alloc b5.size _).alloc (by rw [size_alloc]; exact Nat.le_succ_of_le b5.size) _
  rw [hV5] at hbx hbb
  replace BW : Hid (Below w.heap.size w V5) := hidE (BW.out.trans (hbb.mono BW.out.size))
  replace HBR := hidE (BindR.below HBR.out (fun g hg => Nat.lt_of_lt_of_le hg LSZ.out) hbb)
  replace LSZ := hidE (Nat.le_trans LSZ.out hbb.size)
  have BXE := hidE hbx
  have HV5 := hidE hV5
  clear hbx hbb hr b5 hV5 HPE
  go_upto_region 8 with fail
  rw [HV5.out]
  go_wp2_with fail
  refine (HPF.out _).mono ?_
  rintro e w6 ⟨KF, XF, ZF, AF, mF, cF, Kr6, Xr6, Zr6, Ar6, mr6, cr6, rfl, hr, -, b6⟩
  obtain ⟨V6, hV6⟩ : ∃ V, (w6.alloc (.cells #[.int .i64 KF, .string XF, .int .i64 ZF, .slice AF mF cF] 26)).alloc (.cells #[.int .i64 Kr6, .string Xr6, .int .i64 Zr6, .slice Ar6 mr6 cr6] 29) = V := ⟨_, rfl⟩
  have hbx : Bx w6.heap.size ((w6.alloc (.cells #[.int .i64 KF, .string XF, .int .i64 ZF, .slice AF mF cF] 26)).alloc (.cells #[.int .i64 Kr6, .string Xr6, .int .i64 Zr6, .slice Ar6 mr6 cr6] 29)) w6.heap.size mxF KF XF ZF AF mF cF := (Bx.made hr).below ((Below.refl _ _).alloc (Nat.le_refl _) _)
  have hbb : Below V5.heap.size V5 ((w6.alloc (.cells #[.int .i64 KF, .string XF, .int .i64 ZF, .slice AF mF cF] 26)).alloc (.cells #[.int .i64 Kr6, .string Xr6, .int .i64 Zr6, .slice Ar6 mr6 cr6] 29)) := (b6.alloc b6.size _).alloc (by rw [size_alloc]; exact Nat.le_succ_of_le b6.size) _
  rw [hV6] at hbx hbb
  replace BW : Hid (Below w.heap.size w V6) := hidE (BW.out.trans (hbb.mono BW.out.size))
  replace HBR := hidE (BindR.below HBR.out (fun g hg => Nat.lt_of_lt_of_le hg LSZ.out) hbb)
  replace LSZ := hidE (Nat.le_trans LSZ.out hbb.size)
  replace BXE := hidE (BXE.out.below hbb)
  have BXF := hidE hbx
  have HV6 := hidE hV6
  clear hbx hbb hr b6 hV6 HPF
  go_upto_region 9 with fail
  rw [HV6.out]
  obtain ⟨x0, x1, x2, x3⟩ := BXE.out.cells
  obtain ⟨y0, y1, y2, y3⟩ := BXF.out.cells
  have HI := hidE (tc_Instance mxE mxF _ _ _ _ V6 (HT.out.below BW.out) BXE.out.rn BXF.out.rn (fun _ h => h) (fun _ h => h) (nm_of3 mparse_E) (nm_of3 mparse_F) (by decide) (by decide))
  go_wp2_with fail
  refine HI.out.mono ?_
  rintro e w23 ⟨⟨q23, rfl, hq23⟩, hbb⟩
  obtain rfl : q23 = true := hq23.2 mEF
  replace BW : Hid (Below w.heap.size w w23) := hidE (BW.out.trans (hbb.mono BW.out.size))
  replace HBR := hidE (BindR.below HBR.out (fun g hg => Nat.lt_of_lt_of_le hg LSZ.out) hbb)
  replace LSZ := hidE (Nat.le_trans LSZ.out hbb.size)
  clear hbb hq23 HI x0 x1 x2 x3 y0 y1 y2 y3 BXE BXF
  go_upto_region 10 with fail
  go_wp2_with fail
  refine (HPG.out _).mono ?_
  rintro e w7 ⟨KG, XG, ZG, AG, mG, cG, Kr7, Xr7, Zr7, Ar7, mr7, cr7, rfl, hr, -, b7⟩
  obtain ⟨V7, hV7⟩ : ∃ V, (w7.alloc (.cells #[.int .i64 KG, .string XG, .int .i64 ZG, .slice AG mG cG] 26)).alloc (.cells #[.int .i64 Kr7, .string Xr7, .int .i64 Zr7, .slice Ar7 mr7 cr7] 29) = V := ⟨_, rfl⟩
  have hbx : Bx w7.heap.size ((w7.alloc (.cells #[.int .i64 KG, .string XG, .int .i64 ZG, .slice AG mG cG] 26)).alloc (.cells #[.int .i64 Kr7, .string Xr7, .int .i64 Zr7, .slice Ar7 mr7 cr7] 29)) w7.heap.size mxG KG XG ZG AG mG cG := (Bx.made hr).below ((Below.refl _ _).alloc (Nat.le_refl _) _)
  have hbb : Below w23.heap.size w23 ((w7.alloc (.cells #[.int .i64 KG, .string XG, .int .i64 ZG, .slice AG mG cG] 26)).alloc (.cells #[.int .i64 Kr7, .string Xr7, .int .i64 Zr7, .slice Ar7 mr7 cr7] 29)) := (b7.alloc b7.size _).alloc (by rw [size_alloc]; exact Nat.le_succ_of_le b7.size) _
  rw [hV7] at hbx hbb
  replace BW : Hid (Below w.heap.size w V7) := hidE (BW.out.trans (hbb.mono BW.out.size))
  replace HBR := hidE (BindR.below HBR.out (fun g hg => Nat.lt_of_lt_of_le hg LSZ.out) hbb)
  replace LSZ := hidE (Nat.le_trans LSZ.out hbb.size)
  have BXG := hidE hbx
  have HV7 := hidE hV7
  clear hbx hbb hr b7 hV7 HPG
  go_upto_region 11 with fail
  rw [HV7.out]
  go_wp2_with fail
  refine (HPH.out _).mono ?_
  rintro e w8 ⟨KH, XH, ZH, AH, mH, cH, Kr8, Xr8, Zr8, Ar8, mr8, cr8, rfl, hr, -, b8⟩
  obtain ⟨V8, hV8⟩ : ∃ V, (w8.alloc (.cells #[.int .i64 KH, .string XH, .int .i64 ZH, .slice AH mH cH] 26)).alloc (.cells #[.int .i64 Kr8, .string Xr8, .int .i64 Zr8, .slice Ar8 mr8 cr8] 29) = V := ⟨_, rfl⟩
  have hbx : Bx w8.heap.size ((w8.alloc (.cells #[.int .i64 KH, .string XH, .int .i64 ZH, .slice AH mH cH] 26)).alloc (.cells #[.int .i64 Kr8, .string Xr8, .int .i64 Zr8, .slice Ar8 mr8 cr8] 29)) w8.heap.size mxH KH XH ZH AH mH cH := (Bx.made hr).below ((Below.refl _ _).alloc (Nat.le_refl _) _)
  have hbb : Below V7.heap.size V7 ((w8.alloc (.cells #[.int .i64 KH, .string XH, .int .i64 ZH, .slice AH mH cH] 26)).alloc (.cells #[.int .i64 Kr8, .string Xr8, .int .i64 Zr8, .slice Ar8 mr8 cr8] 29)) := (b8.alloc b8.size _).alloc (by rw [size_alloc]; exact Nat.le_succ_of_le b8.size) _
  rw [hV8] at hbx hbb
  replace BW : Hid (Below w.heap.size w V8) := hidE (BW.out.trans (hbb.mono BW.out.size))
  replace HBR := hidE (BindR.below HBR.out (fun g hg => Nat.lt_of_lt_of_le hg LSZ.out) hbb)
  replace LSZ := hidE (Nat.le_trans LSZ.out hbb.size)
  replace BXG := hidE (BXG.out.below hbb)
  have BXH := hidE hbx
  have HV8 := hidE hV8
  clear hbx hbb hr b8 hV8 HPH
  go_upto_region 12 with fail
  rw [HV8.out]
  obtain ⟨x0, x1, x2, x3⟩ := BXG.out.cells
  obtain ⟨y0, y1, y2, y3⟩ := BXH.out.cells
  have HI := hidE (tc_Instance mxG mxH _ _ _ _ V8 (HT.out.below BW.out) BXG.out.rn BXH.out.rn (fun _ h => h) (fun _ h => h) (nm_of3 mparse_G) (nm_of3 mparse_H) (by decide) (by decide))
  go_wp2_with fail
  refine HI.out.mono ?_
  rintro e w24 ⟨⟨q24, rfl, hq24⟩, hbb⟩
  obtain rfl : q24 = false := by cases q24 with | false => rfl | true => exact absurd (hq24.1 rfl) mGH
  replace BW : Hid (Below w.heap.size w w24) := hidE (BW.out.trans (hbb.mono BW.out.size))
  replace HBR := hidE (BindR.below HBR.out (fun g hg => Nat.lt_of_lt_of_le hg LSZ.out) hbb)
  replace LSZ := hidE (Nat.le_trans LSZ.out hbb.size)
  replace BXH := hidE (BXH.out.below hbb)
  clear hbb hq24 HI x0 x1 x2 x3 y0 y1 y2 y3 BXG
  go_upto_region 13 with fail
  obtain ⟨x0, x1, x2, x3⟩ := BXH.out.cells
  have hpl := tc_Peel mxH _ _ w24 (HT.out.below BW.out) BXH.out.rn (fun _ h => h) (nm_of3 mparse_H) (by decide)
  have HPL := hidE hpl
  clear hpl
  go_wp2_with fail
  refine HPL.out.mono ?_
  rintro e w25 ⟨⟨A5, n5, c5, k5, x5, z5, a5, m5, q5, rfl, h5a, -, -, h5d⟩, b25⟩
  rw [mpeel] at h5a
  subst h5a
  obtain ⟨V25, hV25⟩ : ∃ V, w25.alloc (.cells #[.int .i64 k5, .string x5, .int .i64 z5, .slice a5 m5 q5] 26) = V := ⟨_, rfl⟩
  have hbx : Bx w25.heap.size (w25.alloc (.cells #[.int .i64 k5, .string x5, .int .i64 z5, .slice a5 m5 q5] 26)) w25.heap.size (peelT 112 (freeL mxH) mxH 0) k5 x5 z5 a5 m5 q5 := Bx.made (h5d.keep (fun g hg => hg.2) (fun _ _ => rfl))
  have hbb : Below w24.heap.size w24 (w25.alloc (.cells #[.int .i64 k5, .string x5, .int .i64 z5, .slice a5 m5 q5] 26)) := b25.alloc b25.size _
  rw [hV25] at hbx hbb
  replace BW : Hid (Below w.heap.size w V25) := hidE (BW.out.trans (hbb.mono BW.out.size))
  replace HBR := hidE (BindR.below HBR.out (fun g hg => Nat.lt_of_lt_of_le hg LSZ.out) hbb)
  replace LSZ := hidE (Nat.le_trans LSZ.out hbb.size)
  have BXP := hidE hbx
  have HV25 := hidE hV25
  clear hbx hbb h5d b25 hV25 HPL x0 x1 x2 x3 BXH
  go_upto_region 14 with fail
  rw [HV25.out]
  have hnl : nl = 2 := by
    obtain ⟨q, h1, h2, -⟩ := HBR.out
    rw [← h2, ← RelV.len _ _ h1, mlist]
  subst hnl
  have htold := tc_told _ _ _ _ _ _ V25 (HT.out.below BW.out) HBR.out (fun g hg => Nat.lt_of_lt_of_le hg LSZ.out) (listM_ok _ _ _ (nm_of3 mparse_A) (nm_of3 mparse_B) (by decide)) (by decide)
  rw [mtold] at htold
  have HTD := hidE htold
  clear htold
  go_wp2_with fail
  refine HTD.out.mono ?_
  rintro e w26 ⟨rfl, hbb⟩
  replace BW : Hid (Below w.heap.size w w26) := hidE (BW.out.trans (hbb.mono BW.out.size))
  replace BXP := hidE (BXP.out.below hbb)
  clear hbb HTD HBR LSZ
  obtain ⟨x0, x1, x2, x3⟩ := BXP.out.cells
  have hpr := BXP.out.print (nm_peelT 112 (.inl rfl) _ mxH (by decide) (by decide) (nm_of3 mparse_H)) (Nat.le_trans (size_peelT 112 (.inl rfl) _ mxH (by decide)) (by decide)) (HT.out.below BW.out)
  rw [mprint] at hpr
  have HPR := hidE hpr
  clear hpr
  go_wp2_with fail
  refine HPR.out.mono ?_
  rintro e w27 ⟨rfl, hbb⟩
  replace BW : Hid (Below w.heap.size w w27) := hidE (BW.out.trans (hbb.mono BW.out.size))
  clear hbb HPR BXP x0 x1 x2 x3
  go_wp2_with fail
  go_ret
  exact ⟨rfl, BW.out⟩

end Go.Proofs.YtaomnlcplmkokaaGreatDoor

/-
  The laws of match: what instances are, put together.
-/
namespace Go.Proofs.YtaomnlcplmkokaaGreatDoor
open Go.RowKit Lx Tx Go.Maps Go.WideMaps Go.Shelf
set_option maxRecDepth 100000

theorem taken_len (g s : Ty) (h1 : g.size ≤ 1000) (h2 : s.size ≤ 1000) : (takenI g s).length ≤ 2000 := by
  have a := freeL_len g
  have b := freeL_len s
  unfold takenI
  rw [List.length_append]
  omega
theorem room_of {tk : List Name} {t : Ty} (h1 : t.size ≤ 1000) (h2 : tk.length ≤ 2000) : Room tk t := ⟨by omega, by
  have := Nat.mul_le_mul h1 (show tk.length + 1 ≤ 2001 by omega)
  omega⟩
theorem instB_iff (g s : Ty) (hns : Nm s) (h1 : g.size ≤ 1000) (h2 : s.size ≤ 1000) : instB g s ↔ instOK (takenI g s) g s := by
  have htl := taken_len g s h1 h2
  have r1 : Room (takenI g s) g := room_of h1 htl
  have r2 : Room (takenI g s) s := room_of h2 htl
  have hp := size_peelT 113 (.inr rfl) (takenI g s) g r1.2
  have ht := size_peelT 112 (.inl rfl) (takenI g s) s r2.2
  have hnt := nm_peelT 112 (.inl rfl) (takenI g s) s r2.1 r2.2 hns
  have hro := freeIn_placeM (foundM (peelN 113 (takenI g s) g 0) (peelT 113 (takenI g s) g 0) (peelT 112 (takenI g s) s 0)) (peelT 113 (takenI g s) g 0) 1000 (fun t u h => (place_sub (found_sub _ 1000 _ _ hnt (by omega)) t u h).2)
  unfold instB
  rw [match_iff _ _ _ (by omega) (by omega)]
  exact inst_iff (takenI g s) g s r1 r2 (fun x hx => List.mem_append_left _ hx)
theorem instB_self (t : Ty) (hn : Nm t) (h : t.size ≤ 1000) : instB t t := (instB_iff t t hn h h).2 (inst_self _ _)
/-- forall a. a -/
def mxAny : Ty := .all [97] (.var [97])
theorem nm_any : Nm mxAny := nm_of3 (s := { data := #[102, 111, 114, 97, 108, 108, 32, 97, 46, 32, 97] }) (by kernel_rfl)
theorem instB_any (t : Ty) (hn : Nm t) (h : t.size ≤ 1000) : instB mxAny t ↔ (peelT 112 (freeL t) t 0).poly = false := by
  have hl := freeL_len t
  rw [instB_iff mxAny t hn (by decide) h, poly_peelT 112 (.inl rfl) (freeL t) t (room_of h (by omega))]
  exact inst_any _ [97] t (room_of h (taken_len mxAny t (by decide) h))
theorem instB_step (x y z : Ty) (hy : Nm y) (hz : Nm z) (sx : x.size ≤ 1000) (sy : y.size ≤ 1000) (sz : z.size ≤ 1000) (h1 : instB x y) (h2 : instB y z) : instB x z := by
  rw [instB_iff x y hy sx sy] at h1
  rw [instB_iff y z hz sy sz] at h2
  rw [instB_iff x z hz sx sz]
  exact inst_step x y z _ _ _ (room_of sy (taken_len x y sx sy)) (room_of sz (taken_len y z sy sz)) (fun a ha => List.mem_append_left _ ha) (fun a ha => List.mem_append_right _ ha) (fun a ha => List.mem_append_left _ ha) (fun a ha => List.mem_append_right _ ha) h1 h2
theorem instB_depth (x y : Ty) (hx : Nm x) (hy : Nm y) (sx : x.size ≤ 1000) (sy : y.size ≤ 1000) (h1 : instB x y) (h2 : instB y x) : (peelT 112 (freeL x) x 0).depth = (peelT 112 (freeL y) y 0).depth := by
  have lx := freeL_len x
  have ly := freeL_len y
  rw [instB_iff x y hy sx sy] at h1
  rw [instB_iff y x hx sy sx] at h2
  rw [depth_peelT 112 (.inl rfl) _ x (room_of sx (by omega)), depth_peelT 112 (.inl rfl) _ y (room_of sy (by omega))]
  exact inst_depth x y _ _ h1 h2

/-- a text that was read: if it is one to play with, it is a type that lies there -/
def RdIf (s : ByteArray) (q : Bool) (w : World) (v : Value) : Prop := q = true → ∃ t, readsTo s t ∧ RdN w t v
theorem RdIf.below {s : ByteArray} {q : Bool} {w w' : World} {v : Value} (h : RdIf s q w v) (hb : Below w.heap.size w w') : RdIf s q w' v := fun hq => by
  obtain ⟨t, h1, h2⟩ := h hq
  exact ⟨t, h1, h2.below hb⟩
theorem blk4 {w : World} {g : Nat} {t : TypeId} {a0 a1 a2 a3 : Value} (h : Blk w g t #[a0, a1, a2, a3]) : w.cell? ⟨g, 0, none⟩ = some a0 ∧ w.cell? ⟨g, 1, none⟩ = some a1 ∧ w.cell? ⟨g, 2, none⟩ = some a2 ∧ w.cell? ⟨g, 3, none⟩ = some a3 := ⟨h.cell 0, h.cell 1, h.cell 2, h.cell 3⟩
theorem peel_facts (t : Ty) (hn : Nm t) (h : t.size ≤ 1000) : Nm (peelT 112 (freeL t) t 0) ∧ (peelT 112 (freeL t) t 0).size ≤ 1000 := by
  have hl := freeL_len t
  have r := room_of (tk := freeL t) h (by omega)
  exact ⟨nm_peelT 112 (.inl rfl) _ t r.1 r.2 hn, Nat.le_trans (size_peelT 112 (.inl rfl) _ t r.2) h⟩

end Go.Proofs.YtaomnlcplmkokaaGreatDoor
