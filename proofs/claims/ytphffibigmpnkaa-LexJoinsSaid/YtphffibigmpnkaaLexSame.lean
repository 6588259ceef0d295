/-
  The walk over same of the laws of lex: are two lists of tokens one?
-/
import Derived.Test.YtphffibigmpnkaaLexScan
import Derived.Laws.StructEq
namespace Go.Proofs.Ytphffibigmpnkaa
open Go.RowKit Lx

/-- v is a slice that reads as these tokens -/
def RdT (w : World) (v : Value) (ts : List Tok) : Prop :=
  ∃ A c, v = .slice A ts.length c ∧ (0 < ts.length → ∃ g, A = some ⟨g, 0, none⟩ ∧ g < w.heap.size ∧ ∀ j u, (toksV ts)[j]? = some u → w.cell? ⟨g, j, none⟩ = some u)

theorem RdT.of_own {w : World} {base : Nat} {v : Value} {ts : List Tok} {e : TypeId} (h : w.ownsRow base e 3 v ts.length (toksV ts)) : RdT w v ts := by
  have hc := fun g hg => h.cells (g := g) hg
  have hlt := h.lt
  rcases h.2 with ⟨rfl, h0⟩ | ⟨g, cap, cur, rfl, _⟩
  · exact ⟨none, 0, by rw [h0], fun hp => by omega⟩
  · refine ⟨_, _, rfl, fun _ => ⟨g, rfl, (hlt g rfl).2, fun j u hu => ?_⟩⟩
    have hadd : (⟨g, 0, none⟩ : Addr).add j = ⟨g, j, none⟩ := by unfold Addr.add; split <;> simp_all
    have := hc g rfl j u hu
    rwa [hadd] at this

theorem RdT.keep {w w' : World} {v : Value} {ts : List Tok} (h : RdT w v ts) (hs : w.heap.size ≤ w'.heap.size) (hk : ∀ k, k < w.heap.size → w'.heap[k]? = w.heap[k]?) : RdT w' v ts := by
  obtain ⟨A, c, hv, hp⟩ := h
  refine ⟨A, c, hv, fun h0 => ?_⟩
  obtain ⟨g, hA, hg, hc⟩ := hp h0
  exact ⟨g, hA, by omega, fun j u hu => by rw [World.cell?_of_block (w := w) (hk g hg)]; exact hc j u hu⟩
theorem RdT.below {w w' : World} {v : Value} {ts : List Tok} (h : RdT w v ts) (hb : Below w.heap.size w w') : RdT w' v ts := h.keep hb.size hb.block
theorem RdT.alloc {w : World} {v : Value} {ts : List Tok} (h : RdT w v ts) (o : Obj) : RdT (w.alloc o) v ts := h.keep (by simp) (fun k hk => Below.heap_alloc w o k hk)
theorem RdT.drewN {w : World} {v : Value} {ts : List Tok} (h : RdT w v ts) (n : Nat) : RdT (w.drewN n) v ts := h

/-- the three cells of token k -/
theorem RdT.at_ {w : World} {v : Value} {ts : List Tok} (h : RdT w v ts) (k : Nat) (hk : k < ts.length) :
    ∃ g c, v = .slice (some ⟨g, 0, none⟩) ts.length c ∧ w.cell? ⟨g, k * 3, none⟩ = some (.int .i64 (ts[k].kind : Nat)) ∧ w.cell? ⟨g, k * 3 + 1, none⟩ = some (.string ⟨ts[k].text.toArray⟩) ∧ w.cell? ⟨g, k * 3 + 2, none⟩ = some (.int .i64 (ts[k].at_ : Nat)) := by
  obtain ⟨A, c, hv, hp⟩ := h
  obtain ⟨g, rfl, _, hc⟩ := hp (by omega)
  have key : ∀ (ts : List Tok) (k : Nat) (hk : k < ts.length) (j : Nat), j < 3 → (toksV ts)[k * 3 + j]? = (tokV ts[k])[j]? := by
    intro ts
    induction ts with
    | nil => intro k hk; simp at hk
    | cons t r ih =>
      intro k hk j hj
      have hl : (tokV t).length = 3 := rfl
      show (tokV t ++ toksV r)[k * 3 + j]? = _
      cases k with
      | zero => rw [Nat.zero_mul, Nat.zero_add, List.getElem?_append_left (by omega)]; rfl
      | succ k =>
        rw [List.getElem?_append_right (by omega), hl, show (k + 1) * 3 + j - 3 = k * 3 + j by omega, ih k (by simpa using hk) j hj]
        rfl
  exact ⟨g, c, hv, hc _ _ ((key ts k hk 0 (by omega)).trans rfl), hc _ _ ((key ts k hk 1 (by omega)).trans rfl), hc _ _ ((key ts k hk 2 (by omega)).trans rfl)⟩

theorem held_tok : Try.prog.stoodInHeld 30 = false := by kernel_rfl
theorem guard_tok : Try.prog.eqGuardType Try.prog.depth 30 = false := by kernel_rfl
theorem under_tok : Try.prog.underlying 30 = some (.struct (Try.prog.fieldsOf 30)) := by kernel_rfl

theorem run_neq_tok (w : World) (k1 k2 a1 a2 : Int) (s1 s2 : ByteArray) :
    (binOp .neq 30 (.agg #[.int .i64 k1, .string s1, .int .i64 a1]) (.agg #[.int .i64 k2, .string s2, .int .i64 a2])).run Try.prog w =
      .ok (.bool (!(k1 == k2 && (s1.toList == s2.toList && a1 == a2)))) w := by
  rw [run_neq_struct, show (10000 : Nat) = 9999 + 1 from rfl, run_equalIn_struct _ _ _ _ _ under_tok held_tok]
  have e3 : ∀ (w : World) (a b : Int), (Op.equalIn 9999 3 (.int .i64 a) (.int .i64 b)).run Try.prog w = .ok (a == b) w := fun w a b => run_equalIn_int w 9998 3 .i64 .i64 a b Try.underlying3
  have e9 : ∀ (w : World) (a b : ByteArray), (Op.equalIn 9999 9 (.string a) (.string b)).run Try.prog w = .ok (a.toList == b.toList) w := fun w a b => run_equalIn_string w 9998 9 a b Try.underlying9
  obtain ⟨x, hx⟩ : ∃ x, (k1 == k2) = x := ⟨_, rfl⟩
  obtain ⟨y, hy⟩ : ∃ y, (s1.toList == s2.toList) = y := ⟨_, rfl⟩
  obtain ⟨z, hz⟩ : ∃ z, (a1 == a2) = z := ⟨_, rfl⟩
  have e1 := fun w => e3 w k1 k2
  have e2 := fun w => e9 w s1 s2
  have e4 := fun w => e3 w a1 a2
  rw [hx] at e1
  rw [hy] at e2
  rw [hz] at e4
  rw [hx, hy, hz]
  clear e3 e9 hx hy hz
  simp only [Program.fieldsOf, Try.underlying30, Op.eqFields]
  simp [part, e1, e2, e4]
  cases x <;> cases y <;> cases z <;> simp

theorem tok_neq (t u : Tok) (w : World) :
    (binOp .neq 30 (.agg #[.int .i64 (t.kind : Nat), .string ⟨t.text.toArray⟩, .int .i64 (t.at_ : Nat)]) (.agg #[.int .i64 (u.kind : Nat), .string ⟨u.text.toArray⟩, .int .i64 (u.at_ : Nat)])).run Try.prog w =
      .ok (.bool (decide (t ≠ u))) w := by
  rw [run_neq_tok]
  congr 2
  rw [Lib.toList_data, Lib.toList_data]
  obtain ⟨a, b, c⟩ := t
  obtain ⟨d, e, f⟩ := u
  rw [Bool.eq_iff_iff]
  simp only [Bool.not_eq_true', Bool.and_eq_false_iff, decide_eq_true_eq, ne_eq, Tok.mk.injEq, beq_eq_false_iff_ne, Int.ofNat_inj]
  by_cases h1 : a = d <;> by_cases h2 : b = e <;> by_cases h3 : c = f <;> simp [h1, h2, h3]

theorem take_succ_eq (ts us : List Tok) (k : Nat) (h1 : k < ts.length) (h2 : k < us.length) (ht : ts.take k = us.take k) (h : ts[k] = us[k]) : ts.take (k + 1) = us.take (k + 1) := by
  rw [List.take_succ_eq_append_getElem h1, List.take_succ_eq_append_getElem h2, ht, h]

set_option maxHeartbeats 400000 in
theorem same_any (v u : Value) (ts us : List Tok) (w : World) (hv : RdT w v ts) (hu : RdT w u us) (hl : ts.length ≤ 4000) (hl2 : us.length ≤ 4000) :
    Calls Try.prog 12 #[v, u] w fun e w' => e = .returned (.bool (decide (ts = us))) ∧ ∃ n, w' = w.drewN n := by
  have HV := hidE hv
  have HU := hidE hu
  obtain ⟨A, ca, hva, _⟩ := hv
  obtain ⟨B, cb, hvb, _⟩ := hu
  subst hva hvb
  by_cases hle : ts.length = us.length
  · have HL := hidE hle
    have hle1 : ts.length ≤ us.length := by omega
    have hle2 : us.length ≤ ts.length := by omega
    have hnb : ((ts.length : Int) != (us.length : Int)) = false := by simp; omega
    clear hle
    go_enter Try.func12, Try.ntmps12
    go_wp2_with fail
    go_loopg [5] ts.length (fun gg i wr => ∃ k m : Nat, gg = ts.length - k ∧ k ≤ ts.length ∧ i = .int .i64 k ∧ wr = w.drewN m ∧ ts.take k = us.take k)
    case atStart => exact ⟨0, 0, rfl, Nat.zero_le _, rfl, rfl, by simp⟩
    case round =>
      obtain ⟨k, m, rfl, hk, rfl, rfl, ht⟩ := hrel
      have HT := hidE ht
      clear ht
      by_cases hlt : k < ts.length
      · obtain ⟨g, c, hgv, x0, x1, x2⟩ := HV.out.at_ k hlt
        obtain ⟨g', c', hgu, y0, y1, y2⟩ := HU.out.at_ k (by omega)
        injection hgv with hA _ hC
        injection hgu with hB _ hD
        subst hA hB hC hD
        have hk2 : k < us.length := by omega
        by_cases he : ts[k] = us[k]
        · have hte : ∀ w, (binOp .neq 30 (.agg #[.int .i64 (ts[k].kind : Nat), .string ⟨ts[k].text.toArray⟩, .int .i64 (ts[k].at_ : Nat)]) (.agg #[.int .i64 (us[k].kind : Nat), .string ⟨us[k].text.toArray⟩, .int .i64 (us[k].at_ : Nat)])).run Try.prog w = .ok (.bool false) w := by
            intro w; rw [tok_neq]; simp [he]
          have HTS := hidE (take_succ_eq ts us k hlt hk2 HT.out he)
          clear he
          go_wp2_with fail
          go_quiet (fail)
          go_wp2_with fail
          go_roundg (ts.length - (k + 1))
          case measure => omega
          case rel => exact ⟨k + 1, _, rfl, by omega, by go_num, rfl, HTS.out⟩
        · have hte : ∀ w, (binOp .neq 30 (.agg #[.int .i64 (ts[k].kind : Nat), .string ⟨ts[k].text.toArray⟩, .int .i64 (ts[k].at_ : Nat)]) (.agg #[.int .i64 (us[k].kind : Nat), .string ⟨us[k].text.toArray⟩, .int .i64 (us[k].at_ : Nat)])).run Try.prog w = .ok (.bool true) w := by
            intro w; rw [tok_neq]; simp [he]
          have HE := hidE he
          clear he
          go_wp2_with fail
          go_quiet (fail)
          go_wp2_with fail
          go_ret
          exact ⟨ret_bool (by rw [eq_comm, decide_eq_false_iff_not]; exact fun h => HE.out (by subst h; rfl)), _, World.drewN_drewN _ _ _⟩
      · have hke : k = ts.length := by omega
        have HK := hidE hke
        clear hke
        go_wp2_with fail
        go_ret
        exact ⟨ret_bool (by
          rw [eq_comm, decide_eq_true_eq]
          have h := HT.out
          rw [HK.out, List.take_length, HL.out, List.take_length] at h
          exact h), _, rfl⟩
  · have HL := hidE hle
    have hnb : ((ts.length : Int) != (us.length : Int)) = true := by simp; omega
    clear hle
    go_enter Try.func12, Try.ntmps12
    go_wp2_with fail
    go_ret
    exact ⟨ret_bool (by rw [eq_comm, decide_eq_false_iff_not]; exact fun h => HL.out (by rw [h])), 0, rfl⟩

end Go.Proofs.Ytphffibigmpnkaa
