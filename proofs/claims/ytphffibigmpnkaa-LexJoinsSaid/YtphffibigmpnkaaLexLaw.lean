/-
  What the laws of lex share: equal tokens, the one token of a text that is one, texts put together.
-/
import Derived.Test.YtphffibigmpnkaaLexPureB
import Derived.Test.YtphffibigmpnkaaLexAwake
namespace Go.Proofs.Ytphffibigmpnkaa
open Go.RowKit Lx

theorem run_eql_tok (w : World) (k a : Int) (s : ByteArray) :
    (binOp .eql 30 (.agg #[.int .i64 k, .string s, .int .i64 a]) (.agg #[.int .i64 k, .string s, .int .i64 a])).run Try.prog w = .ok (.bool true) w := by
  have e3 : ∀ (w : World) (a : Int), (Op.equalIn 9999 3 (.int .i64 a) (.int .i64 a)).run Try.prog w = .ok true w := fun w a => by rw [run_equalIn_int w 9998 3 .i64 .i64 a a Try.underlying3]; simp
  have e9 : ∀ (w : World) (a : ByteArray), (Op.equalIn 9999 9 (.string a) (.string a)).run Try.prog w = .ok true w := fun w a => by rw [run_equalIn_string w 9998 9 a a Try.underlying9]; simp
  rw [run_eql_struct, show (10000 : Nat) = 9999 + 1 from rfl, run_equalIn_struct _ _ _ _ _ under_tok held_tok]
  simp only [Program.fieldsOf, Try.underlying30, Op.eqFields]
  simp [part, e3, e9]

/-- the one token of a text that is one, as it lies in memory -/
theorem one_tok (w : World) (p : Option Addr) (c : Nat) (s : ByteArray) (k : Nat) (K : Int) (hK : K = k) (h : RdT w (.slice p 1 c) [⟨k, s.data.toList, 0⟩]) :
    ∃ g, p = some ⟨g, 0, none⟩ ∧ w.cell? ⟨g, 0, none⟩ = some (.int .i64 K) ∧ w.cell? ⟨g, 1, none⟩ = some (.string s) ∧ w.cell? ⟨g, 2, none⟩ = some (.int .i64 0) := by
  obtain ⟨g, c', hv, h0, h1, h2⟩ := h.at_ 0 (by simp)
  injection hv with hA _ hC
  subst hK
  refine ⟨g, hA, by simpa using h0, ?_, by simpa using h2⟩
  have e : (⟨s.data.toList.toArray⟩ : ByteArray) = s := Lib.mk_data s
  simpa [e] using h1

theorem append_data (a b : ByteArray) : (a ++ b).data.toList = a.data.toList ++ b.data.toList := by simp

end Go.Proofs.Ytphffibigmpnkaa
