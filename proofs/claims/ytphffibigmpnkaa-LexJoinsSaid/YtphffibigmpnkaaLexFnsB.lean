/-
  The walks over wordKind, word, number, meta of package lex, and over the two functions of package strings that it calls.
-/
import Derived.Test.YtphffibigmpnkaaLexFns
import Derived.Lib.Bytealg
namespace Go.Proofs.Ytphffibigmpnkaa
open Go.RowKit Lx

theorem stringslite_IndexByte_any (s : ByteArray) (c : Int) (w : World) :
    Calls Try.prog 28 #[.string s, .int .u8 c] w fun e w' => e = .returned (.int .i64 (Lib.indexByte s.data.toList c.toNat.toUInt8)) ∧ w = w' := by
  go_enter Try.func28, Try.ntmps28
  go_wp2
  rw [run_callFunc_extern Try.func34 (by kernel_rfl) (by kernel_rfl) (by kernel_rfl) (e := Extern.BytealgIndexByte.indexByte) (by kernel_rfl), Lib.run_indexByteString]
  simp only [Result.andThen]
  rw [Oper.upon_value]
  go_wp2
  go_ret
  exact ⟨rfl, rfl⟩

theorem IndexByte_any (s : ByteArray) (c : Int) (w : World) :
    Calls Try.prog 21 #[.string s, .int .u8 c] w fun e w' => e = .returned (.int .i64 (Lib.indexByte s.data.toList c.toNat.toUInt8)) ∧ w = w' := by
  go_enter Try.func21, Try.ntmps21
  go_wp2_with (go_at_call 28; refine (stringslite_IndexByte_any _ _ _).mono ?_; rintro e w' ⟨rfl, rfl⟩)
  go_ret
  exact ⟨rfl, rfl⟩

theorem ret_bool {a b : Bool} (h : a = b) : Ending.returned (.bool a) = .returned (.bool b) := by rw [h]

theorem wk3 (s : ByteArray) (h : s.toList ∈ keys) : (3 : Int) = (wordKind s.data.toList : Nat) := by
  rw [Lib.toList_data] at h
  simp [wordKind, h]
theorem wk2 (s : ByteArray) (hs : 0 < s.size) (hh : Hid (s.data.toList.headD 0 = s[0])) (h : s.toList ∉ keys) (hu : isUp s[0] = true) : (2 : Int) = (wordKind s.data.toList : Nat) := by
  rw [Lib.toList_data] at h
  unfold wordKind
  rw [if_neg h, hh.out, if_pos hu]
  rfl
theorem wk1 (s : ByteArray) (hs : 0 < s.size) (hh : Hid (s.data.toList.headD 0 = s[0])) (h : s.toList ∉ keys) (hu : isUp s[0] = false) : (1 : Int) = (wordKind s.data.toList : Nat) := by
  rw [Lib.toList_data] at h
  unfold wordKind
  rw [if_neg h, hh.out, hu]
  rfl

set_option maxHeartbeats 400000 in
theorem wordKind_any (s : ByteArray) (w : World) (hs : 0 < s.size) :
    Calls Try.prog 32 #[.string s] w fun e w' => e = .returned (.int .i64 (wordKind s.data.toList)) ∧ w = w' := by
  have hh : s.data.toList.headD 0 = s[0] := by
    have := drop_at s 0 hs
    simp only [List.drop_zero] at this
    rw [this]; rfl
  have H := hidE hh
  clear hh
  go_enter Try.func32, Try.ntmps32
  go_wp2_with (go_at_call 29; refine (isUpper_any _ _).mono ?_; rintro e w' ⟨rfl, rfl⟩)
  all_goals
    go_ret
    refine ⟨ret_i64 ?_, rfl⟩
    first
      | exact wk3 s (by simp_all [keys])
      | exact wk2 s hs H (by simp_all [keys]) (by assumption)
      | exact wk1 s hs H (by simp_all [keys]) (by assumption)
      | (exfalso; simp_all; done)

end Go.Proofs.Ytphffibigmpnkaa
