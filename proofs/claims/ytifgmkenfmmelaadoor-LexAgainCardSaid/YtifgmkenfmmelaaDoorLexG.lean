/-
  lex.signSize: proved is what it answers at a text that isn't empty.
-/
import Derived.Test.YtifgmkenfmmelaaDoorLexM
namespace Go.Proofs.YtifgmkenfmmelaaDoor
open Go Go.RowKit

/-- A sign of two runes. -/
def twoL (l : List UInt8) : Bool := l == [61, 61] || l == [33, 61] || l == [60, 61] || l == [62, 61] || l == [38, 38] || l == [124, 124]
/-- How long the sign is at which a text begins; 0: it is none. -/
def sgL (l : List UInt8) : Int := if twoL (l.take 2) = true then 2 else if ((l.headD 0).toNat : Int) = 38 ∨ ((l.headD 0).toNat : Int) = 124 then 0 else 1
theorem take_two (s : ByteArray) : (s.extract 0 (min 2 (s.size : Int)).toNat).toList = s.data.toList.take 2 := by
  rw [Lib.toList_data]
  simp only [ByteArray.data_extract, Array.toList_extract, List.extract_eq_take_drop, List.drop_zero, Nat.sub_zero]
  by_cases h : 2 ≤ s.size
  · have : (min 2 (s.size : Int)).toNat = 2 := by omega
    rw [this]
  · have h1 : (min 2 (s.size : Int)).toNat = s.size := by omega
    have h2 : s.data.toList.length = s.size := by rw [Array.length_toList]; rfl
    rw [h1, List.take_of_length_le (by omega), List.take_of_length_le (by omega)]
theorem head_at (s : ByteArray) (h : 0 < s.size) : s.data.toList.headD 0 = s[0] := by
  cases s with
  | mk d =>
    cases d with
    | mk l =>
      cases l with
      | nil => simp [ByteArray.size] at h
      | cons a t => rfl

set_option maxHeartbeats 1000000 in
theorem signSize_any (s : ByteArray) (w : World) (hs : s.size ≤ maxLen) (h0 : 0 < s.size) :
    Calls Tryd.prog 59 #[.string s] w fun e w' => e = .returned (.int .i64 (sgL s.data.toList)) ∧ w = w' := by
  unfold maxLen at hs
  go_enter Tryd.func59, Tryd.ntmps59
  go_wp2
  all_goals
    go_ret
    refine ⟨ret_int ?_, rfl⟩
    first
      | (exfalso; simp_all; done)
      | (simp only [take_two] at *
         unfold sgL twoL
         rw [head_at s h0]
         simp only [beq_iff_eq, beq_eq_false_iff_ne, ne_eq] at *
         simp [*])
end Go.Proofs.YtifgmkenfmmelaaDoor
