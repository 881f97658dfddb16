/-
  The small functions of package lex: proved is what Word, isLetter, isDigit, inName and first answer.
-/
import Derived.Test.YtifgmkenfmmelaaDoorShelf
import Derived.Test.YtifgmkenfmmelaaDoorTextM
import Derived.Test.YtifgmkenfmmelaaDoorClass
import Derived.Lib.OthersKept
import Derived.WalkSmall
namespace Go.Proofs.YtifgmkenfmmelaaDoor
open Go Go.RowKit

/-- A word of the language, by its bytes. -/
def wordL (l : List UInt8) : Bool := l == [118, 97, 114] || l == [97, 114, 114, 97, 121] || l == [105, 102] || l == [101, 108, 115, 101] || l == [119, 104, 105, 108, 101] || l == [97, 115, 115, 101, 114, 116] || l == [97, 115, 115, 117, 109, 101] || l == [115, 107, 105, 112] || l == [105, 110, 112, 117, 116] || l == [116, 114, 117, 101] || l == [102, 97, 108, 115, 101]
theorem word_any (s : ByteArray) (w : World) : Calls Tryd.prog 12 #[.string s] w fun e w' => e = .returned (.bool (wordL s.toList)) ∧ w = w' := by
  go_enter Tryd.func12, Tryd.ntmps12
  go_wp2
  all_goals
    go_ret
    refine ⟨ret_bool ?_, rfl⟩
    first | (exfalso; simp_all; done) | (unfold wordL; simp only [*, Bool.or_true, Bool.true_or, Bool.or_false])
theorem refword_any (s : ByteArray) (w : World) : Calls Tryd.prog 13 #[.string s] w fun e w' => e = .returned (.bool (wordL s.toList)) ∧ w = w' := by
  go_enter Tryd.func13, Tryd.ntmps13
  go_wp2
  all_goals
    go_ret
    refine ⟨ret_bool ?_, rfl⟩
    first | (exfalso; simp_all; done) | (unfold wordL; simp only [*, Bool.or_true, Bool.true_or, Bool.or_false])

def isLet (r : Int) : Bool := decide (cls r = 3)
def isDig (r : Int) : Bool := decide (cls r = 4)
def inNm (r : Int) : Bool := isLet r || isDig r
theorem isLetter_any (r : Int) (w : World) : Calls Tryd.prog 28 #[.int .i32 r] w fun e w' => e = .returned (.bool (isLet r)) ∧ w = w' := by
  go_enter Tryd.func28, Tryd.ntmps28
  go_wp2_with (go_at_call 45; refine (class_any _ _).mono ?_; rintro e w' ⟨rfl, rfl⟩)
  go_ret
  exact ⟨ret_bool (by unfold isLet; rw [Bool.eq_iff_iff]; simp), rfl⟩
theorem isDigit_any (r : Int) (w : World) : Calls Tryd.prog 44 #[.int .i32 r] w fun e w' => e = .returned (.bool (isDig r)) ∧ w = w' := by
  go_enter Tryd.func44, Tryd.ntmps44
  go_wp2_with (go_at_call 45; refine (class_any _ _).mono ?_; rintro e w' ⟨rfl, rfl⟩)
  go_ret
  exact ⟨ret_bool (by unfold isDig; rw [Bool.eq_iff_iff]; simp), rfl⟩
theorem inName_any (r : Int) (w : World) : Calls Tryd.prog 27 #[.int .i32 r] w fun e w' => e = .returned (.bool (inNm r)) ∧ w = w' := by
  cases h : isLet r with
  | true =>
    have H := Lib.hid h; clear h
    go_enter Tryd.func27, Tryd.ntmps27
    go_wp2_with (first | (go_at_call 28; refine (isLetter_any _ _).mono ?_; rintro e w' ⟨rfl, rfl⟩; have h := H.out) | (go_at_call 44; refine (isDigit_any _ _).mono ?_; rintro e w' ⟨rfl, rfl⟩))
    go_ret
    exact ⟨ret_bool (by unfold inNm; rw [H.out]; rfl), rfl⟩
  | false =>
    have H := Lib.hid h; clear h
    go_enter Tryd.func27, Tryd.ntmps27
    go_wp2_with (first | (go_at_call 28; refine (isLetter_any _ _).mono ?_; rintro e w' ⟨rfl, rfl⟩; have h := H.out) | (go_at_call 44; refine (isDigit_any _ _).mono ?_; rintro e w' ⟨rfl, rfl⟩))
    go_ret
    exact ⟨ret_bool (by unfold inNm; rw [H.out]; simp), rfl⟩

theorem first_any (s : ByteArray) (w : World) (hT : Lib.Utf8Tabs 0 1 w) : Calls Tryd.prog 38 #[.string s] w fun e w' => e = .returned (.int .i32 (Lib.decodeGo s).1) ∧ Below w.heap.size w w' := by
  go_enter Tryd.func38, Tryd.ntmps38
  go_wp2_with (go_at_call 47; refine (Tryd.utf8_DecodeRuneInString _ _ hT).mono ?_; rintro e w' ⟨rfl, hb⟩)
  go_ret
  exact ⟨rfl, hb⟩
end Go.Proofs.YtifgmkenfmmelaaDoor
