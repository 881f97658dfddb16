/-
  What the first layer's statements ask first ('known'): proved is that the call answers true and turns nothing that lay.
  Condition: Go's tables of package unicode/utf8 hold what its text lays.
-/
import Derived.Test.YtohmljljfbhdfaaDoorCheck
import Derived.Test.YtohmljljfbhdfaaDoorAt
namespace Go.Proofs.YtohmljljfbhdfaaDoor
open Go Go.RowKit

/-- What two calls in a row leave. -/
theorem below_then {a b c : World} (h : Below a.heap.size a b) (k : Below b.heap.size b c) : Below a.heap.size a c := h.trans (k.mono h.size)

theorem known_check : chkAll ⟨#[97, 255]⟩ = (1, 11) := by decide +kernel
theorem known_class : cls 233 = 3 := by decide +kernel
theorem known_at : atV ⟨#[97, 195, 169, 10, 98]⟩ 4 = (2, 1) := by decide +kernel

theorem check_known (w : World) (hT : Lib.Utf8Tabs 0 1 w) :
    Calls Tryd.prog 9 #[.string ⟨#[97, 255]⟩] w fun e w' => e = .returned (.tuple #[.int .i64 1, .int .i64 11]) ∧ Below w.heap.size w w' := by
  have h := check_any ⟨#[97, 255]⟩ w (by unfold maxLen; decide) hT
  rw [known_check] at h
  exact h
theorem class_known (w : World) : Calls Tryd.prog 11 #[.int .i32 233] w fun e w' => e = .returned (.int .i64 3) ∧ w = w' := by
  have h := class_any 233 w
  rw [known_class] at h
  exact h
theorem at_known (w : World) : Calls Tryd.prog 13 #[.string ⟨#[97, 195, 169, 10, 98]⟩, .int .i64 4] w fun e w' => e = .returned (.agg #[.int .i64 2, .int .i64 1]) ∧ Below w.heap.size w w' := by
  have h := at_any ⟨#[97, 195, 169, 10, 98]⟩ 4 w (by decide)
  rw [known_at] at h
  exact h

set_option maxHeartbeats 2000000 in
theorem known_any (w : World) (hT : Lib.Utf8Tabs 0 1 w) :
    Calls Tryd.prog 8 #[] w fun e w' => e = .returned (.bool true) ∧ Below w.heap.size w w' := by
  go_enter Tryd.func8, Tryd.ntmps8
  go_wp2_with (first | (go_at_call 9; refine (check_known _ hT).mono ?_; rintro e w1 ⟨rfl, hb1⟩) | (go_at_call 11; refine (class_known _).mono ?_; rintro e w2 ⟨rfl, rfl⟩) | (go_at_call 13; refine (at_known _).mono ?_; rintro e w3 ⟨rfl, hb3⟩))
  go_ret
  exact ⟨rfl, hb1.trans (hb3.mono hb1.size)⟩
end Go.Proofs.YtohmljljfbhdfaaDoor
