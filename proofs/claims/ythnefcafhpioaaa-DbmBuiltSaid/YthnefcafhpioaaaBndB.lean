/-
  Layer 11's bounds: the contracts of the document's functions.
-/
import Derived.Test.YthnefcafhpioaaaBndA
namespace Go.Proofs.Ythnefcafhpioaaa
open Go Go.RowKit
theorem tmod_two (x : Int) : x.tmod 2 = 0 ∨ (0 ≤ x ∧ x.tmod 2 = 1) ∨ (x ≤ 0 ∧ x.tmod 2 = -1) := by
  have h1 := Int.natAbs_tmod x 2
  have h2 : x.natAbs % 2 < 2 := Nat.mod_lt _ (by omega)
  have h3 : (x.tmod 2).natAbs < 2 := by rw [h1]; exact h2
  rcases Int.le_total 0 x with h | h
  · have := Int.tmod_nonneg 2 h
    omega
  · have := Int.tmod_nonneg 2 (a := -x) (by omega)
    rw [Int.neg_tmod] at this
    omega
end Go.Proofs.Ythnefcafhpioaaa
