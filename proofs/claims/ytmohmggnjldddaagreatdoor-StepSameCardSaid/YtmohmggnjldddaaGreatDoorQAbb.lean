/-
  Short names: proved is that what holds may be hidden, and that two things that hold hold together.
-/
import Derived.Lib.Hide
namespace Go.Proofs.YtmohmggnjldddaaGreatDoor
open Go
theorem zh {p : Prop} (h : p) : RowKit.Hid p := Lib.hid h
theorem za {p q : Prop} (a : p) (b : q) : p ∧ q := ⟨a, b⟩
end Go.Proofs.YtmohmggnjldddaaGreatDoor
