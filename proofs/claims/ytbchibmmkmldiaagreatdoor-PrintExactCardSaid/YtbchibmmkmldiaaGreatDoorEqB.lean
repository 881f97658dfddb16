/-
  Small lemmas on frames: what is kept from one call to the next.
-/
import Derived.Test.YtbchibmmkmldiaaGreatDoorTrees
import Derived.Test.YtbchibmmkmldiaaGreatDoorSeq
namespace Go.Proofs.YtbchibmmkmldiaaGreatDoor
open Go Go.RowKit

theorem below_drew {w w' : World} (h : Below w.heap.size w w') : Below w.heap.size w w'.drew := h.drew
theorem below_next {w wA w1 : World} (h : Below w.heap.size w wA) (hb : Below wA.heap.size wA w1) : Below w.heap.size w w1 := h.trans (hb.mono h.size)
end Go.Proofs.YtbchibmmkmldiaaGreatDoor
