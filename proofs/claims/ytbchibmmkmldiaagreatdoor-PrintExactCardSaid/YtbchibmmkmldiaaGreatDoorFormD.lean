/-
  The document's answer for an expression and for a condition (gnomonref3's form.told, Expr, Cond): proved is what each answers, and that it turns nothing that lay.
-/
import Derived.Test.YtbchibmmkmldiaaGreatDoorFormC
namespace Go.Proofs.YtbchibmmkmldiaaGreatDoor
open Go Go.RowKit

def toldF (f : Fm) : Int := if f.ok then (if f.names then 0 else 31) else 30
theorem told_any (f : Fm) (w : World) : Calls Tryz.prog 25 #[.agg #[.bool f.ok, .bool f.names]] w (fun e w' => e = .returned (.int .i64 (toldF f)) ∧ Below w.heap.size w w') := by
  obtain ⟨ok, names⟩ := f
  have ha := (Below.refl w.heap.size w).alloc (Nat.le_refl _) (.cells #[.bool ok, .bool names] 73)
  cases ok <;> cases names
  all_goals
    go_enter Tryz.func25, Tryz.ntmps25
    go_wp2
    go_ret
    exact ⟨rfl, ha⟩
/-- What the document answers for an expression or a condition: the walk's error, else the form's. -/
def docChk (x : Nd) : Int := if (walkN x 1 ⟨0, 0, 0⟩).bad ≠ 0 then (walkN x 1 ⟨0, 0, 0⟩).bad else toldF (formN x ⟨true, true⟩)

end Go.Proofs.YtbchibmmkmldiaaGreatDoor
