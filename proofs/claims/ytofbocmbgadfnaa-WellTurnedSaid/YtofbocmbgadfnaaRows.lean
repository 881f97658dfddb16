/-
  NARROWER THAN 'FOR EVERY INPUT', by the rows' own cells (each row's printed sentence says how): WellExact: loops · WellParts: loops · WellTurned: loops.
  DERIVED. THE GIVEN ROWS OF THIS SEAT. 3 by the template 'for every input the law returns true; each argument reads behind the call as it read before'; 0 by the template 'total and deterministic' (their statements: YtofbocmbgadfnaaTotals.lean).
  GIVEN WITH THE SEED: the statements are not yours to turn. If you find one false, say at which input.
  Laid BY PROGRAM, IN A SANDBOX (cutbox-rows.mjs): the forced cells as the released guide's own fill.sh prints them over the translation ea5bc13eb75e020a… (all of the seat's roots in one cut). By AI agents, Wed Nov 11 2026. No macro, syntax, notation, axiom, sorry.
-/
import Derived.Test.YtofbocmbgadfnaaChecked
import GoSem.Claim
import GoSem.ClaimJoined
import GoSem.ClaimMapViews
import Derived.JoinedTies
import Derived.KernelRfl
namespace Go.Proofs.Ytofbocmbgadfnaa
/- THE CELL 'sum', in the pinned program and in every row, IS THE sha256 OF THE DUMP (.gsa) THAT YtofbocmbgadfnaaProg.lean LOADS. Nothing in Lean hashes anything: it is a label: what it is worth is what the hold of that sum in a sandbox is worth. -/
noncomputable def Try.pinned : Pinned := { name := "ytofbocmbgadfnaa", sum := "ea5bc13eb75e020a988687bc90c8a49b9ba19f8a24cfdd072bb453c70fa508ef", checked := Try.checked }
namespace Rows
def none {H : Type} : Left H := { results := [], args := [] }

/-- 'gnomonlaw6.WellExact': WHATEVER THE INPUT: true; the input reads as it did. -/
def wellExactSpec : ChangeSpec := { name := "wellExact", fn := fun _ => fun
  | [d] => { results := [.lit (.bool true)], args := [d] }
  | _ => none }
def wellExactRow : OpenClaim := { program := "ytofbocmbgadfnaa", sum := "ea5bc13eb75e020a988687bc90c8a49b9ba19f8a24cfdd072bb453c70fa508ef", func := "gnomon/gnomonlaw6.WellExact", spec := "wellExact", unfollowed := true, recurses := true, loops := true, apart := false }
def WellExactSaid : Prop := wellExactRow.holds Try.pinned (OpenSpec.ofChange wellExactSpec)

/-- ITS FALSE NEIGHBOUR: 'it returns false'. Refute it at one input. -/
def wellExactWrong : ChangeSpec := { name := "wellExact", fn := fun _ => fun
  | [d] => { results := [.lit (.bool false)], args := [d] }
  | _ => none }
def WellExactWrongFalsely : Prop := wellExactRow.holds Try.pinned (OpenSpec.ofChange wellExactWrong)

/-- 'gnomonlaw6.WellParts': WHATEVER THE INPUT: true; the input reads as it did. -/
def wellPartsSpec : ChangeSpec := { name := "wellParts", fn := fun _ => fun
  | [d1, d2, d3] => { results := [.lit (.bool true)], args := [d1, d2, d3] }
  | _ => none }
def wellPartsRow : OpenClaim := { program := "ytofbocmbgadfnaa", sum := "ea5bc13eb75e020a988687bc90c8a49b9ba19f8a24cfdd072bb453c70fa508ef", func := "gnomon/gnomonlaw6.WellParts", spec := "wellParts", unfollowed := true, recurses := true, loops := true, apart := false }
def WellPartsSaid : Prop := wellPartsRow.holds Try.pinned (OpenSpec.ofChange wellPartsSpec)

/-- ITS FALSE NEIGHBOUR: 'it returns false'. Refute it at one input. -/
def wellPartsWrong : ChangeSpec := { name := "wellParts", fn := fun _ => fun
  | [d1, d2, d3] => { results := [.lit (.bool false)], args := [d1, d2, d3] }
  | _ => none }
def WellPartsWrongFalsely : Prop := wellPartsRow.holds Try.pinned (OpenSpec.ofChange wellPartsWrong)

/-- 'gnomonlaw6.WellTurned': WHATEVER THE INPUT: true; the input reads as it did. -/
def wellTurnedSpec : ChangeSpec := { name := "wellTurned", fn := fun _ => fun
  | [d] => { results := [.lit (.bool true)], args := [d] }
  | _ => none }
def wellTurnedRow : OpenClaim := { program := "ytofbocmbgadfnaa", sum := "ea5bc13eb75e020a988687bc90c8a49b9ba19f8a24cfdd072bb453c70fa508ef", func := "gnomon/gnomonlaw6.WellTurned", spec := "wellTurned", unfollowed := true, recurses := true, loops := true, apart := false }
def WellTurnedSaid : Prop := wellTurnedRow.holds Try.pinned (OpenSpec.ofChange wellTurnedSpec)

/-- ITS FALSE NEIGHBOUR: 'it returns false'. Refute it at one input. -/
def wellTurnedWrong : ChangeSpec := { name := "wellTurned", fn := fun _ => fun
  | [d] => { results := [.lit (.bool false)], args := [d] }
  | _ => none }
def WellTurnedWrongFalsely : Prop := wellTurnedRow.holds Try.pinned (OpenSpec.ofChange wellTurnedWrong)

/- THE SECOND FORM. 'bulk': how many values and letters a reading holds, each counted each time it is reached (what is shared counts as often as it is met; a slice's spare places count too). A statement '..UptoSaid' is the law's where the arguments, and the package variables that the reading takes, are together of bulk at most 1048576: NARROWER than '..Said'. Prove '..Said' where nothing that the law and all that it calls make is longer than what came in: it says more and counts as full. Else prove '..UptoSaid'. A law counts once. -/
mutual
def uptoBulk {H : Type} : DataW H → Nat
  | .lit (.string bytes) => bytes.length + 1
  | .lit _ => 1
  | .nil => 1
  | .ptr d => uptoBulk d + 1
  | .slice elems spare => uptoBulkAll elems + uptoBulkAll spare + 1
  | .agg parts => uptoBulkAll parts + 1
  | .iface _ d => uptoBulk d + 1
  | .map entries => uptoBulkEntries entries + 1
  | .held _ => 1
def uptoBulkAll {H : Type} : List (DataW H) → Nat
  | [] => 0
  | d :: r => uptoBulk d + uptoBulkAll r
def uptoBulkEntries {H : Type} : List (Lit × DataW H) → Nat
  | [] => 0
  | x :: r => uptoBulkEntry x + uptoBulkEntries r
def uptoBulkEntry {H : Type} : Lit × DataW H → Nat
  | (.string bytes, d) => bytes.length + uptoBulk d + 1
  | (_, d) => uptoBulk d + 1
 end
def uptoSmall : (H : Type) → List (DataW H) → Bool := fun _ ds => decide (uptoBulkAll ds ≤ 1048576)
def OpenSpec.upto (s : _root_.Go.ChangeSpec) : _root_.Go.OpenSpec := { _root_.Go.OpenSpec.ofChange s with cond := some uptoSmall }

/-- 'gnomonlaw6.WellExact', WHERE WHAT IT READS IS OF BULK AT MOST 1048576: true; the input reads as it did. -/
def wellExactUptoRow : OpenClaim := { program := "ytofbocmbgadfnaa", sum := "ea5bc13eb75e020a988687bc90c8a49b9ba19f8a24cfdd072bb453c70fa508ef", func := "gnomon/gnomonlaw6.WellExact", spec := "wellExact", unfollowed := true, recurses := true, loops := true, apart := false, narrowed := true }
def WellExactUptoSaid : Prop := wellExactUptoRow.holds Try.pinned (OpenSpec.upto wellExactSpec)

/-- 'gnomonlaw6.WellParts', WHERE WHAT IT READS IS OF BULK AT MOST 1048576: true; the input reads as it did. -/
def wellPartsUptoRow : OpenClaim := { program := "ytofbocmbgadfnaa", sum := "ea5bc13eb75e020a988687bc90c8a49b9ba19f8a24cfdd072bb453c70fa508ef", func := "gnomon/gnomonlaw6.WellParts", spec := "wellParts", unfollowed := true, recurses := true, loops := true, apart := false, narrowed := true }
def WellPartsUptoSaid : Prop := wellPartsUptoRow.holds Try.pinned (OpenSpec.upto wellPartsSpec)

/-- 'gnomonlaw6.WellTurned', WHERE WHAT IT READS IS OF BULK AT MOST 1048576: true; the input reads as it did. -/
def wellTurnedUptoRow : OpenClaim := { program := "ytofbocmbgadfnaa", sum := "ea5bc13eb75e020a988687bc90c8a49b9ba19f8a24cfdd072bb453c70fa508ef", func := "gnomon/gnomonlaw6.WellTurned", spec := "wellTurned", unfollowed := true, recurses := true, loops := true, apart := false, narrowed := true }
def WellTurnedUptoSaid : Prop := wellTurnedUptoRow.holds Try.pinned (OpenSpec.upto wellTurnedSpec)

end Rows
end Go.Proofs.Ytofbocmbgadfnaa
