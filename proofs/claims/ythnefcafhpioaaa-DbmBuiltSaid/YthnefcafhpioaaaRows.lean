/-
  No cell of these rows narrows 'for every input' (looked for: loops, veiled, ifaces, maps, wideKeys, modest, calm, conditions, laid).
  DERIVED. THE GIVEN ROWS OF THIS SEAT. 6 by the template 'for every input the law returns true; each argument reads behind the call as it read before'; 0 by the template 'total and deterministic' (their statements: YthnefcafhpioaaaTotals.lean).
  GIVEN WITH THE SEED: the statements are not yours to turn. If you find one false, say at which input.
  Laid BY PROGRAM, IN A SANDBOX (cutbox-rows.mjs): the forced cells as the released guide's own fill.sh prints them over the translation cd7beb57b270108d… (all of the seat's roots in one cut). By AI agents, Wed Nov 11 2026. No macro, syntax, notation, axiom, sorry.
-/
import Derived.Test.YthnefcafhpioaaaChecked
import GoSem.Claim
import GoSem.ClaimJoined
import GoSem.ClaimMapViews
import Derived.JoinedTies
import Derived.KernelRfl
namespace Go.Proofs.Ythnefcafhpioaaa
/- THE CELL 'sum', in the pinned program and in every row, IS THE sha256 OF THE DUMP (.gsa) THAT YthnefcafhpioaaaProg.lean LOADS. Nothing in Lean hashes anything: it is a label: what it is worth is what the hold of that sum in a sandbox is worth. -/
noncomputable def Try.pinned : Pinned := { name := "ythnefcafhpioaaa", sum := "cd7beb57b270108d3647b28fe86bd75f404812b087fe770e1231408247d72d3b", checked := Try.checked }
namespace Rows
def none {H : Type} : Left H := { results := [], args := [] }

/-- 'gnomonlaw12.DbmChecks': WHATEVER THE INPUT: true; the input reads as it did. -/
def dbmChecksSpec : ChangeSpec := { name := "dbmChecks", fn := fun _ => fun
  | [d1, d2, d3] => { results := [.lit (.bool true)], args := [d1, d2, d3] }
  | _ => none }
def dbmChecksRow : OpenClaim := { program := "ythnefcafhpioaaa", sum := "cd7beb57b270108d3647b28fe86bd75f404812b087fe770e1231408247d72d3b", func := "gnomon/gnomonlaw12.DbmChecks", spec := "dbmChecks", inPlace := ["math/bits.Sub64"], unfollowed := true, recurses := true, apart := false }
def DbmChecksSaid : Prop := dbmChecksRow.holds Try.pinned (OpenSpec.ofChange dbmChecksSpec)

/-- ITS FALSE NEIGHBOUR: 'it returns false'. Refute it at one input. -/
def dbmChecksWrong : ChangeSpec := { name := "dbmChecks", fn := fun _ => fun
  | [d1, d2, d3] => { results := [.lit (.bool false)], args := [d1, d2, d3] }
  | _ => none }
def DbmChecksWrongFalsely : Prop := dbmChecksRow.holds Try.pinned (OpenSpec.ofChange dbmChecksWrong)

/-- 'gnomonlaw12.DbmCells': WHATEVER THE INPUT: true; the input reads as it did. -/
def dbmCellsSpec : ChangeSpec := { name := "dbmCells", fn := fun _ => fun
  | [d1, d2, d3, d4] => { results := [.lit (.bool true)], args := [d1, d2, d3, d4] }
  | _ => none }
def dbmCellsRow : OpenClaim := { program := "ythnefcafhpioaaa", sum := "cd7beb57b270108d3647b28fe86bd75f404812b087fe770e1231408247d72d3b", func := "gnomon/gnomonlaw12.DbmCells", spec := "dbmCells", inPlace := ["math/bits.Sub64"], unfollowed := true, recurses := true, apart := false }
def DbmCellsSaid : Prop := dbmCellsRow.holds Try.pinned (OpenSpec.ofChange dbmCellsSpec)

/-- ITS FALSE NEIGHBOUR: 'it returns false'. Refute it at one input. -/
def dbmCellsWrong : ChangeSpec := { name := "dbmCells", fn := fun _ => fun
  | [d1, d2, d3, d4] => { results := [.lit (.bool false)], args := [d1, d2, d3, d4] }
  | _ => none }
def DbmCellsWrongFalsely : Prop := dbmCellsRow.holds Try.pinned (OpenSpec.ofChange dbmCellsWrong)

/-- 'gnomonlaw12.DbmPoints': WHATEVER THE INPUT: true; the input reads as it did. -/
def dbmPointsSpec : ChangeSpec := { name := "dbmPoints", fn := fun _ => fun
  | [d1, d2, d3, d4] => { results := [.lit (.bool true)], args := [d1, d2, d3, d4] }
  | _ => none }
def dbmPointsRow : OpenClaim := { program := "ythnefcafhpioaaa", sum := "cd7beb57b270108d3647b28fe86bd75f404812b087fe770e1231408247d72d3b", func := "gnomon/gnomonlaw12.DbmPoints", spec := "dbmPoints", inPlace := ["math/bits.Sub64"], unfollowed := true, recurses := true, apart := false }
def DbmPointsSaid : Prop := dbmPointsRow.holds Try.pinned (OpenSpec.ofChange dbmPointsSpec)

/-- ITS FALSE NEIGHBOUR: 'it returns false'. Refute it at one input. -/
def dbmPointsWrong : ChangeSpec := { name := "dbmPoints", fn := fun _ => fun
  | [d1, d2, d3, d4] => { results := [.lit (.bool false)], args := [d1, d2, d3, d4] }
  | _ => none }
def DbmPointsWrongFalsely : Prop := dbmPointsRow.holds Try.pinned (OpenSpec.ofChange dbmPointsWrong)

/-- 'gnomonlaw12.DbmListed': WHATEVER THE INPUT: true; the input reads as it did. -/
def dbmListedSpec : ChangeSpec := { name := "dbmListed", fn := fun _ => fun
  | [d1, d2] => { results := [.lit (.bool true)], args := [d1, d2] }
  | _ => none }
def dbmListedRow : OpenClaim := { program := "ythnefcafhpioaaa", sum := "cd7beb57b270108d3647b28fe86bd75f404812b087fe770e1231408247d72d3b", func := "gnomon/gnomonlaw12.DbmListed", spec := "dbmListed", inPlace := ["math/bits.Sub64"], unfollowed := true, recurses := true, apart := false }
def DbmListedSaid : Prop := dbmListedRow.holds Try.pinned (OpenSpec.ofChange dbmListedSpec)

/-- ITS FALSE NEIGHBOUR: 'it returns false'. Refute it at one input. -/
def dbmListedWrong : ChangeSpec := { name := "dbmListed", fn := fun _ => fun
  | [d1, d2] => { results := [.lit (.bool false)], args := [d1, d2] }
  | _ => none }
def DbmListedWrongFalsely : Prop := dbmListedRow.holds Try.pinned (OpenSpec.ofChange dbmListedWrong)

/-- 'gnomonlaw12.DbmWith': WHATEVER THE INPUT: true; the input reads as it did. -/
def dbmWithSpec : ChangeSpec := { name := "dbmWith", fn := fun _ => fun
  | [d1, d2, d3, d4, d5] => { results := [.lit (.bool true)], args := [d1, d2, d3, d4, d5] }
  | _ => none }
def dbmWithRow : OpenClaim := { program := "ythnefcafhpioaaa", sum := "cd7beb57b270108d3647b28fe86bd75f404812b087fe770e1231408247d72d3b", func := "gnomon/gnomonlaw12.DbmWith", spec := "dbmWith", inPlace := ["math/bits.Sub64"], unfollowed := true, recurses := true, apart := false }
def DbmWithSaid : Prop := dbmWithRow.holds Try.pinned (OpenSpec.ofChange dbmWithSpec)

/-- ITS FALSE NEIGHBOUR: 'it returns false'. Refute it at one input. -/
def dbmWithWrong : ChangeSpec := { name := "dbmWith", fn := fun _ => fun
  | [d1, d2, d3, d4, d5] => { results := [.lit (.bool false)], args := [d1, d2, d3, d4, d5] }
  | _ => none }
def DbmWithWrongFalsely : Prop := dbmWithRow.holds Try.pinned (OpenSpec.ofChange dbmWithWrong)

/-- 'gnomonlaw12.DbmBuilt': WHATEVER THE INPUT: true; the input reads as it did. -/
def dbmBuiltSpec : ChangeSpec := { name := "dbmBuilt", fn := fun _ => fun
  | [d1, d2, d3] => { results := [.lit (.bool true)], args := [d1, d2, d3] }
  | _ => none }
def dbmBuiltRow : OpenClaim := { program := "ythnefcafhpioaaa", sum := "cd7beb57b270108d3647b28fe86bd75f404812b087fe770e1231408247d72d3b", func := "gnomon/gnomonlaw12.DbmBuilt", spec := "dbmBuilt", inPlace := ["math/bits.Sub64"], unfollowed := true, recurses := true, apart := false }
def DbmBuiltSaid : Prop := dbmBuiltRow.holds Try.pinned (OpenSpec.ofChange dbmBuiltSpec)

/-- ITS FALSE NEIGHBOUR: 'it returns false'. Refute it at one input. -/
def dbmBuiltWrong : ChangeSpec := { name := "dbmBuilt", fn := fun _ => fun
  | [d1, d2, d3] => { results := [.lit (.bool false)], args := [d1, d2, d3] }
  | _ => none }
def DbmBuiltWrongFalsely : Prop := dbmBuiltRow.holds Try.pinned (OpenSpec.ofChange dbmBuiltWrong)

/- THE SECOND FORM. 'bulk': how many values and letters a reading holds, each counted each time it is reached (what is shared counts as often as it is met; a slice's spare places count too). A statement '..UptoSaid' is the law's where the arguments, and the package variables that the reading takes, are together of bulk at most 1048576: NARROWER than '..Said'. Prove '..Said' where nothing that the law and all that it calls make is longer than what came in: it says more and counts as full. Else prove '..UptoSaid'. A law counts once. -/
mutual
def uptoBulk {H : Type} : DataW H → Nat
  | .lit (.string bytes) => bytes.length + 1
  | .lit _ => 1
  | .nil => 1
  | .ptr d => uptoBulk d + 1
  | .slice elems spare => uptoBulkAll elems + uptoBulkAll spare + 1
  | .agg parts => uptoBulkAll parts + 1
  | .iface _ d => uptoBulk d + 1
  | .map entries => uptoBulkEntries entries + 1
  | .held _ => 1
def uptoBulkAll {H : Type} : List (DataW H) → Nat
  | [] => 0
  | d :: r => uptoBulk d + uptoBulkAll r
def uptoBulkEntries {H : Type} : List (Lit × DataW H) → Nat
  | [] => 0
  | x :: r => uptoBulkEntry x + uptoBulkEntries r
def uptoBulkEntry {H : Type} : Lit × DataW H → Nat
  | (.string bytes, d) => bytes.length + uptoBulk d + 1
  | (_, d) => uptoBulk d + 1
 end
def uptoSmall : (H : Type) → List (DataW H) → Bool := fun _ ds => decide (uptoBulkAll ds ≤ 1048576)
def OpenSpec.upto (s : _root_.Go.ChangeSpec) : _root_.Go.OpenSpec := { _root_.Go.OpenSpec.ofChange s with cond := some uptoSmall }

/-- 'gnomonlaw12.DbmChecks', WHERE WHAT IT READS IS OF BULK AT MOST 1048576: true; the input reads as it did. -/
def dbmChecksUptoRow : OpenClaim := { program := "ythnefcafhpioaaa", sum := "cd7beb57b270108d3647b28fe86bd75f404812b087fe770e1231408247d72d3b", func := "gnomon/gnomonlaw12.DbmChecks", spec := "dbmChecks", inPlace := ["math/bits.Sub64"], unfollowed := true, recurses := true, apart := false, narrowed := true }
def DbmChecksUptoSaid : Prop := dbmChecksUptoRow.holds Try.pinned (OpenSpec.upto dbmChecksSpec)

/-- 'gnomonlaw12.DbmCells', WHERE WHAT IT READS IS OF BULK AT MOST 1048576: true; the input reads as it did. -/
def dbmCellsUptoRow : OpenClaim := { program := "ythnefcafhpioaaa", sum := "cd7beb57b270108d3647b28fe86bd75f404812b087fe770e1231408247d72d3b", func := "gnomon/gnomonlaw12.DbmCells", spec := "dbmCells", inPlace := ["math/bits.Sub64"], unfollowed := true, recurses := true, apart := false, narrowed := true }
def DbmCellsUptoSaid : Prop := dbmCellsUptoRow.holds Try.pinned (OpenSpec.upto dbmCellsSpec)

/-- 'gnomonlaw12.DbmPoints', WHERE WHAT IT READS IS OF BULK AT MOST 1048576: true; the input reads as it did. -/
def dbmPointsUptoRow : OpenClaim := { program := "ythnefcafhpioaaa", sum := "cd7beb57b270108d3647b28fe86bd75f404812b087fe770e1231408247d72d3b", func := "gnomon/gnomonlaw12.DbmPoints", spec := "dbmPoints", inPlace := ["math/bits.Sub64"], unfollowed := true, recurses := true, apart := false, narrowed := true }
def DbmPointsUptoSaid : Prop := dbmPointsUptoRow.holds Try.pinned (OpenSpec.upto dbmPointsSpec)

/-- 'gnomonlaw12.DbmListed', WHERE WHAT IT READS IS OF BULK AT MOST 1048576: true; the input reads as it did. -/
def dbmListedUptoRow : OpenClaim := { program := "ythnefcafhpioaaa", sum := "cd7beb57b270108d3647b28fe86bd75f404812b087fe770e1231408247d72d3b", func := "gnomon/gnomonlaw12.DbmListed", spec := "dbmListed", inPlace := ["math/bits.Sub64"], unfollowed := true, recurses := true, apart := false, narrowed := true }
def DbmListedUptoSaid : Prop := dbmListedUptoRow.holds Try.pinned (OpenSpec.upto dbmListedSpec)

/-- 'gnomonlaw12.DbmWith', WHERE WHAT IT READS IS OF BULK AT MOST 1048576: true; the input reads as it did. -/
def dbmWithUptoRow : OpenClaim := { program := "ythnefcafhpioaaa", sum := "cd7beb57b270108d3647b28fe86bd75f404812b087fe770e1231408247d72d3b", func := "gnomon/gnomonlaw12.DbmWith", spec := "dbmWith", inPlace := ["math/bits.Sub64"], unfollowed := true, recurses := true, apart := false, narrowed := true }
def DbmWithUptoSaid : Prop := dbmWithUptoRow.holds Try.pinned (OpenSpec.upto dbmWithSpec)

/-- 'gnomonlaw12.DbmBuilt', WHERE WHAT IT READS IS OF BULK AT MOST 1048576: true; the input reads as it did. -/
def dbmBuiltUptoRow : OpenClaim := { program := "ythnefcafhpioaaa", sum := "cd7beb57b270108d3647b28fe86bd75f404812b087fe770e1231408247d72d3b", func := "gnomon/gnomonlaw12.DbmBuilt", spec := "dbmBuilt", inPlace := ["math/bits.Sub64"], unfollowed := true, recurses := true, apart := false, narrowed := true }
def DbmBuiltUptoSaid : Prop := dbmBuiltUptoRow.holds Try.pinned (OpenSpec.upto dbmBuiltSpec)

end Rows
end Go.Proofs.Ythnefcafhpioaaa
