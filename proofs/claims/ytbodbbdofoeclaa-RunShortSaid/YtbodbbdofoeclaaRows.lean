/-
  NARROWER THAN 'FOR EVERY INPUT', by the rows' own cells (each row's printed sentence says how): RunOn: loops.
  DERIVED. THE GIVEN ROWS OF THIS SEAT. 5 by the template 'for every input the law returns true; each argument reads behind the call as it read before'; 0 by the template 'total and deterministic' (their statements: YtbodbbdofoeclaaTotals.lean).
  GIVEN WITH THE SEED: the statements are not yours to turn. If you find one false, say at which input.
  Laid BY PROGRAM, IN A SANDBOX (cutbox-rows.mjs): the forced cells as the released guide's own fill.sh prints them over the translation c0ef27caf08860c1… (all of the seat's roots in one cut). By AI agents, Wed Nov 11 2026. No macro, syntax, notation, axiom, sorry.
-/
import Derived.Test.YtbodbbdofoeclaaChecked
import GoSem.Claim
import GoSem.ClaimJoined
import GoSem.ClaimMapViews
import Derived.JoinedTies
import Derived.KernelRfl
namespace Go.Proofs.Ytbodbbdofoeclaa
/- THE CELL 'sum', in the pinned program and in every row, IS THE sha256 OF THE DUMP (.gsa) THAT YtbodbbdofoeclaaProg.lean LOADS. Nothing in Lean hashes anything: it is a label: what it is worth is what the hold of that sum in a sandbox is worth. -/
noncomputable def Try.pinned : Pinned := { name := "ytbodbbdofoeclaa", sum := "c0ef27caf08860c1e0ffcb0b6874d8bbad33436a320d38bff462618098d8ba11", checked := Try.checked }
namespace Rows
def none {H : Type} : Left H := { results := [], args := [] }

/-- 'gnomonlaw8.RunOn': WHATEVER THE INPUT: true; the input reads as it did. -/
def runOnSpec : ChangeSpec := { name := "runOn", fn := fun _ => fun
  | [d1, d2, d3, d4] => { results := [.lit (.bool true)], args := [d1, d2, d3, d4] }
  | _ => none }
def runOnRow : OpenClaim := { program := "ytbodbbdofoeclaa", sum := "c0ef27caf08860c1e0ffcb0b6874d8bbad33436a320d38bff462618098d8ba11", func := "gnomon/gnomonlaw8.RunOn", spec := "runOn", unfollowed := true, recurses := true, loops := true, apart := false }
def RunOnSaid : Prop := runOnRow.holds Try.pinned (OpenSpec.ofChange runOnSpec)

/-- ITS FALSE NEIGHBOUR: 'it returns false'. Refute it at one input. -/
def runOnWrong : ChangeSpec := { name := "runOn", fn := fun _ => fun
  | [d1, d2, d3, d4] => { results := [.lit (.bool false)], args := [d1, d2, d3, d4] }
  | _ => none }
def RunOnWrongFalsely : Prop := runOnRow.holds Try.pinned (OpenSpec.ofChange runOnWrong)

/-- 'gnomonlaw8.RunLoops': WHATEVER THE INPUT: true; the input reads as it did. -/
def runLoopsSpec : ChangeSpec := { name := "runLoops", fn := fun _ => fun
  | [d1, d2] => { results := [.lit (.bool true)], args := [d1, d2] }
  | _ => none }
def runLoopsRow : OpenClaim := { program := "ytbodbbdofoeclaa", sum := "c0ef27caf08860c1e0ffcb0b6874d8bbad33436a320d38bff462618098d8ba11", func := "gnomon/gnomonlaw8.RunLoops", spec := "runLoops", unfollowed := true, recurses := true, apart := false }
def RunLoopsSaid : Prop := runLoopsRow.holds Try.pinned (OpenSpec.ofChange runLoopsSpec)

/-- ITS FALSE NEIGHBOUR: 'it returns false'. Refute it at one input. -/
def runLoopsWrong : ChangeSpec := { name := "runLoops", fn := fun _ => fun
  | [d1, d2] => { results := [.lit (.bool false)], args := [d1, d2] }
  | _ => none }
def RunLoopsWrongFalsely : Prop := runLoopsRow.holds Try.pinned (OpenSpec.ofChange runLoopsWrong)

/-- 'gnomonlaw8.RunDoes': WHATEVER THE INPUT: true; the input reads as it did. -/
def runDoesSpec : ChangeSpec := { name := "runDoes", fn := fun _ => fun
  | [d1, d2, d3] => { results := [.lit (.bool true)], args := [d1, d2, d3] }
  | _ => none }
def runDoesRow : OpenClaim := { program := "ytbodbbdofoeclaa", sum := "c0ef27caf08860c1e0ffcb0b6874d8bbad33436a320d38bff462618098d8ba11", func := "gnomon/gnomonlaw8.RunDoes", spec := "runDoes", unfollowed := true, recurses := true, apart := false }
def RunDoesSaid : Prop := runDoesRow.holds Try.pinned (OpenSpec.ofChange runDoesSpec)

/-- ITS FALSE NEIGHBOUR: 'it returns false'. Refute it at one input. -/
def runDoesWrong : ChangeSpec := { name := "runDoes", fn := fun _ => fun
  | [d1, d2, d3] => { results := [.lit (.bool false)], args := [d1, d2, d3] }
  | _ => none }
def RunDoesWrongFalsely : Prop := runDoesRow.holds Try.pinned (OpenSpec.ofChange runDoesWrong)

/-- 'gnomonlaw8.RunStores': WHATEVER THE INPUT: true; the input reads as it did. -/
def runStoresSpec : ChangeSpec := { name := "runStores", fn := fun _ => fun
  | [d1, d2, d3, d4] => { results := [.lit (.bool true)], args := [d1, d2, d3, d4] }
  | _ => none }
def runStoresRow : OpenClaim := { program := "ytbodbbdofoeclaa", sum := "c0ef27caf08860c1e0ffcb0b6874d8bbad33436a320d38bff462618098d8ba11", func := "gnomon/gnomonlaw8.RunStores", spec := "runStores", unfollowed := true, recurses := true, apart := false }
def RunStoresSaid : Prop := runStoresRow.holds Try.pinned (OpenSpec.ofChange runStoresSpec)

/-- ITS FALSE NEIGHBOUR: 'it returns false'. Refute it at one input. -/
def runStoresWrong : ChangeSpec := { name := "runStores", fn := fun _ => fun
  | [d1, d2, d3, d4] => { results := [.lit (.bool false)], args := [d1, d2, d3, d4] }
  | _ => none }
def RunStoresWrongFalsely : Prop := runStoresRow.holds Try.pinned (OpenSpec.ofChange runStoresWrong)

/-- 'gnomonlaw8.RunShort': WHATEVER THE INPUT: true; the input reads as it did. -/
def runShortSpec : ChangeSpec := { name := "runShort", fn := fun _ => fun
  | [d1, d2, d3, d4] => { results := [.lit (.bool true)], args := [d1, d2, d3, d4] }
  | _ => none }
def runShortRow : OpenClaim := { program := "ytbodbbdofoeclaa", sum := "c0ef27caf08860c1e0ffcb0b6874d8bbad33436a320d38bff462618098d8ba11", func := "gnomon/gnomonlaw8.RunShort", spec := "runShort", unfollowed := true, recurses := true, apart := false }
def RunShortSaid : Prop := runShortRow.holds Try.pinned (OpenSpec.ofChange runShortSpec)

/-- ITS FALSE NEIGHBOUR: 'it returns false'. Refute it at one input. -/
def runShortWrong : ChangeSpec := { name := "runShort", fn := fun _ => fun
  | [d1, d2, d3, d4] => { results := [.lit (.bool false)], args := [d1, d2, d3, d4] }
  | _ => none }
def RunShortWrongFalsely : Prop := runShortRow.holds Try.pinned (OpenSpec.ofChange runShortWrong)

/- THE SECOND FORM. 'bulk': how many values and letters a reading holds, each counted each time it is reached (what is shared counts as often as it is met; a slice's spare places count too). A statement '..UptoSaid' is the law's where the arguments, and the package variables that the reading takes, are together of bulk at most 1048576: NARROWER than '..Said'. Prove '..Said' where nothing that the law and all that it calls make is longer than what came in: it says more and counts as full. Else prove '..UptoSaid'. A law counts once. -/
mutual
def uptoBulk {H : Type} : DataW H → Nat
  | .lit (.string bytes) => bytes.length + 1
  | .lit _ => 1
  | .nil => 1
  | .ptr d => uptoBulk d + 1
  | .slice elems spare => uptoBulkAll elems + uptoBulkAll spare + 1
  | .agg parts => uptoBulkAll parts + 1
  | .iface _ d => uptoBulk d + 1
  | .map entries => uptoBulkEntries entries + 1
  | .held _ => 1
def uptoBulkAll {H : Type} : List (DataW H) → Nat
  | [] => 0
  | d :: r => uptoBulk d + uptoBulkAll r
def uptoBulkEntries {H : Type} : List (Lit × DataW H) → Nat
  | [] => 0
  | x :: r => uptoBulkEntry x + uptoBulkEntries r
def uptoBulkEntry {H : Type} : Lit × DataW H → Nat
  | (.string bytes, d) => bytes.length + uptoBulk d + 1
  | (_, d) => uptoBulk d + 1
 end
def uptoSmall : (H : Type) → List (DataW H) → Bool := fun _ ds => decide (uptoBulkAll ds ≤ 1048576)
def OpenSpec.upto (s : _root_.Go.ChangeSpec) : _root_.Go.OpenSpec := { _root_.Go.OpenSpec.ofChange s with cond := some uptoSmall }

/-- 'gnomonlaw8.RunOn', WHERE WHAT IT READS IS OF BULK AT MOST 1048576: true; the input reads as it did. -/
def runOnUptoRow : OpenClaim := { program := "ytbodbbdofoeclaa", sum := "c0ef27caf08860c1e0ffcb0b6874d8bbad33436a320d38bff462618098d8ba11", func := "gnomon/gnomonlaw8.RunOn", spec := "runOn", unfollowed := true, recurses := true, loops := true, apart := false, narrowed := true }
def RunOnUptoSaid : Prop := runOnUptoRow.holds Try.pinned (OpenSpec.upto runOnSpec)

/-- 'gnomonlaw8.RunLoops', WHERE WHAT IT READS IS OF BULK AT MOST 1048576: true; the input reads as it did. -/
def runLoopsUptoRow : OpenClaim := { program := "ytbodbbdofoeclaa", sum := "c0ef27caf08860c1e0ffcb0b6874d8bbad33436a320d38bff462618098d8ba11", func := "gnomon/gnomonlaw8.RunLoops", spec := "runLoops", unfollowed := true, recurses := true, apart := false, narrowed := true }
def RunLoopsUptoSaid : Prop := runLoopsUptoRow.holds Try.pinned (OpenSpec.upto runLoopsSpec)

/-- 'gnomonlaw8.RunDoes', WHERE WHAT IT READS IS OF BULK AT MOST 1048576: true; the input reads as it did. -/
def runDoesUptoRow : OpenClaim := { program := "ytbodbbdofoeclaa", sum := "c0ef27caf08860c1e0ffcb0b6874d8bbad33436a320d38bff462618098d8ba11", func := "gnomon/gnomonlaw8.RunDoes", spec := "runDoes", unfollowed := true, recurses := true, apart := false, narrowed := true }
def RunDoesUptoSaid : Prop := runDoesUptoRow.holds Try.pinned (OpenSpec.upto runDoesSpec)

/-- 'gnomonlaw8.RunStores', WHERE WHAT IT READS IS OF BULK AT MOST 1048576: true; the input reads as it did. -/
def runStoresUptoRow : OpenClaim := { program := "ytbodbbdofoeclaa", sum := "c0ef27caf08860c1e0ffcb0b6874d8bbad33436a320d38bff462618098d8ba11", func := "gnomon/gnomonlaw8.RunStores", spec := "runStores", unfollowed := true, recurses := true, apart := false, narrowed := true }
def RunStoresUptoSaid : Prop := runStoresUptoRow.holds Try.pinned (OpenSpec.upto runStoresSpec)

/-- 'gnomonlaw8.RunShort', WHERE WHAT IT READS IS OF BULK AT MOST 1048576: true; the input reads as it did. -/
def runShortUptoRow : OpenClaim := { program := "ytbodbbdofoeclaa", sum := "c0ef27caf08860c1e0ffcb0b6874d8bbad33436a320d38bff462618098d8ba11", func := "gnomon/gnomonlaw8.RunShort", spec := "runShort", unfollowed := true, recurses := true, apart := false, narrowed := true }
def RunShortUptoSaid : Prop := runShortUptoRow.holds Try.pinned (OpenSpec.upto runShortSpec)

end Rows
end Go.Proofs.Ytbodbbdofoeclaa
