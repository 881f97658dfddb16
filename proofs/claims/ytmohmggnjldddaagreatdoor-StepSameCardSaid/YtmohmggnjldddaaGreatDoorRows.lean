/-
  NARROWER THAN 'FOR EVERY INPUT', by the rows' own cells (each row's printed sentence says how): CfgLowers: loops, laid · StepSame: loops, laid.
  DERIVED. THE GIVEN ROWS OF THIS SEAT. 2 by the template 'for every input the law returns true; each argument reads behind the call as it read before'; 0 by the template 'total and deterministic' (their statements: YtmohmggnjldddaaGreatDoorTotals.lean).
  GIVEN WITH THE SEED: the statements are not yours to turn. If you find one false, say at which input.
  Laid BY PROGRAM, IN A SANDBOX (cutbox-rows.mjs): the forced cells as the released guide's own fill.sh prints them over the translation 3a5dbbe45560abe0… (all of the seat's roots in one cut). By AI agents, Wed Nov 11 2026. No macro, syntax, notation, axiom, sorry.
-/
import Derived.Test.YtmohmggnjldddaaGreatDoorChecked
import GoSem.Claim
import GoSem.ClaimJoined
import GoSem.ClaimMapViews
import Derived.JoinedTies
import Derived.KernelRfl
namespace Go.Proofs.YtmohmggnjldddaaGreatDoor
/- THE CELL 'sum', in the pinned program and in every row, IS THE sha256 OF THE DUMP (.gsa) THAT YtmohmggnjldddaaGreatDoorProg.lean LOADS. Nothing in Lean hashes anything: it is a label: what it is worth is what the hold of that sum in a sandbox is worth. -/
noncomputable def Tryz.pinned : Pinned := { name := "ytmohmggnjldddaagreatdoor", sum := "3a5dbbe45560abe044473e7be41dd69b65c1ff4481b74f343d8e08fe0881bc84", checked := Tryz.checked }
namespace Rows
def none {H : Type} : Left H := { results := [], args := [] }

/- WHAT THE LISTED PACKAGE-LEVEL VARIABLES READ AS WHEN THE CALL BEGINS. Each datum BY PROGRAM (the guide's laid-datum.mjs) off the statement by which the dump's own 'gosem.cut.vars' lays the variable. In a bare row this is a premise. The card (YtmohmggnjldddaaGreatDoorCards.lean) ties it to the program's text. -/
def laid_gnomon_cfg_kinds {H : Type} : DataW H := .agg [.lit (.int .i64 0), .lit (.int .i64 0), .lit (.int .i64 0), .lit (.int .i64 9), .lit (.int .i64 10), .lit (.int .i64 3), .lit (.int .i64 4), .lit (.int .i64 5), .lit (.int .i64 6), .lit (.int .i64 7), .lit (.int .i64 8)]
def laid_gnomon_cfg_fieldsOf {H : Type} : DataW H := .agg [.agg [.lit (.bool false), .lit (.bool false), .lit (.bool false), .lit (.bool false), .lit (.bool false)], .agg [.lit (.bool false), .lit (.bool false), .lit (.bool false), .lit (.bool false), .lit (.bool false)], .agg [.lit (.bool true), .lit (.bool false), .lit (.bool false), .lit (.bool true), .lit (.bool false)], .agg [.lit (.bool true), .lit (.bool false), .lit (.bool false), .lit (.bool true), .lit (.bool false)], .agg [.lit (.bool true), .lit (.bool false), .lit (.bool false), .lit (.bool true), .lit (.bool true)], .agg [.lit (.bool true), .lit (.bool false), .lit (.bool false), .lit (.bool true), .lit (.bool true)], .agg [.lit (.bool true), .lit (.bool false), .lit (.bool false), .lit (.bool true), .lit (.bool true)], .agg [.lit (.bool true), .lit (.bool false), .lit (.bool false), .lit (.bool true), .lit (.bool true)], .agg [.lit (.bool true), .lit (.bool false), .lit (.bool false), .lit (.bool true), .lit (.bool true)], .agg [.lit (.bool true), .lit (.bool false), .lit (.bool false), .lit (.bool false), .lit (.bool false)], .agg [.lit (.bool true), .lit (.bool true), .lit (.bool false), .lit (.bool true), .lit (.bool false)], .agg [.lit (.bool false), .lit (.bool true), .lit (.bool false), .lit (.bool true), .lit (.bool true)], .agg [.lit (.bool false), .lit (.bool false), .lit (.bool true), .lit (.bool true), .lit (.bool true)], .agg [.lit (.bool false), .lit (.bool false), .lit (.bool false), .lit (.bool false), .lit (.bool false)], .agg [.lit (.bool false), .lit (.bool false), .lit (.bool false), .lit (.bool false), .lit (.bool false)]]

/-- 'gnomonlaw9.CfgLowers': WHATEVER THE INPUT: true; the input reads as it did. -/
def cfgLowersSpec : ChangeSpec := { name := "cfgLowers", fn := fun _ => fun
  | [d] => { results := [.lit (.bool true)], args := [d] }
  | _ => none }
def cfgLowersRow : OpenClaim := { program := "ytmohmggnjldddaagreatdoor", sum := "3a5dbbe45560abe044473e7be41dd69b65c1ff4481b74f343d8e08fe0881bc84", func := "gnomon/gnomonlaw9.CfgLowers", spec := "cfgLowers", unfollowed := true, recurses := true, named := ["gnomon/cfg.kinds"], loops := true, apart := false, laid := [("gnomon/cfg.kinds", laid_gnomon_cfg_kinds)] }
def CfgLowersSaid : Prop := cfgLowersRow.holds Tryz.pinned (OpenSpec.ofChange cfgLowersSpec)

/-- ITS FALSE NEIGHBOUR: 'it returns false'. Refute it at one input. -/
def cfgLowersWrong : ChangeSpec := { name := "cfgLowers", fn := fun _ => fun
  | [d] => { results := [.lit (.bool false)], args := [d] }
  | _ => none }
def CfgLowersWrongFalsely : Prop := cfgLowersRow.holds Tryz.pinned (OpenSpec.ofChange cfgLowersWrong)

/-- 'gnomonlaw10.StepSame': WHATEVER THE INPUT: true; the input reads as it did. -/
def stepSameSpec : ChangeSpec := { name := "stepSame", fn := fun _ => fun
  | [d1, d2, d3] => { results := [.lit (.bool true)], args := [d1, d2, d3] }
  | _ => none }
def stepSameRow : OpenClaim := { program := "ytmohmggnjldddaagreatdoor", sum := "3a5dbbe45560abe044473e7be41dd69b65c1ff4481b74f343d8e08fe0881bc84", func := "gnomon/gnomonlaw10.StepSame", spec := "stepSame", unfollowed := true, recurses := true, named := ["gnomon/cfg.fieldsOf", "gnomon/cfg.kinds"], loops := true, apart := false, laid := [("gnomon/cfg.fieldsOf", laid_gnomon_cfg_fieldsOf), ("gnomon/cfg.kinds", laid_gnomon_cfg_kinds)] }
def StepSameSaid : Prop := stepSameRow.holds Tryz.pinned (OpenSpec.ofChange stepSameSpec)

/-- ITS FALSE NEIGHBOUR: 'it returns false'. Refute it at one input. -/
def stepSameWrong : ChangeSpec := { name := "stepSame", fn := fun _ => fun
  | [d1, d2, d3] => { results := [.lit (.bool false)], args := [d1, d2, d3] }
  | _ => none }
def StepSameWrongFalsely : Prop := stepSameRow.holds Tryz.pinned (OpenSpec.ofChange stepSameWrong)

/- THE SECOND FORM. 'bulk': how many values and letters a reading holds, each counted each time it is reached (what is shared counts as often as it is met; a slice's spare places count too). A statement '..UptoSaid' is the law's where the arguments, and the package variables that the reading takes, are together of bulk at most 1048576: NARROWER than '..Said'. Prove '..Said' where nothing that the law and all that it calls make is longer than what came in: it says more and counts as full. Else prove '..UptoSaid'. A law counts once. -/
mutual
def uptoBulk {H : Type} : DataW H → Nat
  | .lit (.string bytes) => bytes.length + 1
  | .lit _ => 1
  | .nil => 1
  | .ptr d => uptoBulk d + 1
  | .slice elems spare => uptoBulkAll elems + uptoBulkAll spare + 1
  | .agg parts => uptoBulkAll parts + 1
  | .iface _ d => uptoBulk d + 1
  | .map entries => uptoBulkEntries entries + 1
  | .held _ => 1
def uptoBulkAll {H : Type} : List (DataW H) → Nat
  | [] => 0
  | d :: r => uptoBulk d + uptoBulkAll r
def uptoBulkEntries {H : Type} : List (Lit × DataW H) → Nat
  | [] => 0
  | x :: r => uptoBulkEntry x + uptoBulkEntries r
def uptoBulkEntry {H : Type} : Lit × DataW H → Nat
  | (.string bytes, d) => bytes.length + uptoBulk d + 1
  | (_, d) => uptoBulk d + 1
 end
def uptoSmall : (H : Type) → List (DataW H) → Bool := fun _ ds => decide (uptoBulkAll ds ≤ 1048576)
def OpenSpec.upto (s : _root_.Go.ChangeSpec) : _root_.Go.OpenSpec := { _root_.Go.OpenSpec.ofChange s with cond := some uptoSmall }

/-- 'gnomonlaw9.CfgLowers', WHERE WHAT IT READS IS OF BULK AT MOST 1048576: true; the input reads as it did. -/
def cfgLowersUptoRow : OpenClaim := { program := "ytmohmggnjldddaagreatdoor", sum := "3a5dbbe45560abe044473e7be41dd69b65c1ff4481b74f343d8e08fe0881bc84", func := "gnomon/gnomonlaw9.CfgLowers", spec := "cfgLowers", unfollowed := true, recurses := true, named := ["gnomon/cfg.kinds"], loops := true, apart := false, laid := [("gnomon/cfg.kinds", laid_gnomon_cfg_kinds)], narrowed := true }
def CfgLowersUptoSaid : Prop := cfgLowersUptoRow.holds Tryz.pinned (OpenSpec.upto cfgLowersSpec)

/-- 'gnomonlaw10.StepSame', WHERE WHAT IT READS IS OF BULK AT MOST 1048576: true; the input reads as it did. -/
def stepSameUptoRow : OpenClaim := { program := "ytmohmggnjldddaagreatdoor", sum := "3a5dbbe45560abe044473e7be41dd69b65c1ff4481b74f343d8e08fe0881bc84", func := "gnomon/gnomonlaw10.StepSame", spec := "stepSame", unfollowed := true, recurses := true, named := ["gnomon/cfg.fieldsOf", "gnomon/cfg.kinds"], loops := true, apart := false, laid := [("gnomon/cfg.fieldsOf", laid_gnomon_cfg_fieldsOf), ("gnomon/cfg.kinds", laid_gnomon_cfg_kinds)], narrowed := true }
def StepSameUptoSaid : Prop := stepSameUptoRow.holds Tryz.pinned (OpenSpec.upto stepSameSpec)

end Rows
end Go.Proofs.YtmohmggnjldddaaGreatDoor
