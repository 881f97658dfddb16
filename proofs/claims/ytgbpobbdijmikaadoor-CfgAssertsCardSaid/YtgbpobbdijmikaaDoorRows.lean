/-
  NARROWER THAN 'FOR EVERY INPUT', by the rows' own cells (each row's printed sentence says how): CfgTemps: laid · CfgAsserts: loops, laid.
  DERIVED. THE GIVEN ROWS OF THIS SEAT. 2 by the template 'for every input the law returns true; each argument reads behind the call as it read before'; 0 by the template 'total and deterministic' (their statements: YtgbpobbdijmikaaDoorTotals.lean).
  GIVEN WITH THE SEED: the statements are not yours to turn. If you find one false, say at which input.
  Laid BY PROGRAM, IN A SANDBOX (cutbox-rows.mjs): the forced cells as the released guide's own fill.sh prints them over the translation 20d5b8794d353c8c… (all of the seat's roots in one cut). By AI agents, Wed Nov 11 2026. No macro, syntax, notation, axiom, sorry.
-/
import Derived.Test.YtgbpobbdijmikaaDoorChecked
import GoSem.Claim
import GoSem.ClaimJoined
import GoSem.ClaimMapViews
import Derived.JoinedTies
import Derived.KernelRfl
namespace Go.Proofs.YtgbpobbdijmikaaDoor
/- THE CELL 'sum', in the pinned program and in every row, IS THE sha256 OF THE DUMP (.gsa) THAT YtgbpobbdijmikaaDoorProg.lean LOADS. Nothing in Lean hashes anything: it is a label: what it is worth is what the hold of that sum in a sandbox is worth. -/
noncomputable def Tryd.pinned : Pinned := { name := "ytgbpobbdijmikaadoor", sum := "20d5b8794d353c8c9465d15fde3055407dd3ed7f1605196ebc37e6280f4a4442", checked := Tryd.checked }
namespace Rows
def none {H : Type} : Left H := { results := [], args := [] }

/- WHAT THE LISTED PACKAGE-LEVEL VARIABLES READ AS WHEN THE CALL BEGINS. Each datum BY PROGRAM (the guide's laid-datum.mjs) off the statement by which the dump's own 'gosem.cut.vars' lays the variable. In a bare row this is a premise. The card (YtgbpobbdijmikaaDoorCards.lean) ties it to the program's text. -/
def laid_gnomon_cfg_kinds {H : Type} : DataW H := .agg [.lit (.int .i64 0), .lit (.int .i64 0), .lit (.int .i64 0), .lit (.int .i64 9), .lit (.int .i64 10), .lit (.int .i64 3), .lit (.int .i64 4), .lit (.int .i64 5), .lit (.int .i64 6), .lit (.int .i64 7), .lit (.int .i64 8)]

/-- 'gnomonlaw9.CfgTemps': WHATEVER THE INPUT: true; the input reads as it did. -/
def cfgTempsSpec : ChangeSpec := { name := "cfgTemps", fn := fun _ => fun
  | [d] => { results := [.lit (.bool true)], args := [d] }
  | _ => none }
def cfgTempsRow : OpenClaim := { program := "ytgbpobbdijmikaadoor", sum := "20d5b8794d353c8c9465d15fde3055407dd3ed7f1605196ebc37e6280f4a4442", func := "gnomon/gnomonlaw9.CfgTemps", spec := "cfgTemps", unfollowed := true, recurses := true, named := ["gnomon/cfg.kinds"], apart := false, laid := [("gnomon/cfg.kinds", laid_gnomon_cfg_kinds)] }
def CfgTempsSaid : Prop := cfgTempsRow.holds Tryd.pinned (OpenSpec.ofChange cfgTempsSpec)

/-- ITS FALSE NEIGHBOUR: 'it returns false'. Refute it at one input. -/
def cfgTempsWrong : ChangeSpec := { name := "cfgTemps", fn := fun _ => fun
  | [d] => { results := [.lit (.bool false)], args := [d] }
  | _ => none }
def CfgTempsWrongFalsely : Prop := cfgTempsRow.holds Tryd.pinned (OpenSpec.ofChange cfgTempsWrong)

/-- 'gnomonlaw9.CfgAsserts': WHATEVER THE INPUT: true; the input reads as it did. -/
def cfgAssertsSpec : ChangeSpec := { name := "cfgAsserts", fn := fun _ => fun
  | [d] => { results := [.lit (.bool true)], args := [d] }
  | _ => none }
def cfgAssertsRow : OpenClaim := { program := "ytgbpobbdijmikaadoor", sum := "20d5b8794d353c8c9465d15fde3055407dd3ed7f1605196ebc37e6280f4a4442", func := "gnomon/gnomonlaw9.CfgAsserts", spec := "cfgAsserts", unfollowed := true, recurses := true, named := ["gnomon/cfg.kinds"], loops := true, apart := false, laid := [("gnomon/cfg.kinds", laid_gnomon_cfg_kinds)] }
def CfgAssertsSaid : Prop := cfgAssertsRow.holds Tryd.pinned (OpenSpec.ofChange cfgAssertsSpec)

/-- ITS FALSE NEIGHBOUR: 'it returns false'. Refute it at one input. -/
def cfgAssertsWrong : ChangeSpec := { name := "cfgAsserts", fn := fun _ => fun
  | [d] => { results := [.lit (.bool false)], args := [d] }
  | _ => none }
def CfgAssertsWrongFalsely : Prop := cfgAssertsRow.holds Tryd.pinned (OpenSpec.ofChange cfgAssertsWrong)

/- THE SECOND FORM. 'bulk': how many values and letters a reading holds, each counted each time it is reached (what is shared counts as often as it is met; a slice's spare places count too). A statement '..UptoSaid' is the law's where the arguments, and the package variables that the reading takes, are together of bulk at most 1048576: NARROWER than '..Said'. Prove '..Said' where nothing that the law and all that it calls make is longer than what came in: it says more and counts as full. Else prove '..UptoSaid'. A law counts once. -/
mutual
def uptoBulk {H : Type} : DataW H → Nat
  | .lit (.string bytes) => bytes.length + 1
  | .lit _ => 1
  | .nil => 1
  | .ptr d => uptoBulk d + 1
  | .slice elems spare => uptoBulkAll elems + uptoBulkAll spare + 1
  | .agg parts => uptoBulkAll parts + 1
  | .iface _ d => uptoBulk d + 1
  | .map entries => uptoBulkEntries entries + 1
  | .held _ => 1
def uptoBulkAll {H : Type} : List (DataW H) → Nat
  | [] => 0
  | d :: r => uptoBulk d + uptoBulkAll r
def uptoBulkEntries {H : Type} : List (Lit × DataW H) → Nat
  | [] => 0
  | x :: r => uptoBulkEntry x + uptoBulkEntries r
def uptoBulkEntry {H : Type} : Lit × DataW H → Nat
  | (.string bytes, d) => bytes.length + uptoBulk d + 1
  | (_, d) => uptoBulk d + 1
 end
def uptoSmall : (H : Type) → List (DataW H) → Bool := fun _ ds => decide (uptoBulkAll ds ≤ 1048576)
def OpenSpec.upto (s : _root_.Go.ChangeSpec) : _root_.Go.OpenSpec := { _root_.Go.OpenSpec.ofChange s with cond := some uptoSmall }

/-- 'gnomonlaw9.CfgTemps', WHERE WHAT IT READS IS OF BULK AT MOST 1048576: true; the input reads as it did. -/
def cfgTempsUptoRow : OpenClaim := { program := "ytgbpobbdijmikaadoor", sum := "20d5b8794d353c8c9465d15fde3055407dd3ed7f1605196ebc37e6280f4a4442", func := "gnomon/gnomonlaw9.CfgTemps", spec := "cfgTemps", unfollowed := true, recurses := true, named := ["gnomon/cfg.kinds"], apart := false, laid := [("gnomon/cfg.kinds", laid_gnomon_cfg_kinds)], narrowed := true }
def CfgTempsUptoSaid : Prop := cfgTempsUptoRow.holds Tryd.pinned (OpenSpec.upto cfgTempsSpec)

/-- 'gnomonlaw9.CfgAsserts', WHERE WHAT IT READS IS OF BULK AT MOST 1048576: true; the input reads as it did. -/
def cfgAssertsUptoRow : OpenClaim := { program := "ytgbpobbdijmikaadoor", sum := "20d5b8794d353c8c9465d15fde3055407dd3ed7f1605196ebc37e6280f4a4442", func := "gnomon/gnomonlaw9.CfgAsserts", spec := "cfgAsserts", unfollowed := true, recurses := true, named := ["gnomon/cfg.kinds"], loops := true, apart := false, laid := [("gnomon/cfg.kinds", laid_gnomon_cfg_kinds)], narrowed := true }
def CfgAssertsUptoSaid : Prop := cfgAssertsUptoRow.holds Tryd.pinned (OpenSpec.upto cfgAssertsSpec)

end Rows
end Go.Proofs.YtgbpobbdijmikaaDoor
