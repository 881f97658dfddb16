/-
  DERIVED. GIVEN WITH THE SEED: THE CARDS: each row of YtmohmggnjldddaaGreatDoorRows.lean that lists a variable, with what it lists TIED to the program's text (the seventh form; the later family's looks); each row that meets fmt, with fmt's text TOLD by the authors' own Lean function (tested against real Go, not proved from fmt's source: count such statements apart). THE CARD IS WHAT COUNTS. Prove the row's statement (the work); the ties are given (YtmohmggnjldddaaGreatDoorTie.lean); close each card by the builder's one call (the guide's Derived/Test/ToyasCard.lean, 'card_holds'). Laid BY PROGRAM, IN A SANDBOX (cutbox-door.mjs). By AI agents, Wed Nov 11 2026. No macro, syntax, notation, axiom, sorry.
-/
import Derived.Test.YtmohmggnjldddaaGreatDoorRows
import GoSem.ClaimSeven
namespace Go.Proofs.YtmohmggnjldddaaGreatDoor
namespace Rows

/-- THE TIED CARD OF 'gnomonlaw9.CfgLowers'. -/
def cfgLowersCard : Claim7 := { stood := { row := cfgLowersRow, standIns := [], harness := (true, "4d20d9445207bf21de5760999e151aed78c5de461d5716336c4d02814d4b24f0"), looks := true }, kinds := [], alts := [], laidByText := true, laidKinds := [.data], laidTests := true, laidLooks := .later }
def CfgLowersCardSaid : Prop := Claim7.holds Tryz.pinned (.plain (OpenSpec.ofChange cfgLowersSpec)) cfgLowersCard

/-- THE TIED CARD OF 'gnomonlaw10.StepSame'. -/
def stepSameCard : Claim7 := { stood := { row := stepSameRow, standIns := [], harness := (true, "4d20d9445207bf21de5760999e151aed78c5de461d5716336c4d02814d4b24f0"), looks := true }, kinds := [], alts := [], laidByText := true, laidKinds := [.data, .data], laidTests := true, laidLooks := .later }
def StepSameCardSaid : Prop := Claim7.holds Tryz.pinned (.plain (OpenSpec.ofChange stepSameSpec)) stepSameCard

/-- THE SECOND FORM's CARD OF 'gnomonlaw9.CfgLowers'. -/
def cfgLowersUptoCard : Claim7 := { stood := { row := cfgLowersUptoRow, standIns := [], harness := (true, "4d20d9445207bf21de5760999e151aed78c5de461d5716336c4d02814d4b24f0"), looks := true }, kinds := [], alts := [], laidByText := true, laidKinds := [.data], laidTests := true, laidLooks := .later }
def CfgLowersUptoCardSaid : Prop := Claim7.holds Tryz.pinned (.plain (OpenSpec.upto cfgLowersSpec)) cfgLowersUptoCard

/-- THE SECOND FORM's CARD OF 'gnomonlaw10.StepSame'. -/
def stepSameUptoCard : Claim7 := { stood := { row := stepSameUptoRow, standIns := [], harness := (true, "4d20d9445207bf21de5760999e151aed78c5de461d5716336c4d02814d4b24f0"), looks := true }, kinds := [], alts := [], laidByText := true, laidKinds := [.data, .data], laidTests := true, laidLooks := .later }
def StepSameUptoCardSaid : Prop := Claim7.holds Tryz.pinned (.plain (OpenSpec.upto stepSameSpec)) stepSameUptoCard
end Rows
end Go.Proofs.YtmohmggnjldddaaGreatDoor
