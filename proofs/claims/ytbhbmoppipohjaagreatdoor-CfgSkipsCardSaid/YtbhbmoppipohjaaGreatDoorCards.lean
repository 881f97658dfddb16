/-
  DERIVED. GIVEN WITH THE SEED: THE CARDS: each row of YtbhbmoppipohjaaGreatDoorRows.lean that lists a variable, with what it lists TIED to the program's text (the seventh form; the later family's looks); each row that meets fmt, with fmt's text TOLD by the authors' own Lean function (tested against real Go, not proved from fmt's source: count such statements apart). THE CARD IS WHAT COUNTS. Prove the row's statement (the work); the ties are given (YtbhbmoppipohjaaGreatDoorTie.lean); close each card by the builder's one call (the guide's Derived/Test/ToyasCard.lean, 'card_holds'). Laid BY PROGRAM, IN A SANDBOX (cutbox-door.mjs). By AI agents, Wed Nov 11 2026. No macro, syntax, notation, axiom, sorry.
-/
import Derived.Test.YtbhbmoppipohjaaGreatDoorRows
import GoSem.ClaimSeven
namespace Go.Proofs.YtbhbmoppipohjaaGreatDoor
namespace Rows

/-- THE TIED CARD OF 'gnomonlaw9.CfgLowers'. -/
def cfgLowersCard : Claim7 := { stood := { row := cfgLowersRow, standIns := [], harness := (true, "b27089024f569b67fd16054ffb55c5baaf4627a6d57bb915ffc8efebdecaae7e"), looks := true }, kinds := [], alts := [], laidByText := true, laidKinds := [.data], laidTests := true, laidLooks := .later }
def CfgLowersCardSaid : Prop := Claim7.holds Tryz.pinned (.plain (OpenSpec.ofChange cfgLowersSpec)) cfgLowersCard

/-- THE TIED CARD OF 'gnomonlaw9.CfgChecks'. -/
def cfgChecksCard : Claim7 := { stood := { row := cfgChecksRow, standIns := [], harness := (true, "b27089024f569b67fd16054ffb55c5baaf4627a6d57bb915ffc8efebdecaae7e"), looks := true }, kinds := [], alts := [], laidByText := true, laidKinds := [.data, .data], laidTests := true, laidLooks := .later }
def CfgChecksCardSaid : Prop := Claim7.holds Tryz.pinned (.plain (OpenSpec.ofChange cfgChecksSpec)) cfgChecksCard

/-- THE TIED CARD OF 'gnomonlaw9.CfgSkips'. -/
def cfgSkipsCard : Claim7 := { stood := { row := cfgSkipsRow, standIns := [], harness := (true, "b27089024f569b67fd16054ffb55c5baaf4627a6d57bb915ffc8efebdecaae7e"), looks := true }, kinds := [], alts := [], laidByText := true, laidKinds := [.data, .data], laidTests := true, laidLooks := .later }
def CfgSkipsCardSaid : Prop := Claim7.holds Tryz.pinned (.plain (OpenSpec.ofChange cfgSkipsSpec)) cfgSkipsCard

/-- THE SECOND FORM's CARD OF 'gnomonlaw9.CfgLowers'. -/
def cfgLowersUptoCard : Claim7 := { stood := { row := cfgLowersUptoRow, standIns := [], harness := (true, "b27089024f569b67fd16054ffb55c5baaf4627a6d57bb915ffc8efebdecaae7e"), looks := true }, kinds := [], alts := [], laidByText := true, laidKinds := [.data], laidTests := true, laidLooks := .later }
def CfgLowersUptoCardSaid : Prop := Claim7.holds Tryz.pinned (.plain (OpenSpec.upto cfgLowersSpec)) cfgLowersUptoCard

/-- THE SECOND FORM's CARD OF 'gnomonlaw9.CfgChecks'. -/
def cfgChecksUptoCard : Claim7 := { stood := { row := cfgChecksUptoRow, standIns := [], harness := (true, "b27089024f569b67fd16054ffb55c5baaf4627a6d57bb915ffc8efebdecaae7e"), looks := true }, kinds := [], alts := [], laidByText := true, laidKinds := [.data, .data], laidTests := true, laidLooks := .later }
def CfgChecksUptoCardSaid : Prop := Claim7.holds Tryz.pinned (.plain (OpenSpec.upto cfgChecksSpec)) cfgChecksUptoCard

/-- THE SECOND FORM's CARD OF 'gnomonlaw9.CfgSkips'. -/
def cfgSkipsUptoCard : Claim7 := { stood := { row := cfgSkipsUptoRow, standIns := [], harness := (true, "b27089024f569b67fd16054ffb55c5baaf4627a6d57bb915ffc8efebdecaae7e"), looks := true }, kinds := [], alts := [], laidByText := true, laidKinds := [.data, .data], laidTests := true, laidLooks := .later }
def CfgSkipsUptoCardSaid : Prop := Claim7.holds Tryz.pinned (.plain (OpenSpec.upto cfgSkipsSpec)) cfgSkipsUptoCard
end Rows
end Go.Proofs.YtbhbmoppipohjaaGreatDoor
