/-
  DERIVED. GIVEN WITH THE SEED: THE CARDS: each row of YtgbpobbdijmikaaDoorRows.lean that lists a variable, with what it lists TIED to the program's text (the seventh form; the later family's looks); each row that meets fmt, with fmt's text TOLD by the authors' own Lean function (tested against real Go, not proved from fmt's source: count such statements apart). THE CARD IS WHAT COUNTS. Prove the row's statement (the work); the ties are given (YtgbpobbdijmikaaDoorTie.lean); close each card by the builder's one call (the guide's Derived/Test/ToyasCard.lean, 'card_holds'). Laid BY PROGRAM, IN A SANDBOX (cutbox-door.mjs). By AI agents, Wed Nov 11 2026. No macro, syntax, notation, axiom, sorry.
-/
import Derived.Test.YtgbpobbdijmikaaDoorRows
import GoSem.ClaimSeven
namespace Go.Proofs.YtgbpobbdijmikaaDoor
namespace Rows

/-- THE TIED CARD OF 'gnomonlaw9.CfgTemps'. -/
def cfgTempsCard : Claim7 := { stood := { row := cfgTempsRow, standIns := [], harness := (true, "3f41fc4ae140ed61a08b5926097f2645355f0d6910b65da83738c731bc5fc6ba"), looks := true }, kinds := [], alts := [], laidByText := true, laidKinds := [.data], laidTests := true, laidLooks := .later }
def CfgTempsCardSaid : Prop := Claim7.holds Tryd.pinned (.plain (OpenSpec.ofChange cfgTempsSpec)) cfgTempsCard

/-- THE TIED CARD OF 'gnomonlaw9.CfgAsserts'. -/
def cfgAssertsCard : Claim7 := { stood := { row := cfgAssertsRow, standIns := [], harness := (true, "3f41fc4ae140ed61a08b5926097f2645355f0d6910b65da83738c731bc5fc6ba"), looks := true }, kinds := [], alts := [], laidByText := true, laidKinds := [.data], laidTests := true, laidLooks := .later }
def CfgAssertsCardSaid : Prop := Claim7.holds Tryd.pinned (.plain (OpenSpec.ofChange cfgAssertsSpec)) cfgAssertsCard

/-- THE SECOND FORM's CARD OF 'gnomonlaw9.CfgTemps'. -/
def cfgTempsUptoCard : Claim7 := { stood := { row := cfgTempsUptoRow, standIns := [], harness := (true, "3f41fc4ae140ed61a08b5926097f2645355f0d6910b65da83738c731bc5fc6ba"), looks := true }, kinds := [], alts := [], laidByText := true, laidKinds := [.data], laidTests := true, laidLooks := .later }
def CfgTempsUptoCardSaid : Prop := Claim7.holds Tryd.pinned (.plain (OpenSpec.upto cfgTempsSpec)) cfgTempsUptoCard

/-- THE SECOND FORM's CARD OF 'gnomonlaw9.CfgAsserts'. -/
def cfgAssertsUptoCard : Claim7 := { stood := { row := cfgAssertsUptoRow, standIns := [], harness := (true, "3f41fc4ae140ed61a08b5926097f2645355f0d6910b65da83738c731bc5fc6ba"), looks := true }, kinds := [], alts := [], laidByText := true, laidKinds := [.data], laidTests := true, laidLooks := .later }
def CfgAssertsUptoCardSaid : Prop := Claim7.holds Tryd.pinned (.plain (OpenSpec.upto cfgAssertsSpec)) cfgAssertsUptoCard
end Rows
end Go.Proofs.YtgbpobbdijmikaaDoor
