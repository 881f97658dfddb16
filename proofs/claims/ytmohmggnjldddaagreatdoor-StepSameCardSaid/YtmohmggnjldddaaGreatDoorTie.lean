/-
  DERIVED. GIVEN WITH THE SEED: THE PROGRAM's TIES (one call each: nine closed facts by the kernel) AND EACH ROW's TIE, after the 31st guide's Derived/Test/Toyas{Tie, Card}.lean. No idea stands in it: it is a product of the set-up. Laid BY PROGRAM, IN A SANDBOX (cutbox-door.mjs). By AI agents, Wed Nov 11 2026. No macro, syntax, notation, axiom, sorry.
-/
import Derived.Test.YtmohmggnjldddaaGreatDoorRows
import Derived.LaidByTextLater
import Derived.SevenTiedAt
import Derived.LaidSub
import Derived.LaidOnce
namespace Go.Proofs.YtmohmggnjldddaaGreatDoor
open Go
set_option maxRecDepth 100000
theorem seatTie1 : Tryz.prog.laidByTextLater [("gnomon/cfg.fieldsOf", Rows.laid_gnomon_cfg_fieldsOf), ("gnomon/cfg.kinds", Rows.laid_gnomon_cfg_kinds)] [.data, .data] true :=
  Program.laidByTextLater_by_one 33 8 76 (by kernel_rfl) (by kernel_rfl) (by kernel_rfl) (by kernel_rfl) (by kernel_rfl) (by kernel_rfl) (fun _ _ => by kernel_rfl)
theorem noOwnUnsafe : Tryz.pinned.checked.prog.headLifts.contains "ownunsafe" = false := by kernel_rfl
theorem tie : Tryz.prog.laidByTextLater [("gnomon/cfg.kinds", Rows.laid_gnomon_cfg_kinds)] [.data] true :=
  Program.laidByTextLater.sub seatTie1 ["gnomon/cfg.kinds"] (by kernel_rfl) (by kernel_rfl)
theorem cfgLowers_row_tie : Rows.cfgLowersRow.laidByTextAt .later Tryz.pinned [.data] true :=
  OpenClaim.laidByTextAt_later rfl rfl tie noOwnUnsafe
theorem tie2 : Tryz.prog.laidByTextLater [("gnomon/cfg.fieldsOf", Rows.laid_gnomon_cfg_fieldsOf), ("gnomon/cfg.kinds", Rows.laid_gnomon_cfg_kinds)] [.data, .data] true :=
  Program.laidByTextLater.sub seatTie1 ["gnomon/cfg.fieldsOf", "gnomon/cfg.kinds"] (by kernel_rfl) (by kernel_rfl)
theorem stepSame_row_tie : Rows.stepSameRow.laidByTextAt .later Tryz.pinned [.data, .data] true :=
  OpenClaim.laidByTextAt_later rfl rfl tie2 noOwnUnsafe
theorem cfgLowersUpto_row_tie : Rows.cfgLowersUptoRow.laidByTextAt .later Tryz.pinned [.data] true :=
  OpenClaim.laidByTextAt_later rfl rfl tie noOwnUnsafe
theorem stepSameUpto_row_tie : Rows.stepSameUptoRow.laidByTextAt .later Tryz.pinned [.data, .data] true :=
  OpenClaim.laidByTextAt_later rfl rfl tie2 noOwnUnsafe
end Go.Proofs.YtmohmggnjldddaaGreatDoor
