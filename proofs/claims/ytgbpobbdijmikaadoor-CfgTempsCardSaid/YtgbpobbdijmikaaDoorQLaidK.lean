/-
  The package-level variable that the rows of graphs' laws list: proved is that a world in which it reads as listed holds the table of kinds, and that such a world is there.
-/
import Derived.Test.YtgbpobbdijmikaaDoorCards
import Derived.Test.YtgbpobbdijmikaaDoorTie
import Derived.Test.YtgbpobbdijmikaaDoorQCfgD
import Derived.ProofKit
import Derived.OpenShut
import Derived.Deep.DeepHandedRow
import Derived.Deep.DeepWitnessRowRef
import Derived.LaidMore
import Derived.Stop.LaidErr
import Derived.Lib.LaidTab

namespace Go.Proofs.YtgbpobbdijmikaaDoor
open Go Go.Shelf Go.ChangeShapes Go.WideShapes Go.ChangeAt Go.RowKit Go.Lib

theorem own : ownKnob Tryd.prog.godebug = none := by kernel_rfl

def listed : List (String × DataW Unit) := [("gnomon/cfg.kinds", Rows.laid_gnomon_cfg_kinds)]
def kindsT : List Int := [0, 0, 0, 9, 10, 3, 4, 5, 6, 7, 8]
theorem kinds_eq : (Rows.laid_gnomon_cfg_kinds : DataW Unit) = Lib.tabData .i64 kindsT := by kernel_rfl
theorem kinds_at : ∀ i, i < 11 → kindsT.getD i 0 = tabK i := by decide
set_option maxRecDepth 100000 in
theorem tab_of {W : World} (h : laidMetH Tryd.prog listed W) : TabK W := by
  rw [MakeChecks.laidMetH_plain _ _ _ (by kernel_rfl)] at h
  unfold listed at h
  rw [kinds_eq] at h
  have h2 : Lib.TabIs Tryd.prog W "gnomon/cfg.kinds" .i64 kindsT := Lib.tabIs_of_head (g := 0) (t := 125) (e := 3) (n := 11) (by kernel_rfl) (by kernel_rfl) (by kernel_rfl) (by kernel_rfl) (by kernel_rfl) (by kernel_rfl) h
  intro i hi
  have h3 := h2.cell (g := 0) (by kernel_rfl) i hi
  rw [kinds_at i hi] at h3
  exact h3

/-- The numbers of a listed table. -/
def litsOf {H : Type} : DataW H → List Value
  | .agg l => l.map fun
    | .lit (.int k z) => .int k z
    | _ => undef
  | _ => []
/-- A world for the witness: the settled one, the listed variable holding what its text lays. -/
noncomputable def laidWorld (os : Os) : World :=
  let w0 := World.holding Tryd.prog os ⟨#[], #[], []⟩
  let put (h : Array Obj) (g : Nat) (cs : Array Value) : Array Obj := h.modify g fun
    | .cells _ t frozen => .cells cs t frozen
    | o => o
  { w0 with heap := put w0.heap 0 (litsOf (Rows.laid_gnomon_cfg_kinds : DataW Unit)).toArray }

theorem laid_met (os : Os) (args : Array Value) : laidMet Tryd.prog listed ((laidWorld os).forCall (fun _ _ => 0) ⟨#[], args, []⟩).memory :=
  laidMet_of_run' 8 (by kernel_rfl) (by kernel_rfl)
end Go.Proofs.YtgbpobbdijmikaaDoor
