/-
  The package-level variables that the rows of graphs' laws list: proved is that a world in which they read as listed holds the table of kinds and the table of fields, and that such a world is there.
-/
import Derived.Test.YtjpopelbdhgidaaGreatDoorCards
import Derived.Test.YtjpopelbdhgidaaGreatDoorTie
import Derived.Test.YtjpopelbdhgidaaGreatDoorQCfgG
import Derived.Test.YtjpopelbdhgidaaGreatDoorQGrE
import Derived.ProofKit
import Derived.OpenShut
import Derived.Deep.DeepHandedRow
import Derived.Deep.DeepWitnessRowRef
import Derived.LaidMore
import Derived.Stop.LaidErr
import Derived.Lib.LaidTab

namespace Go.Proofs.YtjpopelbdhgidaaGreatDoor
open Go Go.Shelf Go.ChangeShapes Go.WideShapes Go.ChangeAt Go.RowKit Go.Lib

theorem own : ownKnob Tryz.prog.godebug = none := by kernel_rfl

def listed : List (String × DataW Unit) := [("gnomon/cfg.fieldsOf", Rows.laid_gnomon_cfg_fieldsOf), ("gnomon/cfg.kinds", Rows.laid_gnomon_cfg_kinds)]
def kindsT : List Int := [0, 0, 0, 9, 10, 3, 4, 5, 6, 7, 8]
theorem kinds_eq : (Rows.laid_gnomon_cfg_kinds : DataW Unit) = Lib.tabData .i64 kindsT := by kernel_rfl
theorem kinds_at : ∀ i, i < 11 → kindsT.getD i 0 = tabK i := by decide
def rowB (k : Int) : List Bool := [kDst k, kArr k, kOp k, kA k, kB k]
def fieldsT : List (List Bool) := (List.range 15).map fun (k : Nat) => rowB (k : Int)
def boolData {H : Type} (T : List (List Bool)) : DataW H := .agg (T.map fun r => .agg (r.map fun b => .lit (.bool b)))
theorem fields_eq : (Rows.laid_gnomon_cfg_fieldsOf : DataW Unit) = boolData fieldsT := by kernel_rfl
section
variable {H : Type} {enc : TypeId × Value → H} {P : Program} {w : World} {base : Nat} {sp : Nat → Bool} {held : Bool} {fuel n : Nat} {t e : TypeId} {fs : Array Field}
/-- A table of rows of five Bools that reads so holds them, cell for cell. -/
theorem cells_of_bools {cs : List Value} {T : List (List Bool)} {p : List MemPlace} (ht : P.underlying t = some (.array n e)) (he : P.underlying e = some (.struct fs)) (hce : P.cellsOf e = 5)
    (hfs : ∀ j, j < 5 → ∃ f, fs[j]? = some f ∧ P.underlying f.type = some .bool ∧ f.offset = j ∧ P.cellsOf f.type = 1)
    (h : DataW.trod enc P w base sp held fuel t cs = some (boolData T, p)) (i j : Nat) (r : List Bool) (b : Bool) (hi : T[i]? = some r) (hj : r[j]? = some b) (hj5 : j < 5) : cs[i * 5 + j]? = some (.bool b) := by
  obtain ⟨xs, m, -, hx, -, hxn, hat⟩ := DataW.trod_array ht h
  have hxs : xs.map (·.1) = T.map fun r => (DataW.agg (r.map fun b => .lit (.bool b)) : DataW H) := by
    have := congrArg Prod.fst hx
    simp only [boolData, DataW.agg.injEq] at this
    exact this.symm
  have hil : i < T.length := (List.getElem?_eq_some_iff.1 hi).1
  have hlen : xs.length = T.length := by simpa using congrArg List.length hxs
  have hin : i < n := by omega
  have h1 : (xs.map (·.1))[i]? = some (DataW.agg (r.map fun b => .lit (.bool b)) : DataW H) := by rw [hxs]; simp [hi]
  rw [List.getElem?_map, Option.map_eq_some_iff] at h1
  obtain ⟨x, hxi, hx1⟩ := h1
  have h2 := hat i hin
  rw [hxi, hce] at h2
  obtain ⟨ys, m2, -, hy, -, -, hfld⟩ := DataW.trod_struct he h2
  rw [hy] at hx1
  have hys : ys.map (·.1) = r.map fun b => (DataW.lit (.bool b) : DataW H) := by
    simp only [DataW.agg.injEq] at hx1
    exact hx1
  obtain ⟨f, hf, hfb, hfo, hfc⟩ := hfs j hj5
  have h3 := hfld j f hf
  rw [hfo, hfc] at h3
  have h4 : (ys.map (·.1))[j]? = some (DataW.lit (.bool b) : DataW H) := by rw [hys]; simp [hj]
  rw [List.getElem?_map, Option.map_eq_some_iff] at h4
  obtain ⟨y, hyj, hy1⟩ := h4
  rw [hyj] at h3
  obtain ⟨b', hc, hb'⟩ := DataW.trod_bool hfb h3
  rw [hb'] at hy1
  simp only [DataW.lit.injEq, Lit.bool.injEq] at hy1
  subst hy1
  have h5 := congrArg (·[0]?) hc
  simp only [List.getElem?_cons_zero] at h5
  rw [List.getElem?_take_of_lt (by omega), List.getElem?_drop, Nat.add_zero, List.getElem?_take_of_lt hj5, List.getElem?_drop] at h5
  exact h5
end
theorem fields_at : ∀ k : Nat, k < 15 → fieldsT[k]? = some (rowB (k : Int)) := by
  intro k hk
  simp [fieldsT, hk]
set_option maxRecDepth 100000 in
theorem fields_of {W : World} (h : laidMetH Tryz.prog listed W) : TabF W := by
  rw [MakeChecks.laidMetH_plain _ _ _ (by kernel_rfl)] at h
  unfold listed at h
  rw [fields_eq] at h
  obtain ⟨ps, ⟨g', t', cs, fuel, p, q, hg', ht', hvar, hd, _, _⟩, _⟩ := h
  obtain rfl := Option.some.inj ((show Tryz.prog.globalNamed "gnomon/cfg.fieldsOf" = some 0 by kernel_rfl).symm.trans hg')
  obtain rfl := Option.some.inj ((show (Tryz.prog.globals[(0 : Nat)]?).map (·.type) = some 188 by kernel_rfl).symm.trans ht')
  have hc := fun i j r b => cells_of_bools Tryz.underlying188 Tryz.underlying187 (by kernel_rfl) (fun j hj => by
    have : j = 0 ∨ j = 1 ∨ j = 2 ∨ j = 3 ∨ j = 4 := by omega
    rcases this with rfl | rfl | rfl | rfl | rfl <;> exact ⟨_, rfl, by kernel_rfl, rfl, by kernel_rfl⟩) hd i j r b
  intro k _ hk
  have hk2 := fields_at k (by omega)
  have hcell := fun j => World.var?_cell (P := Tryz.prog) (show Tryz.prog.globalNamed "gnomon/cfg.fieldsOf" = some 0 by kernel_rfl) hvar (k * 5 + j)
  refine ⟨(hcell 0).trans ?_, (hcell 1).trans ?_, (hcell 2).trans ?_, (hcell 3).trans ?_, (hcell 4).trans ?_⟩
  · simpa using hc k 0 _ _ hk2 rfl (by omega)
  · simpa using hc k 1 _ _ hk2 rfl (by omega)
  · simpa using hc k 2 _ _ hk2 rfl (by omega)
  · simpa using hc k 3 _ _ hk2 rfl (by omega)
  · simpa using hc k 4 _ _ hk2 rfl (by omega)
set_option maxRecDepth 100000 in
theorem tab_of {W : World} (h : laidMetH Tryz.prog listed W) : TabK W := by
  rw [MakeChecks.laidMetH_plain _ _ _ (by kernel_rfl)] at h
  have h := laidMet.tail h
  rw [kinds_eq] at h
  have h2 : Lib.TabIs Tryz.prog W "gnomon/cfg.kinds" .i64 kindsT := Lib.tabIs_of_head (g := 1) (t := 276) (e := 3) (n := 11) (by kernel_rfl) (by kernel_rfl) (by kernel_rfl) (by kernel_rfl) (by kernel_rfl) (by kernel_rfl) h
  intro i hi
  have h3 := h2.cell (g := 1) (by kernel_rfl) i hi
  rw [kinds_at i hi] at h3
  exact h3

/-- The values of a listed table. -/
def litsOf {H : Type} : DataW H → List Value
  | .agg l => l.map fun
    | .lit (.int k z) => .int k z
    | _ => undef
  | _ => []
/-- A world for the witness: the settled one, the listed variables holding what their text lays. -/
noncomputable def laidWorld (os : Os) : World :=
  let w0 := World.holding Tryz.prog os ⟨#[], #[], []⟩
  let put (h : Array Obj) (g : Nat) (cs : Array Value) : Array Obj := h.modify g fun
    | .cells _ t frozen => .cells cs t frozen
    | o => o
  let h1 := put w0.heap 1 (litsOf (Rows.laid_gnomon_cfg_kinds : DataW Unit)).toArray
  let h2 := put h1 0 (fieldsT.flatten.map Value.bool).toArray
  { w0 with heap := h2 }

theorem laid_met (os : Os) (args : Array Value) : laidMet Tryz.prog listed ((laidWorld os).forCall (fun _ _ => 0) ⟨#[], args, []⟩).memory :=
  laidMet_of_run' 8 (by kernel_rfl) (by kernel_rfl)
end Go.Proofs.YtjpopelbdhgidaaGreatDoor
