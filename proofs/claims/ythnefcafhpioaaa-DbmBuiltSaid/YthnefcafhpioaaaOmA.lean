/-
  Octagons in memory; and the document's sides across.
-/
import Derived.Test.YthnefcafhpioaaaReg
import Derived.Test.YthnefcafhpioaaaOcP
import Derived.Test.YthnefcafhpioaaaBndB
import Derived.Lib.Hide
import Derived.Deep.DeepCutAuto
import Derived.Deep.CutBlock
import Derived.Deep.RegionWith
namespace Go.Proofs.Ythnefcafhpioaaa
open Go Go.RowKit

/-- An octagon, whatever its cells are. -/
structure Oc where
  n : Int
  em : Bool
  m : List Int
/-- Numbers that a slice holds. -/
def MAt (w : World) (l : List Int) (a : Option Addr) : Prop := l.length = 0 ∨ ∃ b o, a = some ⟨b, o, none⟩ ∧ ∀ i (h : i < l.length), w.cell? ⟨b, o + i, none⟩ = some (.int .i64 l[i])
theorem MAt.next {w w' : World} {l : List Int} {a : Option Addr} (h : MAt w l a) (hb : Below w.heap.size w w') : MAt w' l a := h.imp id fun ⟨b, o, e, hc⟩ => ⟨b, o, e, fun i hi => (hb.cell (p := ⟨b, o + i, none⟩) (World.block_lt_of_cell? w ⟨b, o + i, none⟩ (hc i hi))).trans (hc i hi)⟩
abbrev ocV (o : Oc) (a : Option Addr) (c : Nat) : Value := .agg #[.int .i64 o.n, .bool o.em, .slice a o.m.length c]
/-- Is a cell right? -/
def okC (n : Nat) (m : List Int) (i j : Nat) : Bool := decide (isBound (gM n m i j)) && (decide (i ≠ j) || decide (gM n m i j = 0)) && decide (gM n m i j = gM n m (acr j) (acr i))
def okM (n : Nat) (m : List Int) : Bool := (List.range n).all fun i => (List.range n).all fun j => okC n m i j
/-- What Check answers. -/
def chkO (o : Oc) : Int := if o.n < 0 ∨ 64 < o.n ∨ (o.em = true ∧ o.m.length ≠ 0) ∨ (o.em = false ∧ (o.m.length : Int) ≠ 4 * o.n * o.n) then 120 else if o.em then 0 else if okM (2 * o.n.toNat) o.m then 0 else 121
set_option maxRecDepth 100000 in
set_option maxHeartbeats 4000000 in
theorem racr_any (i : Nat) (hi : i ≤ 4611686018427387904) (w : World) : Calls Try.prog 37 #[.int .i64 i] w fun e w' => e = .returned (.int .i64 (acr i : Nat)) ∧ w' = w := by
  have hr : ((i : Int).tmod 2) = ((i % 2 : Nat) : Int) := by rw [Int.tmod_eq_emod_of_nonneg (by omega)]; omega
  have hw1 : IntKind.i64.wrap ((i : Int) + 1) = (i : Int) + 1 := isI_wrap (by unfold isI; omega)
  by_cases h : i % 2 = 0
  · have e : acr i = i + 1 := by unfold acr; rw [if_pos h]
    have k : ((i : Int).tmod 2 == 0) = true := by rw [hr, h]; rfl
    rw [e]
    clear hr
    go_enter Try.func37, Try.ntmps37
    go_wp2
    all_goals (go_ret; first | exact ⟨rfl, rfl⟩ | (refine ⟨congrArg (fun x => Ending.returned (Value.int .i64 x)) (by omega), rfl⟩))
  · have h1 : i % 2 = 1 := by omega
    have e : acr i = i - 1 := by unfold acr; rw [if_neg h]
    have hw2 : IntKind.i64.wrap ((i : Int) - 1) = (i : Int) - 1 := isI_wrap (by unfold isI; omega)
    have k : ((i : Int).tmod 2 == 0) = false := by rw [hr, h1]; rfl
    have e2 : ((i - 1 : Nat) : Int) = (i : Int) - 1 := by omega
    rw [e, e2]
    clear hr
    go_enter Try.func37, Try.ntmps37
    go_wp2
    all_goals (go_ret; first | exact ⟨rfl, rfl⟩ | (refine ⟨congrArg (fun x => Ending.returned (Value.int .i64 x)) (by omega), rfl⟩))
end Go.Proofs.Ythnefcafhpioaaa
