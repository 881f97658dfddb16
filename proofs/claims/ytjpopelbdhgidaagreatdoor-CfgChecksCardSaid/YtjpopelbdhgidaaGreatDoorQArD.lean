/-
  Layer 7's comparisons, and NumCompares' walk.
-/
import Derived.Test.YtjpopelbdhgidaaGreatDoorShelf
import Derived.Test.YtjpopelbdhgidaaGreatDoorRows
import Derived.WalkKit
import Derived.ProofKit
import Derived.OpenShut
import Derived.Deep.RegionWith
import Derived.Laws.Rows
/-
  Layer 7's arithmetic, plain: what the exact answer is (tellV), and the contracts of num's and the document's Neg, Add, Sub, Div, Rem.
-/
namespace Go.Proofs.YtjpopelbdhgidaaGreatDoor
open Go Go.RowKit

/-- x is an int64. -/
def fitsI (x : Int) : Prop := -9223372036854775808 ≤ x ∧ x ≤ 9223372036854775807
instance (x : Int) : Decidable (fitsI x) := by unfold fitsI; infer_instance
theorem fits_wf {x : Int} (h : (Lit.int .i64 x).wf = true) : fitsI x := by
  simp [Lit.wf, IntKind.min, IntKind.max, IntKind.signed, IntKind.bits] at h
  exact h
theorem fits_wrap {x : Int} (h : fitsI x) : IntKind.i64.wrap x = x := by
  unfold fitsI at h
  rw [IntKind.wrap_i64]
  omega
end Go.Proofs.YtjpopelbdhgidaaGreatDoor

/-
  Layer 7's products: the contracts of num's and the document's Mul.
-/
namespace Go.Proofs.YtjpopelbdhgidaaGreatDoor
open Go Go.RowKit

end Go.Proofs.YtjpopelbdhgidaaGreatDoor

/-
  Layer 7's laws, walked: NumExact, NumProducts, NumLaws.
-/
namespace Go.Proofs.YtjpopelbdhgidaaGreatDoor
open Go Go.RowKit

end Go.Proofs.YtjpopelbdhgidaaGreatDoor

/-
  Layer 7's comparisons, and NumCompares' walk.
-/
namespace Go.Proofs.YtjpopelbdhgidaaGreatDoor
open Go Go.RowKit

/-- The comparisons of all ops, as they are laid. -/
def compsV : Array Value := #[Value.func (Fn.func 215) #[] #[], Value.int IntKind.i64 0, Value.func (Fn.func 216) #[] #[], Value.int IntKind.i64 6, Value.func (Fn.func 217) #[] #[], Value.int IntKind.i64 5, Value.func (Fn.func 218) #[] #[], Value.int IntKind.i64 4, Value.func (Fn.func 219) #[] #[], Value.int IntKind.i64 3, Value.func (Fn.func 220) #[] #[], Value.int IntKind.i64 2, Value.func (Fn.func 221) #[] #[], Value.int IntKind.i64 1]

set_option maxRecDepth 100000 in
set_option maxHeartbeats 4000000 in
theorem all_any (w : World) :
    Calls Tryz.prog 195 #[] w fun e w' => e = .returned (.agg compsV) ∧ ∃ t, w' = w.alloc (.cells compsV t) := by
  have hsf := fun (a : Addr) (k : Nat) (w : World) => run_store Tryz.prog w a (.func (.func k) #[] #[]) .plain rfl
  go_enter Tryz.func195, Tryz.ntmps195
  go_wp2
  refine bodyPost_ret (results_cell_row rfl _ _ w.heap.size _ compsV _ _ rfl (heap_alloc_new w _) rfl rfl (by kernel_rfl)) rfl ?_
  exact ⟨rfl, _, rfl⟩

theorem heap_two (w : World) (A B : Obj) : ((w.alloc A).alloc B).heap[w.heap.size]? = some A := by
  rw [heap_alloc_old _ _ (by show w.heap.size < (w.heap.push A).size; simp)]
  exact heap_alloc_new w A

/-- The op that holds just where it doesn't. -/
def notI (op : Int) : Int := if 1 ≤ op ∧ op ≤ 6 then 7 - op else 0
theorem not_out {op : Int} (h0 : op < 1 ∨ 6 < op) : notI op = 0 := by
  unfold notI
  rw [if_neg (by omega)]
set_option maxRecDepth 100000 in
set_option maxHeartbeats 4000000 in
theorem rnot_0 (op : Int) (h0 : op < 1 ∨ 6 < op) (w : World) :
    Calls Tryz.prog 68 #[.int .i64 op] w fun e w' => e = .returned (.int .i64 0) ∧ w' = w := by
  have e1 : (op == 1) = false := by simp; omega
  have e2 : (op == 2) = false := by simp; omega
  have e3 : (op == 3) = false := by simp; omega
  have e4 : (op == 4) = false := by simp; omega
  have e5 : (op == 5) = false := by simp; omega
  have e6 : (op == 6) = false := by simp; omega
  clear h0
  go_enter Tryz.func68, Tryz.ntmps68
  go_wp2
  all_goals (go_ret; exact ⟨rfl, rfl⟩)
set_option maxRecDepth 100000 in
set_option maxHeartbeats 4000000 in
theorem rnot_1  (w : World) :
    Calls Tryz.prog 68 #[.int .i64 1] w fun e w' => e = .returned (.int .i64 6) ∧ w' = w := by
  go_enter Tryz.func68, Tryz.ntmps68
  go_wp2
  all_goals (go_ret; exact ⟨rfl, rfl⟩)
set_option maxRecDepth 100000 in
set_option maxHeartbeats 4000000 in
theorem rnot_2  (w : World) :
    Calls Tryz.prog 68 #[.int .i64 2] w fun e w' => e = .returned (.int .i64 5) ∧ w' = w := by
  go_enter Tryz.func68, Tryz.ntmps68
  go_wp2
  all_goals (go_ret; exact ⟨rfl, rfl⟩)
set_option maxRecDepth 100000 in
set_option maxHeartbeats 4000000 in
theorem rnot_3  (w : World) :
    Calls Tryz.prog 68 #[.int .i64 3] w fun e w' => e = .returned (.int .i64 4) ∧ w' = w := by
  go_enter Tryz.func68, Tryz.ntmps68
  go_wp2
  all_goals (go_ret; exact ⟨rfl, rfl⟩)
set_option maxRecDepth 100000 in
set_option maxHeartbeats 4000000 in
theorem rnot_4  (w : World) :
    Calls Tryz.prog 68 #[.int .i64 4] w fun e w' => e = .returned (.int .i64 3) ∧ w' = w := by
  go_enter Tryz.func68, Tryz.ntmps68
  go_wp2
  all_goals (go_ret; exact ⟨rfl, rfl⟩)
set_option maxRecDepth 100000 in
set_option maxHeartbeats 4000000 in
theorem rnot_5  (w : World) :
    Calls Tryz.prog 68 #[.int .i64 5] w fun e w' => e = .returned (.int .i64 2) ∧ w' = w := by
  go_enter Tryz.func68, Tryz.ntmps68
  go_wp2
  all_goals (go_ret; exact ⟨rfl, rfl⟩)
set_option maxRecDepth 100000 in
set_option maxHeartbeats 4000000 in
theorem rnot_6  (w : World) :
    Calls Tryz.prog 68 #[.int .i64 6] w fun e w' => e = .returned (.int .i64 1) ∧ w' = w := by
  go_enter Tryz.func68, Tryz.ntmps68
  go_wp2
  all_goals (go_ret; exact ⟨rfl, rfl⟩)

end Go.Proofs.YtjpopelbdhgidaaGreatDoor
