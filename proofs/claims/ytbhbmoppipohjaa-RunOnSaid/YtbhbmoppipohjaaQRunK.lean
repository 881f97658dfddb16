/-
  num's comparisons once more: proved is that they leave all older memory as it is.
-/
import Derived.Test.YtbhbmoppipohjaaQArD

namespace Go.Proofs.Ytbhbmoppipohjaa
open Go Go.RowKit

set_option maxRecDepth 100000 in
set_option maxHeartbeats 4000000 in
theorem ofb_0 (op : Int) (h0 : op < 1 ∨ 6 < op) (w : World) :
    Calls Try.prog 67 #[.int .i64 op] w fun e w' => e = .returned (.agg #[.func (.func 82) #[] #[], .int .i64 0]) ∧ Below w.heap.size w w' := by
  have HA := fun w => all_any w
  have hsf := fun (a : Addr) (k : Nat) (w : World) => run_store Try.prog w a (.func (.func k) #[] #[]) .plain rfl
  have HI : ∀ w, (Instr.index 140 (Value.agg compsV) (Value.int IntKind.i64 0)).run Try.prog w = .ok (.agg #[.func (.func 82) #[] #[], .int .i64 0]) w := fun w => by rfl
  rcases h0 with h0 | h0
  · go_enter Try.func67, Try.ntmps67
    go_wp2_with (first | (go_at_call 76; (with_reducible refine (HA _).mono ?_); rintro e w' ⟨rfl, t, rfl⟩) | fail)
    refine bodyPost_ret (results_cell_row rfl _ _ w.heap.size _ #[.func (.func 82) #[] #[], .int .i64 0] _ _ rfl (heap_two w _ _) rfl rfl (by kernel_rfl)) rfl ?_
    exact ⟨rfl, ((Below.refl w.heap.size w).alloc (Nat.le_refl _) _).alloc (by simp) _⟩
  · have h1 : ¬ op < 1 := by omega
    go_enter Try.func67, Try.ntmps67
    go_wp2_with (first | (go_at_call 76; (with_reducible refine (HA _).mono ?_); rintro e w' ⟨rfl, t, rfl⟩) | fail)
    refine bodyPost_ret (results_cell_row rfl _ _ w.heap.size _ #[.func (.func 82) #[] #[], .int .i64 0] _ _ rfl (heap_two w _ _) rfl rfl (by kernel_rfl)) rfl ?_
    exact ⟨rfl, ((Below.refl w.heap.size w).alloc (Nat.le_refl _) _).alloc (by simp) _⟩
set_option maxRecDepth 100000 in
set_option maxHeartbeats 4000000 in
theorem ofb_1  (w : World) :
    Calls Try.prog 67 #[.int .i64 1] w fun e w' => e = .returned (.agg #[.func (.func 83) #[] #[], .int .i64 6]) ∧ Below w.heap.size w w' := by
  have HA := fun w => all_any w
  have hsf := fun (a : Addr) (k : Nat) (w : World) => run_store Try.prog w a (.func (.func k) #[] #[]) .plain rfl
  have HI : ∀ w, (Instr.index 140 (Value.agg compsV) (Value.int IntKind.i64 1)).run Try.prog w = .ok (.agg #[.func (.func 83) #[] #[], .int .i64 6]) w := fun w => by rfl
  go_enter Try.func67, Try.ntmps67
  go_wp2_with (first | (go_at_call 76; (with_reducible refine (HA _).mono ?_); rintro e w' ⟨rfl, t, rfl⟩) | fail)
  refine bodyPost_ret (results_cell_row rfl _ _ w.heap.size _ #[.func (.func 83) #[] #[], .int .i64 6] _ _ rfl (heap_two w _ _) rfl rfl (by kernel_rfl)) rfl ?_
  exact ⟨rfl, ((Below.refl w.heap.size w).alloc (Nat.le_refl _) _).alloc (by simp) _⟩
set_option maxRecDepth 100000 in
set_option maxHeartbeats 4000000 in
theorem ofb_2  (w : World) :
    Calls Try.prog 67 #[.int .i64 2] w fun e w' => e = .returned (.agg #[.func (.func 84) #[] #[], .int .i64 5]) ∧ Below w.heap.size w w' := by
  have HA := fun w => all_any w
  have hsf := fun (a : Addr) (k : Nat) (w : World) => run_store Try.prog w a (.func (.func k) #[] #[]) .plain rfl
  have HI : ∀ w, (Instr.index 140 (Value.agg compsV) (Value.int IntKind.i64 2)).run Try.prog w = .ok (.agg #[.func (.func 84) #[] #[], .int .i64 5]) w := fun w => by rfl
  go_enter Try.func67, Try.ntmps67
  go_wp2_with (first | (go_at_call 76; (with_reducible refine (HA _).mono ?_); rintro e w' ⟨rfl, t, rfl⟩) | fail)
  refine bodyPost_ret (results_cell_row rfl _ _ w.heap.size _ #[.func (.func 84) #[] #[], .int .i64 5] _ _ rfl (heap_two w _ _) rfl rfl (by kernel_rfl)) rfl ?_
  exact ⟨rfl, ((Below.refl w.heap.size w).alloc (Nat.le_refl _) _).alloc (by simp) _⟩
set_option maxRecDepth 100000 in
set_option maxHeartbeats 4000000 in
theorem ofb_3  (w : World) :
    Calls Try.prog 67 #[.int .i64 3] w fun e w' => e = .returned (.agg #[.func (.func 85) #[] #[], .int .i64 4]) ∧ Below w.heap.size w w' := by
  have HA := fun w => all_any w
  have hsf := fun (a : Addr) (k : Nat) (w : World) => run_store Try.prog w a (.func (.func k) #[] #[]) .plain rfl
  have HI : ∀ w, (Instr.index 140 (Value.agg compsV) (Value.int IntKind.i64 3)).run Try.prog w = .ok (.agg #[.func (.func 85) #[] #[], .int .i64 4]) w := fun w => by rfl
  go_enter Try.func67, Try.ntmps67
  go_wp2_with (first | (go_at_call 76; (with_reducible refine (HA _).mono ?_); rintro e w' ⟨rfl, t, rfl⟩) | fail)
  refine bodyPost_ret (results_cell_row rfl _ _ w.heap.size _ #[.func (.func 85) #[] #[], .int .i64 4] _ _ rfl (heap_two w _ _) rfl rfl (by kernel_rfl)) rfl ?_
  exact ⟨rfl, ((Below.refl w.heap.size w).alloc (Nat.le_refl _) _).alloc (by simp) _⟩
set_option maxRecDepth 100000 in
set_option maxHeartbeats 4000000 in
theorem ofb_4  (w : World) :
    Calls Try.prog 67 #[.int .i64 4] w fun e w' => e = .returned (.agg #[.func (.func 86) #[] #[], .int .i64 3]) ∧ Below w.heap.size w w' := by
  have HA := fun w => all_any w
  have hsf := fun (a : Addr) (k : Nat) (w : World) => run_store Try.prog w a (.func (.func k) #[] #[]) .plain rfl
  have HI : ∀ w, (Instr.index 140 (Value.agg compsV) (Value.int IntKind.i64 4)).run Try.prog w = .ok (.agg #[.func (.func 86) #[] #[], .int .i64 3]) w := fun w => by rfl
  go_enter Try.func67, Try.ntmps67
  go_wp2_with (first | (go_at_call 76; (with_reducible refine (HA _).mono ?_); rintro e w' ⟨rfl, t, rfl⟩) | fail)
  refine bodyPost_ret (results_cell_row rfl _ _ w.heap.size _ #[.func (.func 86) #[] #[], .int .i64 3] _ _ rfl (heap_two w _ _) rfl rfl (by kernel_rfl)) rfl ?_
  exact ⟨rfl, ((Below.refl w.heap.size w).alloc (Nat.le_refl _) _).alloc (by simp) _⟩
set_option maxRecDepth 100000 in
set_option maxHeartbeats 4000000 in
theorem ofb_5  (w : World) :
    Calls Try.prog 67 #[.int .i64 5] w fun e w' => e = .returned (.agg #[.func (.func 87) #[] #[], .int .i64 2]) ∧ Below w.heap.size w w' := by
  have HA := fun w => all_any w
  have hsf := fun (a : Addr) (k : Nat) (w : World) => run_store Try.prog w a (.func (.func k) #[] #[]) .plain rfl
  have HI : ∀ w, (Instr.index 140 (Value.agg compsV) (Value.int IntKind.i64 5)).run Try.prog w = .ok (.agg #[.func (.func 87) #[] #[], .int .i64 2]) w := fun w => by rfl
  go_enter Try.func67, Try.ntmps67
  go_wp2_with (first | (go_at_call 76; (with_reducible refine (HA _).mono ?_); rintro e w' ⟨rfl, t, rfl⟩) | fail)
  refine bodyPost_ret (results_cell_row rfl _ _ w.heap.size _ #[.func (.func 87) #[] #[], .int .i64 2] _ _ rfl (heap_two w _ _) rfl rfl (by kernel_rfl)) rfl ?_
  exact ⟨rfl, ((Below.refl w.heap.size w).alloc (Nat.le_refl _) _).alloc (by simp) _⟩
set_option maxRecDepth 100000 in
set_option maxHeartbeats 4000000 in
theorem ofb_6  (w : World) :
    Calls Try.prog 67 #[.int .i64 6] w fun e w' => e = .returned (.agg #[.func (.func 88) #[] #[], .int .i64 1]) ∧ Below w.heap.size w w' := by
  have HA := fun w => all_any w
  have hsf := fun (a : Addr) (k : Nat) (w : World) => run_store Try.prog w a (.func (.func k) #[] #[]) .plain rfl
  have HI : ∀ w, (Instr.index 140 (Value.agg compsV) (Value.int IntKind.i64 6)).run Try.prog w = .ok (.agg #[.func (.func 88) #[] #[], .int .i64 1]) w := fun w => by rfl
  go_enter Try.func67, Try.ntmps67
  go_wp2_with (first | (go_at_call 76; (with_reducible refine (HA _).mono ?_); rintro e w' ⟨rfl, t, rfl⟩) | fail)
  refine bodyPost_ret (results_cell_row rfl _ _ w.heap.size _ #[.func (.func 88) #[] #[], .int .i64 1] _ _ rfl (heap_two w _ _) rfl rfl (by kernel_rfl)) rfl ?_
  exact ⟨rfl, ((Below.refl w.heap.size w).alloc (Nat.le_refl _) _).alloc (by simp) _⟩

set_option maxRecDepth 100000 in
set_option maxHeartbeats 4000000 in
theorem ncmpb_0 (op : Int) (h0 : op < 1 ∨ 6 < op) (a b : Int) (w : World) :
    Calls Try.prog 61 #[.int .i64 op, .int .i64 a, .int .i64 b] w fun e w' => e = .returned (.bool (false)) ∧ Below w.heap.size w w' := by
  have HC := fun w => ofb_0 op h0 w
  have HK := fun w => clos_0 a b w
  have HF : ∀ (x y : Value) (w : World), (Instr.field 135 (.agg #[x, y]) 0).run Try.prog w = .ok x w := fun x y w => by rfl
  go_enter Try.func61, Try.ntmps61
  go_wp2_with (first | (go_at_call 67; (with_reducible refine (HC _).mono ?_); rintro e w' ⟨rfl, hg⟩) | (go_at_call 82; (with_reducible refine (HK _).mono ?_); rintro e w' ⟨rfl, rfl⟩) | fail)
  all_goals (go_ret; exact ⟨rfl, hg⟩)
set_option maxRecDepth 100000 in
set_option maxHeartbeats 4000000 in
theorem ncmpb_1  (a b : Int) (w : World) :
    Calls Try.prog 61 #[.int .i64 1, .int .i64 a, .int .i64 b] w fun e w' => e = .returned (.bool (decide (a < b))) ∧ Below w.heap.size w w' := by
  have HC := fun w => ofb_1 w
  have HK := fun w => clos_1 a b w
  have HF : ∀ (x y : Value) (w : World), (Instr.field 135 (.agg #[x, y]) 0).run Try.prog w = .ok x w := fun x y w => by rfl
  go_enter Try.func61, Try.ntmps61
  go_wp2_with (first | (go_at_call 67; (with_reducible refine (HC _).mono ?_); rintro e w' ⟨rfl, hg⟩) | (go_at_call 83; (with_reducible refine (HK _).mono ?_); rintro e w' ⟨rfl, rfl⟩) | fail)
  all_goals (go_ret; exact ⟨rfl, hg⟩)
set_option maxRecDepth 100000 in
set_option maxHeartbeats 4000000 in
theorem ncmpb_2  (a b : Int) (w : World) :
    Calls Try.prog 61 #[.int .i64 2, .int .i64 a, .int .i64 b] w fun e w' => e = .returned (.bool (decide (a ≤ b))) ∧ Below w.heap.size w w' := by
  have HC := fun w => ofb_2 w
  have HK := fun w => clos_2 a b w
  have HF : ∀ (x y : Value) (w : World), (Instr.field 135 (.agg #[x, y]) 0).run Try.prog w = .ok x w := fun x y w => by rfl
  go_enter Try.func61, Try.ntmps61
  go_wp2_with (first | (go_at_call 67; (with_reducible refine (HC _).mono ?_); rintro e w' ⟨rfl, hg⟩) | (go_at_call 84; (with_reducible refine (HK _).mono ?_); rintro e w' ⟨rfl, rfl⟩) | fail)
  all_goals (go_ret; exact ⟨rfl, hg⟩)
set_option maxRecDepth 100000 in
set_option maxHeartbeats 4000000 in
theorem ncmpb_3  (a b : Int) (w : World) :
    Calls Try.prog 61 #[.int .i64 3, .int .i64 a, .int .i64 b] w fun e w' => e = .returned (.bool (a == b)) ∧ Below w.heap.size w w' := by
  have HC := fun w => ofb_3 w
  have HK := fun w => clos_3 a b w
  have HF : ∀ (x y : Value) (w : World), (Instr.field 135 (.agg #[x, y]) 0).run Try.prog w = .ok x w := fun x y w => by rfl
  go_enter Try.func61, Try.ntmps61
  go_wp2_with (first | (go_at_call 67; (with_reducible refine (HC _).mono ?_); rintro e w' ⟨rfl, hg⟩) | (go_at_call 85; (with_reducible refine (HK _).mono ?_); rintro e w' ⟨rfl, rfl⟩) | fail)
  all_goals (go_ret; exact ⟨rfl, hg⟩)
set_option maxRecDepth 100000 in
set_option maxHeartbeats 4000000 in
theorem ncmpb_4  (a b : Int) (w : World) :
    Calls Try.prog 61 #[.int .i64 4, .int .i64 a, .int .i64 b] w fun e w' => e = .returned (.bool (a != b)) ∧ Below w.heap.size w w' := by
  have HC := fun w => ofb_4 w
  have HK := fun w => clos_4 a b w
  have HF : ∀ (x y : Value) (w : World), (Instr.field 135 (.agg #[x, y]) 0).run Try.prog w = .ok x w := fun x y w => by rfl
  go_enter Try.func61, Try.ntmps61
  go_wp2_with (first | (go_at_call 67; (with_reducible refine (HC _).mono ?_); rintro e w' ⟨rfl, hg⟩) | (go_at_call 86; (with_reducible refine (HK _).mono ?_); rintro e w' ⟨rfl, rfl⟩) | fail)
  all_goals (go_ret; exact ⟨rfl, hg⟩)
set_option maxRecDepth 100000 in
set_option maxHeartbeats 4000000 in
theorem ncmpb_5  (a b : Int) (w : World) :
    Calls Try.prog 61 #[.int .i64 5, .int .i64 a, .int .i64 b] w fun e w' => e = .returned (.bool (decide (b < a))) ∧ Below w.heap.size w w' := by
  have HC := fun w => ofb_5 w
  have HK := fun w => clos_5 a b w
  have HF : ∀ (x y : Value) (w : World), (Instr.field 135 (.agg #[x, y]) 0).run Try.prog w = .ok x w := fun x y w => by rfl
  go_enter Try.func61, Try.ntmps61
  go_wp2_with (first | (go_at_call 67; (with_reducible refine (HC _).mono ?_); rintro e w' ⟨rfl, hg⟩) | (go_at_call 87; (with_reducible refine (HK _).mono ?_); rintro e w' ⟨rfl, rfl⟩) | fail)
  all_goals (go_ret; exact ⟨rfl, hg⟩)
set_option maxRecDepth 100000 in
set_option maxHeartbeats 4000000 in
theorem ncmpb_6  (a b : Int) (w : World) :
    Calls Try.prog 61 #[.int .i64 6, .int .i64 a, .int .i64 b] w fun e w' => e = .returned (.bool (decide (b ≤ a))) ∧ Below w.heap.size w w' := by
  have HC := fun w => ofb_6 w
  have HK := fun w => clos_6 a b w
  have HF : ∀ (x y : Value) (w : World), (Instr.field 135 (.agg #[x, y]) 0).run Try.prog w = .ok x w := fun x y w => by rfl
  go_enter Try.func61, Try.ntmps61
  go_wp2_with (first | (go_at_call 67; (with_reducible refine (HC _).mono ?_); rintro e w' ⟨rfl, hg⟩) | (go_at_call 88; (with_reducible refine (HK _).mono ?_); rintro e w' ⟨rfl, rfl⟩) | fail)
  all_goals (go_ret; exact ⟨rfl, hg⟩)
theorem ncmp_any (op a b : Int) (w : World) : Calls Try.prog 61 #[.int .i64 op, .int .i64 a, .int .i64 b] w (fun e w' => e = .returned (.bool (cmpB op a b)) ∧ Below w.heap.size w w') := by
  by_cases h0 : op < 1 ∨ 6 < op
  · rw [cmp_out h0]
    exact ncmpb_0 op h0 a b w
  · have hc : op = 1 ∨ op = 2 ∨ op = 3 ∨ op = 4 ∨ op = 5 ∨ op = 6 := by omega
    rcases hc with rfl | rfl | rfl | rfl | rfl | rfl
    · exact ncmpb_1 a b w
    · exact ncmpb_2 a b w
    · exact ncmpb_3 a b w
    · exact ncmpb_4 a b w
    · exact ncmpb_5 a b w
    · exact ncmpb_6 a b w
end Go.Proofs.Ytbhbmoppipohjaa
