/-
  num.Not: proved is that it tells the contrary, and leaves all older memory as it is.
-/
import Derived.Test.YtbhbmoppipohjaaGreatDoorQArD
/-
  num's comparisons once more: proved is that they leave all older memory as it is.
-/
namespace Go.Proofs.YtbhbmoppipohjaaGreatDoor
open Go Go.RowKit

set_option maxRecDepth 100000 in
set_option maxHeartbeats 4000000 in
theorem ofb_0 (op : Int) (h0 : op < 1 ∨ 6 < op) (w : World) :
    Calls Tryz.prog 139 #[.int .i64 op] w fun e w' => e = .returned (.agg #[.func (.func 157) #[] #[], .int .i64 0]) ∧ Below w.heap.size w w' := by
  have HA := fun w => all_any w
  have hsf := fun (a : Addr) (k : Nat) (w : World) => run_store Tryz.prog w a (.func (.func k) #[] #[]) .plain rfl
  have HI : ∀ w, (Instr.index 218 (Value.agg compsV) (Value.int IntKind.i64 0)).run Tryz.prog w = .ok (.agg #[.func (.func 157) #[] #[], .int .i64 0]) w := fun w => by rfl
  rcases h0 with h0 | h0
  · go_enter Tryz.func139, Tryz.ntmps139
    go_wp2_with (first | (go_at_call 152; (with_reducible refine (HA _).mono ?_); rintro e w' ⟨rfl, t, rfl⟩) | fail)
    refine bodyPost_ret (results_cell_row rfl _ _ w.heap.size _ #[.func (.func 157) #[] #[], .int .i64 0] _ _ rfl (heap_two w _ _) rfl rfl (by kernel_rfl)) rfl ?_
    exact ⟨rfl, ((Below.refl w.heap.size w).alloc (Nat.le_refl _) _).alloc (by simp) _⟩
  · have h1 : ¬ op < 1 := by omega
    go_enter Tryz.func139, Tryz.ntmps139
    go_wp2_with (first | (go_at_call 152; (with_reducible refine (HA _).mono ?_); rintro e w' ⟨rfl, t, rfl⟩) | fail)
    refine bodyPost_ret (results_cell_row rfl _ _ w.heap.size _ #[.func (.func 157) #[] #[], .int .i64 0] _ _ rfl (heap_two w _ _) rfl rfl (by kernel_rfl)) rfl ?_
    exact ⟨rfl, ((Below.refl w.heap.size w).alloc (Nat.le_refl _) _).alloc (by simp) _⟩
set_option maxRecDepth 100000 in
set_option maxHeartbeats 4000000 in
theorem ofb_1  (w : World) :
    Calls Tryz.prog 139 #[.int .i64 1] w fun e w' => e = .returned (.agg #[.func (.func 158) #[] #[], .int .i64 6]) ∧ Below w.heap.size w w' := by
  have HA := fun w => all_any w
  have hsf := fun (a : Addr) (k : Nat) (w : World) => run_store Tryz.prog w a (.func (.func k) #[] #[]) .plain rfl
  have HI : ∀ w, (Instr.index 218 (Value.agg compsV) (Value.int IntKind.i64 1)).run Tryz.prog w = .ok (.agg #[.func (.func 158) #[] #[], .int .i64 6]) w := fun w => by rfl
  go_enter Tryz.func139, Tryz.ntmps139
  go_wp2_with (first | (go_at_call 152; (with_reducible refine (HA _).mono ?_); rintro e w' ⟨rfl, t, rfl⟩) | fail)
  refine bodyPost_ret (results_cell_row rfl _ _ w.heap.size _ #[.func (.func 158) #[] #[], .int .i64 6] _ _ rfl (heap_two w _ _) rfl rfl (by kernel_rfl)) rfl ?_
  exact ⟨rfl, ((Below.refl w.heap.size w).alloc (Nat.le_refl _) _).alloc (by simp) _⟩
set_option maxRecDepth 100000 in
set_option maxHeartbeats 4000000 in
theorem ofb_2  (w : World) :
    Calls Tryz.prog 139 #[.int .i64 2] w fun e w' => e = .returned (.agg #[.func (.func 159) #[] #[], .int .i64 5]) ∧ Below w.heap.size w w' := by
  have HA := fun w => all_any w
  have hsf := fun (a : Addr) (k : Nat) (w : World) => run_store Tryz.prog w a (.func (.func k) #[] #[]) .plain rfl
  have HI : ∀ w, (Instr.index 218 (Value.agg compsV) (Value.int IntKind.i64 2)).run Tryz.prog w = .ok (.agg #[.func (.func 159) #[] #[], .int .i64 5]) w := fun w => by rfl
  go_enter Tryz.func139, Tryz.ntmps139
  go_wp2_with (first | (go_at_call 152; (with_reducible refine (HA _).mono ?_); rintro e w' ⟨rfl, t, rfl⟩) | fail)
  refine bodyPost_ret (results_cell_row rfl _ _ w.heap.size _ #[.func (.func 159) #[] #[], .int .i64 5] _ _ rfl (heap_two w _ _) rfl rfl (by kernel_rfl)) rfl ?_
  exact ⟨rfl, ((Below.refl w.heap.size w).alloc (Nat.le_refl _) _).alloc (by simp) _⟩
set_option maxRecDepth 100000 in
set_option maxHeartbeats 4000000 in
theorem ofb_3  (w : World) :
    Calls Tryz.prog 139 #[.int .i64 3] w fun e w' => e = .returned (.agg #[.func (.func 160) #[] #[], .int .i64 4]) ∧ Below w.heap.size w w' := by
  have HA := fun w => all_any w
  have hsf := fun (a : Addr) (k : Nat) (w : World) => run_store Tryz.prog w a (.func (.func k) #[] #[]) .plain rfl
  have HI : ∀ w, (Instr.index 218 (Value.agg compsV) (Value.int IntKind.i64 3)).run Tryz.prog w = .ok (.agg #[.func (.func 160) #[] #[], .int .i64 4]) w := fun w => by rfl
  go_enter Tryz.func139, Tryz.ntmps139
  go_wp2_with (first | (go_at_call 152; (with_reducible refine (HA _).mono ?_); rintro e w' ⟨rfl, t, rfl⟩) | fail)
  refine bodyPost_ret (results_cell_row rfl _ _ w.heap.size _ #[.func (.func 160) #[] #[], .int .i64 4] _ _ rfl (heap_two w _ _) rfl rfl (by kernel_rfl)) rfl ?_
  exact ⟨rfl, ((Below.refl w.heap.size w).alloc (Nat.le_refl _) _).alloc (by simp) _⟩
set_option maxRecDepth 100000 in
set_option maxHeartbeats 4000000 in
theorem ofb_4  (w : World) :
    Calls Tryz.prog 139 #[.int .i64 4] w fun e w' => e = .returned (.agg #[.func (.func 161) #[] #[], .int .i64 3]) ∧ Below w.heap.size w w' := by
  have HA := fun w => all_any w
  have hsf := fun (a : Addr) (k : Nat) (w : World) => run_store Tryz.prog w a (.func (.func k) #[] #[]) .plain rfl
  have HI : ∀ w, (Instr.index 218 (Value.agg compsV) (Value.int IntKind.i64 4)).run Tryz.prog w = .ok (.agg #[.func (.func 161) #[] #[], .int .i64 3]) w := fun w => by rfl
  go_enter Tryz.func139, Tryz.ntmps139
  go_wp2_with (first | (go_at_call 152; (with_reducible refine (HA _).mono ?_); rintro e w' ⟨rfl, t, rfl⟩) | fail)
  refine bodyPost_ret (results_cell_row rfl _ _ w.heap.size _ #[.func (.func 161) #[] #[], .int .i64 3] _ _ rfl (heap_two w _ _) rfl rfl (by kernel_rfl)) rfl ?_
  exact ⟨rfl, ((Below.refl w.heap.size w).alloc (Nat.le_refl _) _).alloc (by simp) _⟩
set_option maxRecDepth 100000 in
set_option maxHeartbeats 4000000 in
theorem ofb_5  (w : World) :
    Calls Tryz.prog 139 #[.int .i64 5] w fun e w' => e = .returned (.agg #[.func (.func 162) #[] #[], .int .i64 2]) ∧ Below w.heap.size w w' := by
  have HA := fun w => all_any w
  have hsf := fun (a : Addr) (k : Nat) (w : World) => run_store Tryz.prog w a (.func (.func k) #[] #[]) .plain rfl
  have HI : ∀ w, (Instr.index 218 (Value.agg compsV) (Value.int IntKind.i64 5)).run Tryz.prog w = .ok (.agg #[.func (.func 162) #[] #[], .int .i64 2]) w := fun w => by rfl
  go_enter Tryz.func139, Tryz.ntmps139
  go_wp2_with (first | (go_at_call 152; (with_reducible refine (HA _).mono ?_); rintro e w' ⟨rfl, t, rfl⟩) | fail)
  refine bodyPost_ret (results_cell_row rfl _ _ w.heap.size _ #[.func (.func 162) #[] #[], .int .i64 2] _ _ rfl (heap_two w _ _) rfl rfl (by kernel_rfl)) rfl ?_
  exact ⟨rfl, ((Below.refl w.heap.size w).alloc (Nat.le_refl _) _).alloc (by simp) _⟩
set_option maxRecDepth 100000 in
set_option maxHeartbeats 4000000 in
theorem ofb_6  (w : World) :
    Calls Tryz.prog 139 #[.int .i64 6] w fun e w' => e = .returned (.agg #[.func (.func 163) #[] #[], .int .i64 1]) ∧ Below w.heap.size w w' := by
  have HA := fun w => all_any w
  have hsf := fun (a : Addr) (k : Nat) (w : World) => run_store Tryz.prog w a (.func (.func k) #[] #[]) .plain rfl
  have HI : ∀ w, (Instr.index 218 (Value.agg compsV) (Value.int IntKind.i64 6)).run Tryz.prog w = .ok (.agg #[.func (.func 163) #[] #[], .int .i64 1]) w := fun w => by rfl
  go_enter Tryz.func139, Tryz.ntmps139
  go_wp2_with (first | (go_at_call 152; (with_reducible refine (HA _).mono ?_); rintro e w' ⟨rfl, t, rfl⟩) | fail)
  refine bodyPost_ret (results_cell_row rfl _ _ w.heap.size _ #[.func (.func 163) #[] #[], .int .i64 1] _ _ rfl (heap_two w _ _) rfl rfl (by kernel_rfl)) rfl ?_
  exact ⟨rfl, ((Below.refl w.heap.size w).alloc (Nat.le_refl _) _).alloc (by simp) _⟩

end Go.Proofs.YtbhbmoppipohjaaGreatDoor

/-
  num.Not: proved is that it tells the contrary, and leaves all older memory as it is.
-/
namespace Go.Proofs.YtbhbmoppipohjaaGreatDoor
open Go Go.RowKit

set_option maxRecDepth 100000 in
set_option maxHeartbeats 4000000 in
theorem cnot_0 (op : Int) (h0 : op < 1 ∨ 6 < op) (w : World) :
    Calls Tryz.prog 116 #[.int .i64 op] w fun e w' => e = .returned (.int .i64 0) ∧ Below w.heap.size w w' := by
  have HC := fun w => ofb_0 op h0 w
  have HF : ∀ (x y : Value) (w : World), (Instr.field 201 (.agg #[x, y]) 1).run Tryz.prog w = .ok y w := fun x y w => by rfl
  go_enter Tryz.func116, Tryz.ntmps116
  go_wp2_with (first | (go_at_call 139; (with_reducible refine (HC _).mono ?_); rintro e w' ⟨rfl, hg⟩) | fail)
  all_goals (go_ret; exact ⟨rfl, hg⟩)
set_option maxRecDepth 100000 in
set_option maxHeartbeats 4000000 in
theorem cnot_1 (w : World) :
    Calls Tryz.prog 116 #[.int .i64 1] w fun e w' => e = .returned (.int .i64 6) ∧ Below w.heap.size w w' := by
  have HC := fun w => ofb_1 w
  have HF : ∀ (x y : Value) (w : World), (Instr.field 201 (.agg #[x, y]) 1).run Tryz.prog w = .ok y w := fun x y w => by rfl
  go_enter Tryz.func116, Tryz.ntmps116
  go_wp2_with (first | (go_at_call 139; (with_reducible refine (HC _).mono ?_); rintro e w' ⟨rfl, hg⟩) | fail)
  all_goals (go_ret; exact ⟨rfl, hg⟩)
set_option maxRecDepth 100000 in
set_option maxHeartbeats 4000000 in
theorem cnot_2 (w : World) :
    Calls Tryz.prog 116 #[.int .i64 2] w fun e w' => e = .returned (.int .i64 5) ∧ Below w.heap.size w w' := by
  have HC := fun w => ofb_2 w
  have HF : ∀ (x y : Value) (w : World), (Instr.field 201 (.agg #[x, y]) 1).run Tryz.prog w = .ok y w := fun x y w => by rfl
  go_enter Tryz.func116, Tryz.ntmps116
  go_wp2_with (first | (go_at_call 139; (with_reducible refine (HC _).mono ?_); rintro e w' ⟨rfl, hg⟩) | fail)
  all_goals (go_ret; exact ⟨rfl, hg⟩)
set_option maxRecDepth 100000 in
set_option maxHeartbeats 4000000 in
theorem cnot_3 (w : World) :
    Calls Tryz.prog 116 #[.int .i64 3] w fun e w' => e = .returned (.int .i64 4) ∧ Below w.heap.size w w' := by
  have HC := fun w => ofb_3 w
  have HF : ∀ (x y : Value) (w : World), (Instr.field 201 (.agg #[x, y]) 1).run Tryz.prog w = .ok y w := fun x y w => by rfl
  go_enter Tryz.func116, Tryz.ntmps116
  go_wp2_with (first | (go_at_call 139; (with_reducible refine (HC _).mono ?_); rintro e w' ⟨rfl, hg⟩) | fail)
  all_goals (go_ret; exact ⟨rfl, hg⟩)
set_option maxRecDepth 100000 in
set_option maxHeartbeats 4000000 in
theorem cnot_4 (w : World) :
    Calls Tryz.prog 116 #[.int .i64 4] w fun e w' => e = .returned (.int .i64 3) ∧ Below w.heap.size w w' := by
  have HC := fun w => ofb_4 w
  have HF : ∀ (x y : Value) (w : World), (Instr.field 201 (.agg #[x, y]) 1).run Tryz.prog w = .ok y w := fun x y w => by rfl
  go_enter Tryz.func116, Tryz.ntmps116
  go_wp2_with (first | (go_at_call 139; (with_reducible refine (HC _).mono ?_); rintro e w' ⟨rfl, hg⟩) | fail)
  all_goals (go_ret; exact ⟨rfl, hg⟩)
set_option maxRecDepth 100000 in
set_option maxHeartbeats 4000000 in
theorem cnot_5 (w : World) :
    Calls Tryz.prog 116 #[.int .i64 5] w fun e w' => e = .returned (.int .i64 2) ∧ Below w.heap.size w w' := by
  have HC := fun w => ofb_5 w
  have HF : ∀ (x y : Value) (w : World), (Instr.field 201 (.agg #[x, y]) 1).run Tryz.prog w = .ok y w := fun x y w => by rfl
  go_enter Tryz.func116, Tryz.ntmps116
  go_wp2_with (first | (go_at_call 139; (with_reducible refine (HC _).mono ?_); rintro e w' ⟨rfl, hg⟩) | fail)
  all_goals (go_ret; exact ⟨rfl, hg⟩)
set_option maxRecDepth 100000 in
set_option maxHeartbeats 4000000 in
theorem cnot_6 (w : World) :
    Calls Tryz.prog 116 #[.int .i64 6] w fun e w' => e = .returned (.int .i64 1) ∧ Below w.heap.size w w' := by
  have HC := fun w => ofb_6 w
  have HF : ∀ (x y : Value) (w : World), (Instr.field 201 (.agg #[x, y]) 1).run Tryz.prog w = .ok y w := fun x y w => by rfl
  go_enter Tryz.func116, Tryz.ntmps116
  go_wp2_with (first | (go_at_call 139; (with_reducible refine (HC _).mono ?_); rintro e w' ⟨rfl, hg⟩) | fail)
  all_goals (go_ret; exact ⟨rfl, hg⟩)
theorem cnot_any (op : Int) (w : World) : Calls Tryz.prog 116 #[.int .i64 op] w fun e w' => e = .returned (.int .i64 (notI op)) ∧ Below w.heap.size w w' := by
  by_cases h0 : op < 1 ∨ 6 < op
  · rw [not_out h0]
    exact cnot_0 op h0 w
  · have hc : op = 1 ∨ op = 2 ∨ op = 3 ∨ op = 4 ∨ op = 5 ∨ op = 6 := by omega
    rcases hc with rfl | rfl | rfl | rfl | rfl | rfl
    · exact cnot_1 w
    · exact cnot_2 w
    · exact cnot_3 w
    · exact cnot_4 w
    · exact cnot_5 w
    · exact cnot_6 w
end Go.Proofs.YtbhbmoppipohjaaGreatDoor
