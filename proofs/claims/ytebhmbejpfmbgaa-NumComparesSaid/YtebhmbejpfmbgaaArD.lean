/-
  Layer 7's comparisons, and NumCompares' walk.
-/
import Derived.Test.YtebhmbejpfmbgaaArC
import Derived.Laws.Rows
namespace Go.Proofs.Ytebhmbejpfmbgaa
open Go Go.RowKit

/-- The comparisons of all ops, as they are laid. -/
def compsV : Array Value := #[Value.func (Fn.func 33) #[] #[], Value.int IntKind.i64 0, Value.func (Fn.func 34) #[] #[], Value.int IntKind.i64 6, Value.func (Fn.func 35) #[] #[], Value.int IntKind.i64 5, Value.func (Fn.func 36) #[] #[], Value.int IntKind.i64 4, Value.func (Fn.func 37) #[] #[], Value.int IntKind.i64 3, Value.func (Fn.func 38) #[] #[], Value.int IntKind.i64 2, Value.func (Fn.func 39) #[] #[], Value.int IntKind.i64 1]

set_option maxRecDepth 100000 in
set_option maxHeartbeats 4000000 in
theorem all_any (w : World) :
    Calls Try.prog 32 #[] w fun e w' => e = .returned (.agg compsV) ∧ ∃ t, w' = w.alloc (.cells compsV t) := by
  have hsf := fun (a : Addr) (k : Nat) (w : World) => run_store Try.prog w a (.func (.func k) #[] #[]) .plain rfl
  go_enter Try.func32, Try.ntmps32
  go_wp2
  refine bodyPost_ret (results_cell_row rfl _ _ w.heap.size _ compsV _ _ rfl (heap_alloc_new w _) rfl rfl (by kernel_rfl)) rfl ?_
  exact ⟨rfl, _, rfl⟩

theorem heap_two (w : World) (A B : Obj) : ((w.alloc A).alloc B).heap[w.heap.size]? = some A := by
  rw [heap_alloc_old _ _ (by show w.heap.size < (w.heap.push A).size; simp)]
  exact heap_alloc_new w A

set_option maxRecDepth 100000 in
set_option maxHeartbeats 4000000 in
theorem of_0 (op : Int) (h0 : op < 1 ∨ 6 < op) (w : World) :
    Calls Try.prog 31 #[.int .i64 op] w fun e w' => e = .returned (.agg #[.func (.func 33) #[] #[], .int .i64 0]) ∧ Grown w w' := by
  have HA := fun w => all_any w
  have hsf := fun (a : Addr) (k : Nat) (w : World) => run_store Try.prog w a (.func (.func k) #[] #[]) .plain rfl
  have HI : ∀ w, (Instr.index 40 (Value.agg compsV) (Value.int IntKind.i64 0)).run Try.prog w = .ok (.agg #[.func (.func 33) #[] #[], .int .i64 0]) w := fun w => by rfl
  rcases h0 with h0 | h0
  · go_enter Try.func31, Try.ntmps31
    go_wp2_with (first | (go_at_call 32; (with_reducible refine (HA _).mono ?_); rintro e w' ⟨rfl, t, rfl⟩) | fail)
    refine bodyPost_ret (results_cell_row rfl _ _ w.heap.size _ #[.func (.func 33) #[] #[], .int .i64 0] _ _ rfl (heap_two w _ _) rfl rfl (by kernel_rfl)) rfl ?_
    exact ⟨rfl, ((Grown.refl w).alloc _ _).alloc _ _⟩
  · have h1 : ¬ op < 1 := by omega
    go_enter Try.func31, Try.ntmps31
    go_wp2_with (first | (go_at_call 32; (with_reducible refine (HA _).mono ?_); rintro e w' ⟨rfl, t, rfl⟩) | fail)
    refine bodyPost_ret (results_cell_row rfl _ _ w.heap.size _ #[.func (.func 33) #[] #[], .int .i64 0] _ _ rfl (heap_two w _ _) rfl rfl (by kernel_rfl)) rfl ?_
    exact ⟨rfl, ((Grown.refl w).alloc _ _).alloc _ _⟩
set_option maxRecDepth 100000 in
set_option maxHeartbeats 4000000 in
theorem of_1  (w : World) :
    Calls Try.prog 31 #[.int .i64 1] w fun e w' => e = .returned (.agg #[.func (.func 34) #[] #[], .int .i64 6]) ∧ Grown w w' := by
  have HA := fun w => all_any w
  have hsf := fun (a : Addr) (k : Nat) (w : World) => run_store Try.prog w a (.func (.func k) #[] #[]) .plain rfl
  have HI : ∀ w, (Instr.index 40 (Value.agg compsV) (Value.int IntKind.i64 1)).run Try.prog w = .ok (.agg #[.func (.func 34) #[] #[], .int .i64 6]) w := fun w => by rfl
  go_enter Try.func31, Try.ntmps31
  go_wp2_with (first | (go_at_call 32; (with_reducible refine (HA _).mono ?_); rintro e w' ⟨rfl, t, rfl⟩) | fail)
  refine bodyPost_ret (results_cell_row rfl _ _ w.heap.size _ #[.func (.func 34) #[] #[], .int .i64 6] _ _ rfl (heap_two w _ _) rfl rfl (by kernel_rfl)) rfl ?_
  exact ⟨rfl, ((Grown.refl w).alloc _ _).alloc _ _⟩
set_option maxRecDepth 100000 in
set_option maxHeartbeats 4000000 in
theorem of_2  (w : World) :
    Calls Try.prog 31 #[.int .i64 2] w fun e w' => e = .returned (.agg #[.func (.func 35) #[] #[], .int .i64 5]) ∧ Grown w w' := by
  have HA := fun w => all_any w
  have hsf := fun (a : Addr) (k : Nat) (w : World) => run_store Try.prog w a (.func (.func k) #[] #[]) .plain rfl
  have HI : ∀ w, (Instr.index 40 (Value.agg compsV) (Value.int IntKind.i64 2)).run Try.prog w = .ok (.agg #[.func (.func 35) #[] #[], .int .i64 5]) w := fun w => by rfl
  go_enter Try.func31, Try.ntmps31
  go_wp2_with (first | (go_at_call 32; (with_reducible refine (HA _).mono ?_); rintro e w' ⟨rfl, t, rfl⟩) | fail)
  refine bodyPost_ret (results_cell_row rfl _ _ w.heap.size _ #[.func (.func 35) #[] #[], .int .i64 5] _ _ rfl (heap_two w _ _) rfl rfl (by kernel_rfl)) rfl ?_
  exact ⟨rfl, ((Grown.refl w).alloc _ _).alloc _ _⟩
set_option maxRecDepth 100000 in
set_option maxHeartbeats 4000000 in
theorem of_3  (w : World) :
    Calls Try.prog 31 #[.int .i64 3] w fun e w' => e = .returned (.agg #[.func (.func 36) #[] #[], .int .i64 4]) ∧ Grown w w' := by
  have HA := fun w => all_any w
  have hsf := fun (a : Addr) (k : Nat) (w : World) => run_store Try.prog w a (.func (.func k) #[] #[]) .plain rfl
  have HI : ∀ w, (Instr.index 40 (Value.agg compsV) (Value.int IntKind.i64 3)).run Try.prog w = .ok (.agg #[.func (.func 36) #[] #[], .int .i64 4]) w := fun w => by rfl
  go_enter Try.func31, Try.ntmps31
  go_wp2_with (first | (go_at_call 32; (with_reducible refine (HA _).mono ?_); rintro e w' ⟨rfl, t, rfl⟩) | fail)
  refine bodyPost_ret (results_cell_row rfl _ _ w.heap.size _ #[.func (.func 36) #[] #[], .int .i64 4] _ _ rfl (heap_two w _ _) rfl rfl (by kernel_rfl)) rfl ?_
  exact ⟨rfl, ((Grown.refl w).alloc _ _).alloc _ _⟩
set_option maxRecDepth 100000 in
set_option maxHeartbeats 4000000 in
theorem of_4  (w : World) :
    Calls Try.prog 31 #[.int .i64 4] w fun e w' => e = .returned (.agg #[.func (.func 37) #[] #[], .int .i64 3]) ∧ Grown w w' := by
  have HA := fun w => all_any w
  have hsf := fun (a : Addr) (k : Nat) (w : World) => run_store Try.prog w a (.func (.func k) #[] #[]) .plain rfl
  have HI : ∀ w, (Instr.index 40 (Value.agg compsV) (Value.int IntKind.i64 4)).run Try.prog w = .ok (.agg #[.func (.func 37) #[] #[], .int .i64 3]) w := fun w => by rfl
  go_enter Try.func31, Try.ntmps31
  go_wp2_with (first | (go_at_call 32; (with_reducible refine (HA _).mono ?_); rintro e w' ⟨rfl, t, rfl⟩) | fail)
  refine bodyPost_ret (results_cell_row rfl _ _ w.heap.size _ #[.func (.func 37) #[] #[], .int .i64 3] _ _ rfl (heap_two w _ _) rfl rfl (by kernel_rfl)) rfl ?_
  exact ⟨rfl, ((Grown.refl w).alloc _ _).alloc _ _⟩
set_option maxRecDepth 100000 in
set_option maxHeartbeats 4000000 in
theorem of_5  (w : World) :
    Calls Try.prog 31 #[.int .i64 5] w fun e w' => e = .returned (.agg #[.func (.func 38) #[] #[], .int .i64 2]) ∧ Grown w w' := by
  have HA := fun w => all_any w
  have hsf := fun (a : Addr) (k : Nat) (w : World) => run_store Try.prog w a (.func (.func k) #[] #[]) .plain rfl
  have HI : ∀ w, (Instr.index 40 (Value.agg compsV) (Value.int IntKind.i64 5)).run Try.prog w = .ok (.agg #[.func (.func 38) #[] #[], .int .i64 2]) w := fun w => by rfl
  go_enter Try.func31, Try.ntmps31
  go_wp2_with (first | (go_at_call 32; (with_reducible refine (HA _).mono ?_); rintro e w' ⟨rfl, t, rfl⟩) | fail)
  refine bodyPost_ret (results_cell_row rfl _ _ w.heap.size _ #[.func (.func 38) #[] #[], .int .i64 2] _ _ rfl (heap_two w _ _) rfl rfl (by kernel_rfl)) rfl ?_
  exact ⟨rfl, ((Grown.refl w).alloc _ _).alloc _ _⟩
set_option maxRecDepth 100000 in
set_option maxHeartbeats 4000000 in
theorem of_6  (w : World) :
    Calls Try.prog 31 #[.int .i64 6] w fun e w' => e = .returned (.agg #[.func (.func 39) #[] #[], .int .i64 1]) ∧ Grown w w' := by
  have HA := fun w => all_any w
  have hsf := fun (a : Addr) (k : Nat) (w : World) => run_store Try.prog w a (.func (.func k) #[] #[]) .plain rfl
  have HI : ∀ w, (Instr.index 40 (Value.agg compsV) (Value.int IntKind.i64 6)).run Try.prog w = .ok (.agg #[.func (.func 39) #[] #[], .int .i64 1]) w := fun w => by rfl
  go_enter Try.func31, Try.ntmps31
  go_wp2_with (first | (go_at_call 32; (with_reducible refine (HA _).mono ?_); rintro e w' ⟨rfl, t, rfl⟩) | fail)
  refine bodyPost_ret (results_cell_row rfl _ _ w.heap.size _ #[.func (.func 39) #[] #[], .int .i64 1] _ _ rfl (heap_two w _ _) rfl rfl (by kernel_rfl)) rfl ?_
  exact ⟨rfl, ((Grown.refl w).alloc _ _).alloc _ _⟩

/-- Whether an op holds of two numbers. -/
def cmpB (op a b : Int) : Bool :=
  if op = 1 then decide (a < b) else if op = 2 then decide (a ≤ b) else if op = 3 then a == b else if op = 4 then a != b else if op = 5 then decide (b < a) else if op = 6 then decide (b ≤ a) else false
/-- The op that holds just where it doesn't. -/
def notI (op : Int) : Int := if 1 ≤ op ∧ op ≤ 6 then 7 - op else 0
theorem cmp_out {op : Int} (h0 : op < 1 ∨ 6 < op) (a b : Int) : cmpB op a b = false := by
  unfold cmpB
  rw [if_neg (by omega), if_neg (by omega), if_neg (by omega), if_neg (by omega), if_neg (by omega), if_neg (by omega)]
theorem grown_on {w1 w2 w3 : World} (h : Grown w1 w2) (g : Grown w2 w3) : Grown w1 w3 :=
  ⟨World.keptBut_trans h.1 g.1, fun a => (g.2.1 a).trans (h.2.1 a), Nat.le_trans h.2.2 g.2.2⟩
theorem not_out {op : Int} (h0 : op < 1 ∨ 6 < op) : notI op = 0 := by
  unfold notI
  rw [if_neg (by omega)]
set_option maxRecDepth 100000 in
set_option maxHeartbeats 4000000 in
theorem clos_0 (a b : Int) (w : World) :
    Calls Try.prog 33 #[.int .i64 a, .int .i64 b] w fun e w' => e = .returned (.bool (false)) ∧ w' = w := by
  go_enter Try.func33, Try.ntmps33
  go_wp2
  all_goals (go_ret; exact ⟨rfl, rfl⟩)
set_option maxRecDepth 100000 in
set_option maxHeartbeats 4000000 in
theorem clos_1 (a b : Int) (w : World) :
    Calls Try.prog 34 #[.int .i64 a, .int .i64 b] w fun e w' => e = .returned (.bool (decide (a < b))) ∧ w' = w := by
  go_enter Try.func34, Try.ntmps34
  go_wp2
  all_goals (go_ret; exact ⟨rfl, rfl⟩)
set_option maxRecDepth 100000 in
set_option maxHeartbeats 4000000 in
theorem clos_2 (a b : Int) (w : World) :
    Calls Try.prog 35 #[.int .i64 a, .int .i64 b] w fun e w' => e = .returned (.bool (decide (a ≤ b))) ∧ w' = w := by
  go_enter Try.func35, Try.ntmps35
  go_wp2
  all_goals (go_ret; exact ⟨rfl, rfl⟩)
set_option maxRecDepth 100000 in
set_option maxHeartbeats 4000000 in
theorem clos_3 (a b : Int) (w : World) :
    Calls Try.prog 36 #[.int .i64 a, .int .i64 b] w fun e w' => e = .returned (.bool (a == b)) ∧ w' = w := by
  go_enter Try.func36, Try.ntmps36
  go_wp2
  all_goals (go_ret; exact ⟨rfl, rfl⟩)
set_option maxRecDepth 100000 in
set_option maxHeartbeats 4000000 in
theorem clos_4 (a b : Int) (w : World) :
    Calls Try.prog 37 #[.int .i64 a, .int .i64 b] w fun e w' => e = .returned (.bool (a != b)) ∧ w' = w := by
  go_enter Try.func37, Try.ntmps37
  go_wp2
  all_goals (go_ret; exact ⟨rfl, rfl⟩)
set_option maxRecDepth 100000 in
set_option maxHeartbeats 4000000 in
theorem clos_5 (a b : Int) (w : World) :
    Calls Try.prog 38 #[.int .i64 a, .int .i64 b] w fun e w' => e = .returned (.bool (decide (b < a))) ∧ w' = w := by
  go_enter Try.func38, Try.ntmps38
  go_wp2
  all_goals (go_ret; exact ⟨rfl, rfl⟩)
set_option maxRecDepth 100000 in
set_option maxHeartbeats 4000000 in
theorem clos_6 (a b : Int) (w : World) :
    Calls Try.prog 39 #[.int .i64 a, .int .i64 b] w fun e w' => e = .returned (.bool (decide (b ≤ a))) ∧ w' = w := by
  go_enter Try.func39, Try.ntmps39
  go_wp2
  all_goals (go_ret; exact ⟨rfl, rfl⟩)
set_option maxRecDepth 100000 in
set_option maxHeartbeats 4000000 in
theorem ncmp_0 (op : Int) (h0 : op < 1 ∨ 6 < op) (a b : Int) (w : World) :
    Calls Try.prog 22 #[.int .i64 op, .int .i64 a, .int .i64 b] w fun e w' => e = .returned (.bool (false)) ∧ Grown w w' := by
  have HC := fun w => of_0 op h0 w
  have HK := fun w => clos_0 a b w
  have HF : ∀ (x y : Value) (w : World), (Instr.field 37 (.agg #[x, y]) 0).run Try.prog w = .ok x w := fun x y w => by rfl
  go_enter Try.func22, Try.ntmps22
  go_wp2_with (first | (go_at_call 31; (with_reducible refine (HC _).mono ?_); rintro e w' ⟨rfl, hg⟩) | (go_at_call 33; (with_reducible refine (HK _).mono ?_); rintro e w' ⟨rfl, rfl⟩) | fail)
  all_goals (go_ret; exact ⟨rfl, hg⟩)
set_option maxRecDepth 100000 in
set_option maxHeartbeats 4000000 in
theorem nnot_0 (op : Int) (h0 : op < 1 ∨ 6 < op) (w : World) :
    Calls Try.prog 21 #[.int .i64 op] w fun e w' => e = .returned (.int .i64 0) ∧ Grown w w' := by
  have HC := fun w => of_0 op h0 w
  have HF : ∀ (x y : Value) (w : World), (Instr.field 37 (.agg #[x, y]) 1).run Try.prog w = .ok y w := fun x y w => by rfl
  go_enter Try.func21, Try.ntmps21
  go_wp2_with (first | (go_at_call 31; (with_reducible refine (HC _).mono ?_); rintro e w' ⟨rfl, hg⟩) | fail)
  all_goals (go_ret; exact ⟨rfl, hg⟩)
set_option maxRecDepth 100000 in
set_option maxHeartbeats 4000000 in
theorem rcmp_0 (op : Int) (h0 : op < 1 ∨ 6 < op) (a b : Int) (w : World) :
    Calls Try.prog 23 #[.int .i64 op, .int .i64 a, .int .i64 b] w fun e w' => e = .returned (.bool (false)) ∧ w' = w := by
  have e1 : (op == 1) = false := by simp; omega
  have e2 : (op == 2) = false := by simp; omega
  have e3 : (op == 3) = false := by simp; omega
  have e4 : (op == 4) = false := by simp; omega
  have e5 : (op == 5) = false := by simp; omega
  have e6 : (op == 6) = false := by simp; omega
  clear h0
  go_enter Try.func23, Try.ntmps23
  go_wp2
  all_goals (go_ret; exact ⟨rfl, rfl⟩)
set_option maxRecDepth 100000 in
set_option maxHeartbeats 4000000 in
theorem rnot_0 (op : Int) (h0 : op < 1 ∨ 6 < op) (w : World) :
    Calls Try.prog 24 #[.int .i64 op] w fun e w' => e = .returned (.int .i64 0) ∧ w' = w := by
  have e1 : (op == 1) = false := by simp; omega
  have e2 : (op == 2) = false := by simp; omega
  have e3 : (op == 3) = false := by simp; omega
  have e4 : (op == 4) = false := by simp; omega
  have e5 : (op == 5) = false := by simp; omega
  have e6 : (op == 6) = false := by simp; omega
  clear h0
  go_enter Try.func24, Try.ntmps24
  go_wp2
  all_goals (go_ret; exact ⟨rfl, rfl⟩)
set_option maxRecDepth 100000 in
set_option maxHeartbeats 4000000 in
theorem ncmp_1  (a b : Int) (w : World) :
    Calls Try.prog 22 #[.int .i64 1, .int .i64 a, .int .i64 b] w fun e w' => e = .returned (.bool (decide (a < b))) ∧ Grown w w' := by
  have HC := fun w => of_1 w
  have HK := fun w => clos_1 a b w
  have HF : ∀ (x y : Value) (w : World), (Instr.field 37 (.agg #[x, y]) 0).run Try.prog w = .ok x w := fun x y w => by rfl
  go_enter Try.func22, Try.ntmps22
  go_wp2_with (first | (go_at_call 31; (with_reducible refine (HC _).mono ?_); rintro e w' ⟨rfl, hg⟩) | (go_at_call 34; (with_reducible refine (HK _).mono ?_); rintro e w' ⟨rfl, rfl⟩) | fail)
  all_goals (go_ret; exact ⟨rfl, hg⟩)
set_option maxRecDepth 100000 in
set_option maxHeartbeats 4000000 in
theorem nnot_1  (w : World) :
    Calls Try.prog 21 #[.int .i64 1] w fun e w' => e = .returned (.int .i64 6) ∧ Grown w w' := by
  have HC := fun w => of_1 w
  have HF : ∀ (x y : Value) (w : World), (Instr.field 37 (.agg #[x, y]) 1).run Try.prog w = .ok y w := fun x y w => by rfl
  go_enter Try.func21, Try.ntmps21
  go_wp2_with (first | (go_at_call 31; (with_reducible refine (HC _).mono ?_); rintro e w' ⟨rfl, hg⟩) | fail)
  all_goals (go_ret; exact ⟨rfl, hg⟩)
set_option maxRecDepth 100000 in
set_option maxHeartbeats 4000000 in
theorem rcmp_1  (a b : Int) (w : World) :
    Calls Try.prog 23 #[.int .i64 1, .int .i64 a, .int .i64 b] w fun e w' => e = .returned (.bool (decide (a < b))) ∧ w' = w := by
  go_enter Try.func23, Try.ntmps23
  go_wp2
  all_goals (go_ret; exact ⟨rfl, rfl⟩)
set_option maxRecDepth 100000 in
set_option maxHeartbeats 4000000 in
theorem rnot_1  (w : World) :
    Calls Try.prog 24 #[.int .i64 1] w fun e w' => e = .returned (.int .i64 6) ∧ w' = w := by
  go_enter Try.func24, Try.ntmps24
  go_wp2
  all_goals (go_ret; exact ⟨rfl, rfl⟩)
set_option maxRecDepth 100000 in
set_option maxHeartbeats 4000000 in
theorem ncmp_2  (a b : Int) (w : World) :
    Calls Try.prog 22 #[.int .i64 2, .int .i64 a, .int .i64 b] w fun e w' => e = .returned (.bool (decide (a ≤ b))) ∧ Grown w w' := by
  have HC := fun w => of_2 w
  have HK := fun w => clos_2 a b w
  have HF : ∀ (x y : Value) (w : World), (Instr.field 37 (.agg #[x, y]) 0).run Try.prog w = .ok x w := fun x y w => by rfl
  go_enter Try.func22, Try.ntmps22
  go_wp2_with (first | (go_at_call 31; (with_reducible refine (HC _).mono ?_); rintro e w' ⟨rfl, hg⟩) | (go_at_call 35; (with_reducible refine (HK _).mono ?_); rintro e w' ⟨rfl, rfl⟩) | fail)
  all_goals (go_ret; exact ⟨rfl, hg⟩)
set_option maxRecDepth 100000 in
set_option maxHeartbeats 4000000 in
theorem nnot_2  (w : World) :
    Calls Try.prog 21 #[.int .i64 2] w fun e w' => e = .returned (.int .i64 5) ∧ Grown w w' := by
  have HC := fun w => of_2 w
  have HF : ∀ (x y : Value) (w : World), (Instr.field 37 (.agg #[x, y]) 1).run Try.prog w = .ok y w := fun x y w => by rfl
  go_enter Try.func21, Try.ntmps21
  go_wp2_with (first | (go_at_call 31; (with_reducible refine (HC _).mono ?_); rintro e w' ⟨rfl, hg⟩) | fail)
  all_goals (go_ret; exact ⟨rfl, hg⟩)
set_option maxRecDepth 100000 in
set_option maxHeartbeats 4000000 in
theorem rcmp_2  (a b : Int) (w : World) :
    Calls Try.prog 23 #[.int .i64 2, .int .i64 a, .int .i64 b] w fun e w' => e = .returned (.bool (decide (a ≤ b))) ∧ w' = w := by
  go_enter Try.func23, Try.ntmps23
  go_wp2
  all_goals (go_ret; exact ⟨rfl, rfl⟩)
set_option maxRecDepth 100000 in
set_option maxHeartbeats 4000000 in
theorem rnot_2  (w : World) :
    Calls Try.prog 24 #[.int .i64 2] w fun e w' => e = .returned (.int .i64 5) ∧ w' = w := by
  go_enter Try.func24, Try.ntmps24
  go_wp2
  all_goals (go_ret; exact ⟨rfl, rfl⟩)
set_option maxRecDepth 100000 in
set_option maxHeartbeats 4000000 in
theorem ncmp_3  (a b : Int) (w : World) :
    Calls Try.prog 22 #[.int .i64 3, .int .i64 a, .int .i64 b] w fun e w' => e = .returned (.bool (a == b)) ∧ Grown w w' := by
  have HC := fun w => of_3 w
  have HK := fun w => clos_3 a b w
  have HF : ∀ (x y : Value) (w : World), (Instr.field 37 (.agg #[x, y]) 0).run Try.prog w = .ok x w := fun x y w => by rfl
  go_enter Try.func22, Try.ntmps22
  go_wp2_with (first | (go_at_call 31; (with_reducible refine (HC _).mono ?_); rintro e w' ⟨rfl, hg⟩) | (go_at_call 36; (with_reducible refine (HK _).mono ?_); rintro e w' ⟨rfl, rfl⟩) | fail)
  all_goals (go_ret; exact ⟨rfl, hg⟩)
set_option maxRecDepth 100000 in
set_option maxHeartbeats 4000000 in
theorem nnot_3  (w : World) :
    Calls Try.prog 21 #[.int .i64 3] w fun e w' => e = .returned (.int .i64 4) ∧ Grown w w' := by
  have HC := fun w => of_3 w
  have HF : ∀ (x y : Value) (w : World), (Instr.field 37 (.agg #[x, y]) 1).run Try.prog w = .ok y w := fun x y w => by rfl
  go_enter Try.func21, Try.ntmps21
  go_wp2_with (first | (go_at_call 31; (with_reducible refine (HC _).mono ?_); rintro e w' ⟨rfl, hg⟩) | fail)
  all_goals (go_ret; exact ⟨rfl, hg⟩)
set_option maxRecDepth 100000 in
set_option maxHeartbeats 4000000 in
theorem rcmp_3  (a b : Int) (w : World) :
    Calls Try.prog 23 #[.int .i64 3, .int .i64 a, .int .i64 b] w fun e w' => e = .returned (.bool (a == b)) ∧ w' = w := by
  go_enter Try.func23, Try.ntmps23
  go_wp2
  all_goals (go_ret; exact ⟨rfl, rfl⟩)
set_option maxRecDepth 100000 in
set_option maxHeartbeats 4000000 in
theorem rnot_3  (w : World) :
    Calls Try.prog 24 #[.int .i64 3] w fun e w' => e = .returned (.int .i64 4) ∧ w' = w := by
  go_enter Try.func24, Try.ntmps24
  go_wp2
  all_goals (go_ret; exact ⟨rfl, rfl⟩)
set_option maxRecDepth 100000 in
set_option maxHeartbeats 4000000 in
theorem ncmp_4  (a b : Int) (w : World) :
    Calls Try.prog 22 #[.int .i64 4, .int .i64 a, .int .i64 b] w fun e w' => e = .returned (.bool (a != b)) ∧ Grown w w' := by
  have HC := fun w => of_4 w
  have HK := fun w => clos_4 a b w
  have HF : ∀ (x y : Value) (w : World), (Instr.field 37 (.agg #[x, y]) 0).run Try.prog w = .ok x w := fun x y w => by rfl
  go_enter Try.func22, Try.ntmps22
  go_wp2_with (first | (go_at_call 31; (with_reducible refine (HC _).mono ?_); rintro e w' ⟨rfl, hg⟩) | (go_at_call 37; (with_reducible refine (HK _).mono ?_); rintro e w' ⟨rfl, rfl⟩) | fail)
  all_goals (go_ret; exact ⟨rfl, hg⟩)
set_option maxRecDepth 100000 in
set_option maxHeartbeats 4000000 in
theorem nnot_4  (w : World) :
    Calls Try.prog 21 #[.int .i64 4] w fun e w' => e = .returned (.int .i64 3) ∧ Grown w w' := by
  have HC := fun w => of_4 w
  have HF : ∀ (x y : Value) (w : World), (Instr.field 37 (.agg #[x, y]) 1).run Try.prog w = .ok y w := fun x y w => by rfl
  go_enter Try.func21, Try.ntmps21
  go_wp2_with (first | (go_at_call 31; (with_reducible refine (HC _).mono ?_); rintro e w' ⟨rfl, hg⟩) | fail)
  all_goals (go_ret; exact ⟨rfl, hg⟩)
set_option maxRecDepth 100000 in
set_option maxHeartbeats 4000000 in
theorem rcmp_4  (a b : Int) (w : World) :
    Calls Try.prog 23 #[.int .i64 4, .int .i64 a, .int .i64 b] w fun e w' => e = .returned (.bool (a != b)) ∧ w' = w := by
  go_enter Try.func23, Try.ntmps23
  go_wp2
  all_goals (go_ret; exact ⟨rfl, rfl⟩)
set_option maxRecDepth 100000 in
set_option maxHeartbeats 4000000 in
theorem rnot_4  (w : World) :
    Calls Try.prog 24 #[.int .i64 4] w fun e w' => e = .returned (.int .i64 3) ∧ w' = w := by
  go_enter Try.func24, Try.ntmps24
  go_wp2
  all_goals (go_ret; exact ⟨rfl, rfl⟩)
set_option maxRecDepth 100000 in
set_option maxHeartbeats 4000000 in
theorem ncmp_5  (a b : Int) (w : World) :
    Calls Try.prog 22 #[.int .i64 5, .int .i64 a, .int .i64 b] w fun e w' => e = .returned (.bool (decide (b < a))) ∧ Grown w w' := by
  have HC := fun w => of_5 w
  have HK := fun w => clos_5 a b w
  have HF : ∀ (x y : Value) (w : World), (Instr.field 37 (.agg #[x, y]) 0).run Try.prog w = .ok x w := fun x y w => by rfl
  go_enter Try.func22, Try.ntmps22
  go_wp2_with (first | (go_at_call 31; (with_reducible refine (HC _).mono ?_); rintro e w' ⟨rfl, hg⟩) | (go_at_call 38; (with_reducible refine (HK _).mono ?_); rintro e w' ⟨rfl, rfl⟩) | fail)
  all_goals (go_ret; exact ⟨rfl, hg⟩)
set_option maxRecDepth 100000 in
set_option maxHeartbeats 4000000 in
theorem nnot_5  (w : World) :
    Calls Try.prog 21 #[.int .i64 5] w fun e w' => e = .returned (.int .i64 2) ∧ Grown w w' := by
  have HC := fun w => of_5 w
  have HF : ∀ (x y : Value) (w : World), (Instr.field 37 (.agg #[x, y]) 1).run Try.prog w = .ok y w := fun x y w => by rfl
  go_enter Try.func21, Try.ntmps21
  go_wp2_with (first | (go_at_call 31; (with_reducible refine (HC _).mono ?_); rintro e w' ⟨rfl, hg⟩) | fail)
  all_goals (go_ret; exact ⟨rfl, hg⟩)
set_option maxRecDepth 100000 in
set_option maxHeartbeats 4000000 in
theorem rcmp_5  (a b : Int) (w : World) :
    Calls Try.prog 23 #[.int .i64 5, .int .i64 a, .int .i64 b] w fun e w' => e = .returned (.bool (decide (b < a))) ∧ w' = w := by
  go_enter Try.func23, Try.ntmps23
  go_wp2
  all_goals (go_ret; exact ⟨rfl, rfl⟩)
set_option maxRecDepth 100000 in
set_option maxHeartbeats 4000000 in
theorem rnot_5  (w : World) :
    Calls Try.prog 24 #[.int .i64 5] w fun e w' => e = .returned (.int .i64 2) ∧ w' = w := by
  go_enter Try.func24, Try.ntmps24
  go_wp2
  all_goals (go_ret; exact ⟨rfl, rfl⟩)
set_option maxRecDepth 100000 in
set_option maxHeartbeats 4000000 in
theorem ncmp_6  (a b : Int) (w : World) :
    Calls Try.prog 22 #[.int .i64 6, .int .i64 a, .int .i64 b] w fun e w' => e = .returned (.bool (decide (b ≤ a))) ∧ Grown w w' := by
  have HC := fun w => of_6 w
  have HK := fun w => clos_6 a b w
  have HF : ∀ (x y : Value) (w : World), (Instr.field 37 (.agg #[x, y]) 0).run Try.prog w = .ok x w := fun x y w => by rfl
  go_enter Try.func22, Try.ntmps22
  go_wp2_with (first | (go_at_call 31; (with_reducible refine (HC _).mono ?_); rintro e w' ⟨rfl, hg⟩) | (go_at_call 39; (with_reducible refine (HK _).mono ?_); rintro e w' ⟨rfl, rfl⟩) | fail)
  all_goals (go_ret; exact ⟨rfl, hg⟩)
set_option maxRecDepth 100000 in
set_option maxHeartbeats 4000000 in
theorem nnot_6  (w : World) :
    Calls Try.prog 21 #[.int .i64 6] w fun e w' => e = .returned (.int .i64 1) ∧ Grown w w' := by
  have HC := fun w => of_6 w
  have HF : ∀ (x y : Value) (w : World), (Instr.field 37 (.agg #[x, y]) 1).run Try.prog w = .ok y w := fun x y w => by rfl
  go_enter Try.func21, Try.ntmps21
  go_wp2_with (first | (go_at_call 31; (with_reducible refine (HC _).mono ?_); rintro e w' ⟨rfl, hg⟩) | fail)
  all_goals (go_ret; exact ⟨rfl, hg⟩)
set_option maxRecDepth 100000 in
set_option maxHeartbeats 4000000 in
theorem rcmp_6  (a b : Int) (w : World) :
    Calls Try.prog 23 #[.int .i64 6, .int .i64 a, .int .i64 b] w fun e w' => e = .returned (.bool (decide (b ≤ a))) ∧ w' = w := by
  go_enter Try.func23, Try.ntmps23
  go_wp2
  all_goals (go_ret; exact ⟨rfl, rfl⟩)
set_option maxRecDepth 100000 in
set_option maxHeartbeats 4000000 in
theorem rnot_6  (w : World) :
    Calls Try.prog 24 #[.int .i64 6] w fun e w' => e = .returned (.int .i64 1) ∧ w' = w := by
  go_enter Try.func24, Try.ntmps24
  go_wp2
  all_goals (go_ret; exact ⟨rfl, rfl⟩)

set_option maxRecDepth 100000 in
set_option maxHeartbeats 4000000 in
theorem compares_0 (op : Int) (h0 : op < 1 ∨ 6 < op) (a b : Int) (w : World) :
    Calls Try.prog 4 #[.int .i64 op, .int .i64 a, .int .i64 b] w fun e w' => e = .returned (.bool true) ∧ Grown w w' := by
  have HK := fun w => kn_any w
  have HN := fun w => nnot_0 op h0 w
  have HR := fun w => rnot_0 op h0 w
  have HC := fun w => ncmp_0 op h0 a b w
  have HD := fun w => rcmp_0 op h0 a b w
  rcases h0 with h0 | h0
  · go_enter Try.func4, Try.ntmps4
    go_wp2_with (first | (go_at_call 7; (with_reducible refine (HK _).mono ?_); rintro e w' ⟨rfl, rfl⟩) | (go_at_call 21; (with_reducible refine (HN _).mono ?_); rintro e w' ⟨rfl, hn⟩) | (go_at_call 24; (with_reducible refine (HR _).mono ?_); rintro e w' ⟨rfl, rfl⟩) | (go_at_call 23; (with_reducible refine (HD _).mono ?_); rintro e w' ⟨rfl, rfl⟩) | (go_at_call 22; (with_reducible refine (HC _).mono ?_); rintro e w' ⟨rfl, hc⟩) | fail)
    all_goals (go_ret; exact ⟨rfl, grown_on hn hc⟩)
  · have h1 : ¬ op < 1 := by omega
    go_enter Try.func4, Try.ntmps4
    go_wp2_with (first | (go_at_call 7; (with_reducible refine (HK _).mono ?_); rintro e w' ⟨rfl, rfl⟩) | (go_at_call 21; (with_reducible refine (HN _).mono ?_); rintro e w' ⟨rfl, hn⟩) | (go_at_call 24; (with_reducible refine (HR _).mono ?_); rintro e w' ⟨rfl, rfl⟩) | (go_at_call 23; (with_reducible refine (HD _).mono ?_); rintro e w' ⟨rfl, rfl⟩) | (go_at_call 22; (with_reducible refine (HC _).mono ?_); rintro e w' ⟨rfl, hc⟩) | fail)
    all_goals (go_ret; exact ⟨rfl, grown_on hn hc⟩)
set_option maxRecDepth 100000 in
set_option maxHeartbeats 4000000 in
theorem compares_1  (a b : Int) (w : World) :
    Calls Try.prog 4 #[.int .i64 1, .int .i64 a, .int .i64 b] w fun e w' => e = .returned (.bool true) ∧ Grown w w' := by
  have HK := fun w => kn_any w
  have HN := fun w => nnot_1 w
  have HR := fun w => rnot_1 w
  have HC := fun w => ncmp_1 a b w
  have HD := fun w => rcmp_1 a b w
  have HE := fun w => ncmp_6 a b w
  have hx : (decide (b ≤ a) = !decide (a < b)) := by rw [← decide_not]; exact decide_eq_decide.mpr (by omega)
  obtain ⟨x, hX⟩ : ∃ x, (decide (a < b)) = x := ⟨_, rfl⟩
  rw [hX] at HC HD hx
  rw [hx] at HE
  clear hx hX
  cases x
  all_goals
    go_enter Try.func4, Try.ntmps4
    go_wp2_with (first | (go_at_call 7; (with_reducible refine (HK _).mono ?_); rintro e w' ⟨rfl, rfl⟩) | (go_at_call 21; (with_reducible refine (HN _).mono ?_); rintro e w' ⟨rfl, hn⟩) | (go_at_call 24; (with_reducible refine (HR _).mono ?_); rintro e w' ⟨rfl, rfl⟩) | (go_at_call 23; (with_reducible refine (HD _).mono ?_); rintro e w' ⟨rfl, rfl⟩) | (go_at_call_of 22 (Value.int .i64 1); (with_reducible refine (HC _).mono ?_); rintro e w' ⟨rfl, hc⟩) | (go_at_call_of 22 (Value.int .i64 6); (with_reducible refine (HE _).mono ?_); rintro e w' ⟨rfl, he⟩) | fail)
    all_goals (go_ret; exact ⟨rfl, grown_on hn (grown_on (by assumption) (grown_on he hc))⟩)
set_option maxRecDepth 100000 in
set_option maxHeartbeats 4000000 in
theorem compares_2  (a b : Int) (w : World) :
    Calls Try.prog 4 #[.int .i64 2, .int .i64 a, .int .i64 b] w fun e w' => e = .returned (.bool true) ∧ Grown w w' := by
  have HK := fun w => kn_any w
  have HN := fun w => nnot_2 w
  have HR := fun w => rnot_2 w
  have HC := fun w => ncmp_2 a b w
  have HD := fun w => rcmp_2 a b w
  have HE := fun w => ncmp_5 a b w
  have hx : (decide (b < a) = !decide (a ≤ b)) := by rw [← decide_not]; exact decide_eq_decide.mpr (by omega)
  obtain ⟨x, hX⟩ : ∃ x, (decide (a ≤ b)) = x := ⟨_, rfl⟩
  rw [hX] at HC HD hx
  rw [hx] at HE
  clear hx hX
  cases x
  all_goals
    go_enter Try.func4, Try.ntmps4
    go_wp2_with (first | (go_at_call 7; (with_reducible refine (HK _).mono ?_); rintro e w' ⟨rfl, rfl⟩) | (go_at_call 21; (with_reducible refine (HN _).mono ?_); rintro e w' ⟨rfl, hn⟩) | (go_at_call 24; (with_reducible refine (HR _).mono ?_); rintro e w' ⟨rfl, rfl⟩) | (go_at_call 23; (with_reducible refine (HD _).mono ?_); rintro e w' ⟨rfl, rfl⟩) | (go_at_call_of 22 (Value.int .i64 2); (with_reducible refine (HC _).mono ?_); rintro e w' ⟨rfl, hc⟩) | (go_at_call_of 22 (Value.int .i64 5); (with_reducible refine (HE _).mono ?_); rintro e w' ⟨rfl, he⟩) | fail)
    all_goals (go_ret; exact ⟨rfl, grown_on hn (grown_on (by assumption) (grown_on he hc))⟩)
set_option maxRecDepth 100000 in
set_option maxHeartbeats 4000000 in
theorem compares_3  (a b : Int) (w : World) :
    Calls Try.prog 4 #[.int .i64 3, .int .i64 a, .int .i64 b] w fun e w' => e = .returned (.bool true) ∧ Grown w w' := by
  have HK := fun w => kn_any w
  have HN := fun w => nnot_3 w
  have HR := fun w => rnot_3 w
  have HC := fun w => ncmp_3 a b w
  have HD := fun w => rcmp_3 a b w
  have HE := fun w => ncmp_4 a b w
  have hx : ((a != b) = !(a == b)) := by first | rfl | simp [bne]
  obtain ⟨x, hX⟩ : ∃ x, (a == b) = x := ⟨_, rfl⟩
  rw [hX] at HC HD hx
  rw [hx] at HE
  clear hx hX
  cases x
  all_goals
    go_enter Try.func4, Try.ntmps4
    go_wp2_with (first | (go_at_call 7; (with_reducible refine (HK _).mono ?_); rintro e w' ⟨rfl, rfl⟩) | (go_at_call 21; (with_reducible refine (HN _).mono ?_); rintro e w' ⟨rfl, hn⟩) | (go_at_call 24; (with_reducible refine (HR _).mono ?_); rintro e w' ⟨rfl, rfl⟩) | (go_at_call 23; (with_reducible refine (HD _).mono ?_); rintro e w' ⟨rfl, rfl⟩) | (go_at_call_of 22 (Value.int .i64 3); (with_reducible refine (HC _).mono ?_); rintro e w' ⟨rfl, hc⟩) | (go_at_call_of 22 (Value.int .i64 4); (with_reducible refine (HE _).mono ?_); rintro e w' ⟨rfl, he⟩) | fail)
    all_goals (go_ret; exact ⟨rfl, grown_on hn (grown_on (by assumption) (grown_on he hc))⟩)
set_option maxRecDepth 100000 in
set_option maxHeartbeats 4000000 in
theorem compares_4  (a b : Int) (w : World) :
    Calls Try.prog 4 #[.int .i64 4, .int .i64 a, .int .i64 b] w fun e w' => e = .returned (.bool true) ∧ Grown w w' := by
  have HK := fun w => kn_any w
  have HN := fun w => nnot_4 w
  have HR := fun w => rnot_4 w
  have HC := fun w => ncmp_4 a b w
  have HD := fun w => rcmp_4 a b w
  have HE := fun w => ncmp_3 a b w
  have hx : ((a == b) = !(a != b)) := by first | rfl | simp [bne]
  obtain ⟨x, hX⟩ : ∃ x, (a != b) = x := ⟨_, rfl⟩
  rw [hX] at HC HD hx
  rw [hx] at HE
  clear hx hX
  cases x
  all_goals
    go_enter Try.func4, Try.ntmps4
    go_wp2_with (first | (go_at_call 7; (with_reducible refine (HK _).mono ?_); rintro e w' ⟨rfl, rfl⟩) | (go_at_call 21; (with_reducible refine (HN _).mono ?_); rintro e w' ⟨rfl, hn⟩) | (go_at_call 24; (with_reducible refine (HR _).mono ?_); rintro e w' ⟨rfl, rfl⟩) | (go_at_call 23; (with_reducible refine (HD _).mono ?_); rintro e w' ⟨rfl, rfl⟩) | (go_at_call_of 22 (Value.int .i64 4); (with_reducible refine (HC _).mono ?_); rintro e w' ⟨rfl, hc⟩) | (go_at_call_of 22 (Value.int .i64 3); (with_reducible refine (HE _).mono ?_); rintro e w' ⟨rfl, he⟩) | fail)
    all_goals (go_ret; exact ⟨rfl, grown_on hn (grown_on (by assumption) (grown_on he hc))⟩)
set_option maxRecDepth 100000 in
set_option maxHeartbeats 4000000 in
theorem compares_5  (a b : Int) (w : World) :
    Calls Try.prog 4 #[.int .i64 5, .int .i64 a, .int .i64 b] w fun e w' => e = .returned (.bool true) ∧ Grown w w' := by
  have HK := fun w => kn_any w
  have HN := fun w => nnot_5 w
  have HR := fun w => rnot_5 w
  have HC := fun w => ncmp_5 a b w
  have HD := fun w => rcmp_5 a b w
  have HE := fun w => ncmp_2 a b w
  have hx : (decide (a ≤ b) = !decide (b < a)) := by rw [← decide_not]; exact decide_eq_decide.mpr (by omega)
  obtain ⟨x, hX⟩ : ∃ x, (decide (b < a)) = x := ⟨_, rfl⟩
  rw [hX] at HC HD hx
  rw [hx] at HE
  clear hx hX
  cases x
  all_goals
    go_enter Try.func4, Try.ntmps4
    go_wp2_with (first | (go_at_call 7; (with_reducible refine (HK _).mono ?_); rintro e w' ⟨rfl, rfl⟩) | (go_at_call 21; (with_reducible refine (HN _).mono ?_); rintro e w' ⟨rfl, hn⟩) | (go_at_call 24; (with_reducible refine (HR _).mono ?_); rintro e w' ⟨rfl, rfl⟩) | (go_at_call 23; (with_reducible refine (HD _).mono ?_); rintro e w' ⟨rfl, rfl⟩) | (go_at_call_of 22 (Value.int .i64 5); (with_reducible refine (HC _).mono ?_); rintro e w' ⟨rfl, hc⟩) | (go_at_call_of 22 (Value.int .i64 2); (with_reducible refine (HE _).mono ?_); rintro e w' ⟨rfl, he⟩) | fail)
    all_goals (go_ret; exact ⟨rfl, grown_on hn (grown_on (by assumption) (grown_on he hc))⟩)
set_option maxRecDepth 100000 in
set_option maxHeartbeats 4000000 in
theorem compares_6  (a b : Int) (w : World) :
    Calls Try.prog 4 #[.int .i64 6, .int .i64 a, .int .i64 b] w fun e w' => e = .returned (.bool true) ∧ Grown w w' := by
  have HK := fun w => kn_any w
  have HN := fun w => nnot_6 w
  have HR := fun w => rnot_6 w
  have HC := fun w => ncmp_6 a b w
  have HD := fun w => rcmp_6 a b w
  have HE := fun w => ncmp_1 a b w
  have hx : (decide (a < b) = !decide (b ≤ a)) := by rw [← decide_not]; exact decide_eq_decide.mpr (by omega)
  obtain ⟨x, hX⟩ : ∃ x, (decide (b ≤ a)) = x := ⟨_, rfl⟩
  rw [hX] at HC HD hx
  rw [hx] at HE
  clear hx hX
  cases x
  all_goals
    go_enter Try.func4, Try.ntmps4
    go_wp2_with (first | (go_at_call 7; (with_reducible refine (HK _).mono ?_); rintro e w' ⟨rfl, rfl⟩) | (go_at_call 21; (with_reducible refine (HN _).mono ?_); rintro e w' ⟨rfl, hn⟩) | (go_at_call 24; (with_reducible refine (HR _).mono ?_); rintro e w' ⟨rfl, rfl⟩) | (go_at_call 23; (with_reducible refine (HD _).mono ?_); rintro e w' ⟨rfl, rfl⟩) | (go_at_call_of 22 (Value.int .i64 6); (with_reducible refine (HC _).mono ?_); rintro e w' ⟨rfl, hc⟩) | (go_at_call_of 22 (Value.int .i64 1); (with_reducible refine (HE _).mono ?_); rintro e w' ⟨rfl, he⟩) | fail)
    all_goals (go_ret; exact ⟨rfl, grown_on hn (grown_on (by assumption) (grown_on he hc))⟩)
theorem compares_any (op a b : Int) (w : World) :
    Calls Try.prog 4 #[.int .i64 op, .int .i64 a, .int .i64 b] w fun e w' => e = .returned (.bool true) ∧ Grown w w' := by
  by_cases h0 : op < 1 ∨ 6 < op
  · exact compares_0 op h0 a b w
  have h : op = 1 ∨ op = 2 ∨ op = 3 ∨ op = 4 ∨ op = 5 ∨ op = 6 := by omega
  rcases h with rfl | rfl | rfl | rfl | rfl | rfl
  · exact compares_1 a b w
  · exact compares_2 a b w
  · exact compares_3 a b w
  · exact compares_4 a b w
  · exact compares_5 a b w
  · exact compares_6 a b w
end Go.Proofs.Ytebhmbejpfmbgaa
