/-
  Layer 7's comparisons, and NumCompares' walk.
-/
import Derived.Test.YtbhbmoppipohjaaGreatDoorShelf
import Derived.Test.YtbhbmoppipohjaaGreatDoorRows
import Derived.WalkKit
import Derived.ProofKit
import Derived.OpenShut
import Derived.Deep.RegionWith
import Derived.Laws.Rows
/-
  Layer 7's arithmetic, plain: what the exact answer is (tellV), and the contracts of num's and the document's Neg, Add, Sub, Div, Rem.
-/
namespace Go.Proofs.YtbhbmoppipohjaaGreatDoor
open Go Go.RowKit

/-- x is an int64. -/
def fitsI (x : Int) : Prop := -9223372036854775808 ≤ x ∧ x ≤ 9223372036854775807
instance (x : Int) : Decidable (fitsI x) := by unfold fitsI; infer_instance
/-- What is told of a number that is reckoned exactly: it, or 0 and 'over'. -/
def tellV (x : Int) : Value := if fitsI x then .tuple #[.int .i64 x, .int .i64 0] else .tuple #[.int .i64 0, .int .i64 1]
theorem tell_ok {x : Int} (h : fitsI x) : tellV x = .tuple #[.int .i64 x, .int .i64 0] := by unfold tellV; rw [if_pos h]
theorem tell_over {x : Int} (h : ¬ fitsI x) : tellV x = .tuple #[.int .i64 0, .int .i64 1] := by unfold tellV; rw [if_neg h]
theorem tell_is {x s : Int} (h : fitsI x) (e : s = x) : Ending.returned (.tuple #[.int .i64 s, .int .i64 0]) = Ending.returned (tellV x) := by rw [tell_ok h, e]
theorem tell_not {x : Int} (h : ¬ fitsI x) : Ending.returned (.tuple #[.int .i64 0, .int .i64 1]) = Ending.returned (tellV x) := by rw [tell_over h]
theorem fits_wf {x : Int} (h : (Lit.int .i64 x).wf = true) : fitsI x := by
  simp [Lit.wf, IntKind.min, IntKind.max, IntKind.signed, IntKind.bits] at h
  exact h
theorem fits_wrap {x : Int} (h : fitsI x) : IntKind.i64.wrap x = x := by
  unfold fitsI at h
  rw [IntKind.wrap_i64]
  omega
/-- A quotient, a rest: what is told. -/
def divV (a b : Int) : Value := if b = 0 then .tuple #[.int .i64 0, .int .i64 2] else tellV (a.tdiv b)
def remV (a b : Int) : Value := if b = 0 then .tuple #[.int .i64 0, .int .i64 2] else if a = -9223372036854775808 ∧ b = -1 then .tuple #[.int .i64 0, .int .i64 1] else .tuple #[.int .i64 (a.tmod b), .int .i64 0]
theorem tdiv_fits {a b : Int} (ha : fitsI a) (hb : b ≠ 0) (hx : ¬ (a = -9223372036854775808 ∧ b = -1)) : fitsI (a.tdiv b) := by
  unfold fitsI at *
  by_cases h1 : b = 1
  · subst h1; rw [Int.tdiv_one]; exact ha
  by_cases h2 : b = -1
  · subst h2; rw [Int.tdiv_neg, Int.tdiv_one]; omega
  have h := Int.natAbs_tdiv a b
  have h3 : a.natAbs.div b.natAbs ≤ a.natAbs / 2 := Nat.div_le_div_left (by omega) (by omega)
  omega
theorem tmod_facts (a b : Int) : (a.tmod b).natAbs ≤ a.natAbs ∧ (0 ≤ a → 0 ≤ a.tmod b) ∧ (a ≤ 0 → a.tmod b ≤ 0) := by
  refine ⟨by rw [Int.natAbs_tmod]; exact Nat.mod_le _ _, fun h => Int.tmod_nonneg b h, fun h => ?_⟩
  have h2 := Int.tmod_nonneg b (a := -a) (by omega)
  rw [Int.neg_tmod] at h2
  omega
theorem back_mul (a b : Int) : a.tdiv b * b = a - a.tmod b := by
  have := Int.tdiv_mul_add_tmod a b
  omega
theorem mul_back {a b c : Int} (hb : b ≠ 0) (hf : fitsI b) (hx : (a * b + 9223372036854775808) % 18446744073709551616 - 9223372036854775808 = c) (hc : c.tdiv b = a) : fitsI (a * b) := by
  have h1 := back_mul c b
  have h2 : (c.tmod b).natAbs < b.natAbs := by rw [Int.natAbs_tmod]; exact Nat.mod_lt _ (by omega)
  rw [hc] at h1
  obtain ⟨x, e⟩ : ∃ x, a * b = x := ⟨_, rfl⟩
  rw [e] at h1 hx ⊢
  unfold fitsI at *
  omega
theorem tdiv_over : ¬ fitsI ((-9223372036854775808 : Int).tdiv (-1)) := by decide

/-- What goes wrong at a quotient. -/
def prt (a b : Int) : Int := if b = 0 then 2 else if a = -9223372036854775808 ∧ b = -1 then 1 else 0
end Go.Proofs.YtbhbmoppipohjaaGreatDoor

/-
  Layer 7's products: the contracts of num's and the document's Mul.
-/
namespace Go.Proofs.YtbhbmoppipohjaaGreatDoor
open Go Go.RowKit

theorem tell_form (x : Int) : ∃ v e : Int, tellV x = .tuple #[.int .i64 v, .int .i64 e] := by
  unfold tellV
  split <;> exact ⟨_, _, rfl⟩
theorem sides (a b : Int) : a * b = if (decide (a < 0) != decide (b < 0)) = true then -(((a.natAbs * b.natAbs : Nat)) : Int) else ((a.natAbs * b.natAbs : Nat) : Int) := by
  rw [Int.natCast_mul]
  by_cases ha : a < 0 <;> by_cases hb : b < 0
  · have h1 : (a.natAbs : Int) = -a := by omega
    have h2 : (b.natAbs : Int) = -b := by omega
    rw [h1, h2]; simp [ha, hb, Int.neg_mul, Int.mul_neg]
  · have h1 : (a.natAbs : Int) = -a := by omega
    have h2 : (b.natAbs : Int) = b := by omega
    rw [h1, h2]; simp [ha, hb, Int.neg_mul]
  · have h1 : (a.natAbs : Int) = a := by omega
    have h2 : (b.natAbs : Int) = -b := by omega
    rw [h1, h2]; simp [ha, hb, Int.mul_neg]
  · have h1 : (a.natAbs : Int) = a := by omega
    have h2 : (b.natAbs : Int) = b := by omega
    rw [h1, h2]; simp [ha, hb]
end Go.Proofs.YtbhbmoppipohjaaGreatDoor

/-
  Layer 7's laws, walked: NumExact, NumProducts, NumLaws.
-/
namespace Go.Proofs.YtbhbmoppipohjaaGreatDoor
open Go Go.RowKit

theorem div_form (a b : Int) : ∃ v e : Int, divV a b = .tuple #[.int .i64 v, .int .i64 e] := by
  unfold divV
  split
  · exact ⟨_, _, rfl⟩
  · exact tell_form _
theorem rem_form (a b : Int) : ∃ v e : Int, remV a b = .tuple #[.int .i64 v, .int .i64 e] := by
  unfold remV
  repeat' split
  all_goals exact ⟨_, _, rfl⟩

end Go.Proofs.YtbhbmoppipohjaaGreatDoor

/-
  Layer 7's comparisons, and NumCompares' walk.
-/
namespace Go.Proofs.YtbhbmoppipohjaaGreatDoor
open Go Go.RowKit

/-- The comparisons of all ops, as they are laid. -/
def compsV : Array Value := #[Value.func (Fn.func 157) #[] #[], Value.int IntKind.i64 0, Value.func (Fn.func 158) #[] #[], Value.int IntKind.i64 6, Value.func (Fn.func 159) #[] #[], Value.int IntKind.i64 5, Value.func (Fn.func 160) #[] #[], Value.int IntKind.i64 4, Value.func (Fn.func 161) #[] #[], Value.int IntKind.i64 3, Value.func (Fn.func 162) #[] #[], Value.int IntKind.i64 2, Value.func (Fn.func 163) #[] #[], Value.int IntKind.i64 1]

set_option maxRecDepth 100000 in
set_option maxHeartbeats 4000000 in
theorem all_any (w : World) :
    Calls Tryz.prog 152 #[] w fun e w' => e = .returned (.agg compsV) ∧ ∃ t, w' = w.alloc (.cells compsV t) := by
  have hsf := fun (a : Addr) (k : Nat) (w : World) => run_store Tryz.prog w a (.func (.func k) #[] #[]) .plain rfl
  go_enter Tryz.func152, Tryz.ntmps152
  go_wp2
  refine bodyPost_ret (results_cell_row rfl _ _ w.heap.size _ compsV _ _ rfl (heap_alloc_new w _) rfl rfl (by kernel_rfl)) rfl ?_
  exact ⟨rfl, _, rfl⟩

theorem heap_two (w : World) (A B : Obj) : ((w.alloc A).alloc B).heap[w.heap.size]? = some A := by
  rw [heap_alloc_old _ _ (by show w.heap.size < (w.heap.push A).size; simp)]
  exact heap_alloc_new w A

set_option maxRecDepth 100000 in
set_option maxHeartbeats 4000000 in
theorem of_0 (op : Int) (h0 : op < 1 ∨ 6 < op) (w : World) :
    Calls Tryz.prog 139 #[.int .i64 op] w fun e w' => e = .returned (.agg #[.func (.func 157) #[] #[], .int .i64 0]) ∧ Grown w w' := by
  have HA := fun w => all_any w
  have hsf := fun (a : Addr) (k : Nat) (w : World) => run_store Tryz.prog w a (.func (.func k) #[] #[]) .plain rfl
  have HI : ∀ w, (Instr.index 218 (Value.agg compsV) (Value.int IntKind.i64 0)).run Tryz.prog w = .ok (.agg #[.func (.func 157) #[] #[], .int .i64 0]) w := fun w => by rfl
  rcases h0 with h0 | h0
  · go_enter Tryz.func139, Tryz.ntmps139
    go_wp2_with (first | (go_at_call 152; (with_reducible refine (HA _).mono ?_); rintro e w' ⟨rfl, t, rfl⟩) | fail)
    refine bodyPost_ret (results_cell_row rfl _ _ w.heap.size _ #[.func (.func 157) #[] #[], .int .i64 0] _ _ rfl (heap_two w _ _) rfl rfl (by kernel_rfl)) rfl ?_
    exact ⟨rfl, ((Grown.refl w).alloc _ _).alloc _ _⟩
  · have h1 : ¬ op < 1 := by omega
    go_enter Tryz.func139, Tryz.ntmps139
    go_wp2_with (first | (go_at_call 152; (with_reducible refine (HA _).mono ?_); rintro e w' ⟨rfl, t, rfl⟩) | fail)
    refine bodyPost_ret (results_cell_row rfl _ _ w.heap.size _ #[.func (.func 157) #[] #[], .int .i64 0] _ _ rfl (heap_two w _ _) rfl rfl (by kernel_rfl)) rfl ?_
    exact ⟨rfl, ((Grown.refl w).alloc _ _).alloc _ _⟩
set_option maxRecDepth 100000 in
set_option maxHeartbeats 4000000 in
theorem of_1  (w : World) :
    Calls Tryz.prog 139 #[.int .i64 1] w fun e w' => e = .returned (.agg #[.func (.func 158) #[] #[], .int .i64 6]) ∧ Grown w w' := by
  have HA := fun w => all_any w
  have hsf := fun (a : Addr) (k : Nat) (w : World) => run_store Tryz.prog w a (.func (.func k) #[] #[]) .plain rfl
  have HI : ∀ w, (Instr.index 218 (Value.agg compsV) (Value.int IntKind.i64 1)).run Tryz.prog w = .ok (.agg #[.func (.func 158) #[] #[], .int .i64 6]) w := fun w => by rfl
  go_enter Tryz.func139, Tryz.ntmps139
  go_wp2_with (first | (go_at_call 152; (with_reducible refine (HA _).mono ?_); rintro e w' ⟨rfl, t, rfl⟩) | fail)
  refine bodyPost_ret (results_cell_row rfl _ _ w.heap.size _ #[.func (.func 158) #[] #[], .int .i64 6] _ _ rfl (heap_two w _ _) rfl rfl (by kernel_rfl)) rfl ?_
  exact ⟨rfl, ((Grown.refl w).alloc _ _).alloc _ _⟩
set_option maxRecDepth 100000 in
set_option maxHeartbeats 4000000 in
theorem of_2  (w : World) :
    Calls Tryz.prog 139 #[.int .i64 2] w fun e w' => e = .returned (.agg #[.func (.func 159) #[] #[], .int .i64 5]) ∧ Grown w w' := by
  have HA := fun w => all_any w
  have hsf := fun (a : Addr) (k : Nat) (w : World) => run_store Tryz.prog w a (.func (.func k) #[] #[]) .plain rfl
  have HI : ∀ w, (Instr.index 218 (Value.agg compsV) (Value.int IntKind.i64 2)).run Tryz.prog w = .ok (.agg #[.func (.func 159) #[] #[], .int .i64 5]) w := fun w => by rfl
  go_enter Tryz.func139, Tryz.ntmps139
  go_wp2_with (first | (go_at_call 152; (with_reducible refine (HA _).mono ?_); rintro e w' ⟨rfl, t, rfl⟩) | fail)
  refine bodyPost_ret (results_cell_row rfl _ _ w.heap.size _ #[.func (.func 159) #[] #[], .int .i64 5] _ _ rfl (heap_two w _ _) rfl rfl (by kernel_rfl)) rfl ?_
  exact ⟨rfl, ((Grown.refl w).alloc _ _).alloc _ _⟩
set_option maxRecDepth 100000 in
set_option maxHeartbeats 4000000 in
theorem of_3  (w : World) :
    Calls Tryz.prog 139 #[.int .i64 3] w fun e w' => e = .returned (.agg #[.func (.func 160) #[] #[], .int .i64 4]) ∧ Grown w w' := by
  have HA := fun w => all_any w
  have hsf := fun (a : Addr) (k : Nat) (w : World) => run_store Tryz.prog w a (.func (.func k) #[] #[]) .plain rfl
  have HI : ∀ w, (Instr.index 218 (Value.agg compsV) (Value.int IntKind.i64 3)).run Tryz.prog w = .ok (.agg #[.func (.func 160) #[] #[], .int .i64 4]) w := fun w => by rfl
  go_enter Tryz.func139, Tryz.ntmps139
  go_wp2_with (first | (go_at_call 152; (with_reducible refine (HA _).mono ?_); rintro e w' ⟨rfl, t, rfl⟩) | fail)
  refine bodyPost_ret (results_cell_row rfl _ _ w.heap.size _ #[.func (.func 160) #[] #[], .int .i64 4] _ _ rfl (heap_two w _ _) rfl rfl (by kernel_rfl)) rfl ?_
  exact ⟨rfl, ((Grown.refl w).alloc _ _).alloc _ _⟩
set_option maxRecDepth 100000 in
set_option maxHeartbeats 4000000 in
theorem of_4  (w : World) :
    Calls Tryz.prog 139 #[.int .i64 4] w fun e w' => e = .returned (.agg #[.func (.func 161) #[] #[], .int .i64 3]) ∧ Grown w w' := by
  have HA := fun w => all_any w
  have hsf := fun (a : Addr) (k : Nat) (w : World) => run_store Tryz.prog w a (.func (.func k) #[] #[]) .plain rfl
  have HI : ∀ w, (Instr.index 218 (Value.agg compsV) (Value.int IntKind.i64 4)).run Tryz.prog w = .ok (.agg #[.func (.func 161) #[] #[], .int .i64 3]) w := fun w => by rfl
  go_enter Tryz.func139, Tryz.ntmps139
  go_wp2_with (first | (go_at_call 152; (with_reducible refine (HA _).mono ?_); rintro e w' ⟨rfl, t, rfl⟩) | fail)
  refine bodyPost_ret (results_cell_row rfl _ _ w.heap.size _ #[.func (.func 161) #[] #[], .int .i64 3] _ _ rfl (heap_two w _ _) rfl rfl (by kernel_rfl)) rfl ?_
  exact ⟨rfl, ((Grown.refl w).alloc _ _).alloc _ _⟩
set_option maxRecDepth 100000 in
set_option maxHeartbeats 4000000 in
theorem of_5  (w : World) :
    Calls Tryz.prog 139 #[.int .i64 5] w fun e w' => e = .returned (.agg #[.func (.func 162) #[] #[], .int .i64 2]) ∧ Grown w w' := by
  have HA := fun w => all_any w
  have hsf := fun (a : Addr) (k : Nat) (w : World) => run_store Tryz.prog w a (.func (.func k) #[] #[]) .plain rfl
  have HI : ∀ w, (Instr.index 218 (Value.agg compsV) (Value.int IntKind.i64 5)).run Tryz.prog w = .ok (.agg #[.func (.func 162) #[] #[], .int .i64 2]) w := fun w => by rfl
  go_enter Tryz.func139, Tryz.ntmps139
  go_wp2_with (first | (go_at_call 152; (with_reducible refine (HA _).mono ?_); rintro e w' ⟨rfl, t, rfl⟩) | fail)
  refine bodyPost_ret (results_cell_row rfl _ _ w.heap.size _ #[.func (.func 162) #[] #[], .int .i64 2] _ _ rfl (heap_two w _ _) rfl rfl (by kernel_rfl)) rfl ?_
  exact ⟨rfl, ((Grown.refl w).alloc _ _).alloc _ _⟩
set_option maxRecDepth 100000 in
set_option maxHeartbeats 4000000 in
theorem of_6  (w : World) :
    Calls Tryz.prog 139 #[.int .i64 6] w fun e w' => e = .returned (.agg #[.func (.func 163) #[] #[], .int .i64 1]) ∧ Grown w w' := by
  have HA := fun w => all_any w
  have hsf := fun (a : Addr) (k : Nat) (w : World) => run_store Tryz.prog w a (.func (.func k) #[] #[]) .plain rfl
  have HI : ∀ w, (Instr.index 218 (Value.agg compsV) (Value.int IntKind.i64 6)).run Tryz.prog w = .ok (.agg #[.func (.func 163) #[] #[], .int .i64 1]) w := fun w => by rfl
  go_enter Tryz.func139, Tryz.ntmps139
  go_wp2_with (first | (go_at_call 152; (with_reducible refine (HA _).mono ?_); rintro e w' ⟨rfl, t, rfl⟩) | fail)
  refine bodyPost_ret (results_cell_row rfl _ _ w.heap.size _ #[.func (.func 163) #[] #[], .int .i64 1] _ _ rfl (heap_two w _ _) rfl rfl (by kernel_rfl)) rfl ?_
  exact ⟨rfl, ((Grown.refl w).alloc _ _).alloc _ _⟩

/-- Whether an op holds of two numbers. -/
def cmpB (op a b : Int) : Bool :=
  if op = 1 then decide (a < b) else if op = 2 then decide (a ≤ b) else if op = 3 then a == b else if op = 4 then a != b else if op = 5 then decide (b < a) else if op = 6 then decide (b ≤ a) else false
/-- The op that holds just where it doesn't. -/
def notI (op : Int) : Int := if 1 ≤ op ∧ op ≤ 6 then 7 - op else 0
theorem cmp_out {op : Int} (h0 : op < 1 ∨ 6 < op) (a b : Int) : cmpB op a b = false := by
  unfold cmpB
  rw [if_neg (by omega), if_neg (by omega), if_neg (by omega), if_neg (by omega), if_neg (by omega), if_neg (by omega)]
theorem grown_on {w1 w2 w3 : World} (h : Grown w1 w2) (g : Grown w2 w3) : Grown w1 w3 :=
  ⟨World.keptBut_trans h.1 g.1, fun a => (g.2.1 a).trans (h.2.1 a), Nat.le_trans h.2.2 g.2.2⟩
theorem not_out {op : Int} (h0 : op < 1 ∨ 6 < op) : notI op = 0 := by
  unfold notI
  rw [if_neg (by omega)]
set_option maxRecDepth 100000 in
set_option maxHeartbeats 4000000 in
theorem clos_0 (a b : Int) (w : World) :
    Calls Tryz.prog 157 #[.int .i64 a, .int .i64 b] w fun e w' => e = .returned (.bool (false)) ∧ w' = w := by
  go_enter Tryz.func157, Tryz.ntmps157
  go_wp2
  all_goals (go_ret; exact ⟨rfl, rfl⟩)
set_option maxRecDepth 100000 in
set_option maxHeartbeats 4000000 in
theorem clos_1 (a b : Int) (w : World) :
    Calls Tryz.prog 158 #[.int .i64 a, .int .i64 b] w fun e w' => e = .returned (.bool (decide (a < b))) ∧ w' = w := by
  go_enter Tryz.func158, Tryz.ntmps158
  go_wp2
  all_goals (go_ret; exact ⟨rfl, rfl⟩)
set_option maxRecDepth 100000 in
set_option maxHeartbeats 4000000 in
theorem clos_2 (a b : Int) (w : World) :
    Calls Tryz.prog 159 #[.int .i64 a, .int .i64 b] w fun e w' => e = .returned (.bool (decide (a ≤ b))) ∧ w' = w := by
  go_enter Tryz.func159, Tryz.ntmps159
  go_wp2
  all_goals (go_ret; exact ⟨rfl, rfl⟩)
set_option maxRecDepth 100000 in
set_option maxHeartbeats 4000000 in
theorem clos_3 (a b : Int) (w : World) :
    Calls Tryz.prog 160 #[.int .i64 a, .int .i64 b] w fun e w' => e = .returned (.bool (a == b)) ∧ w' = w := by
  go_enter Tryz.func160, Tryz.ntmps160
  go_wp2
  all_goals (go_ret; exact ⟨rfl, rfl⟩)
set_option maxRecDepth 100000 in
set_option maxHeartbeats 4000000 in
theorem clos_4 (a b : Int) (w : World) :
    Calls Tryz.prog 161 #[.int .i64 a, .int .i64 b] w fun e w' => e = .returned (.bool (a != b)) ∧ w' = w := by
  go_enter Tryz.func161, Tryz.ntmps161
  go_wp2
  all_goals (go_ret; exact ⟨rfl, rfl⟩)
set_option maxRecDepth 100000 in
set_option maxHeartbeats 4000000 in
theorem clos_5 (a b : Int) (w : World) :
    Calls Tryz.prog 162 #[.int .i64 a, .int .i64 b] w fun e w' => e = .returned (.bool (decide (b < a))) ∧ w' = w := by
  go_enter Tryz.func162, Tryz.ntmps162
  go_wp2
  all_goals (go_ret; exact ⟨rfl, rfl⟩)
set_option maxRecDepth 100000 in
set_option maxHeartbeats 4000000 in
theorem clos_6 (a b : Int) (w : World) :
    Calls Tryz.prog 163 #[.int .i64 a, .int .i64 b] w fun e w' => e = .returned (.bool (decide (b ≤ a))) ∧ w' = w := by
  go_enter Tryz.func163, Tryz.ntmps163
  go_wp2
  all_goals (go_ret; exact ⟨rfl, rfl⟩)
set_option maxRecDepth 100000 in
set_option maxHeartbeats 4000000 in
theorem nnot_0 (op : Int) (h0 : op < 1 ∨ 6 < op) (w : World) :
    Calls Tryz.prog 116 #[.int .i64 op] w fun e w' => e = .returned (.int .i64 0) ∧ Grown w w' := by
  have HC := fun w => of_0 op h0 w
  have HF : ∀ (x y : Value) (w : World), (Instr.field 201 (.agg #[x, y]) 1).run Tryz.prog w = .ok y w := fun x y w => by rfl
  go_enter Tryz.func116, Tryz.ntmps116
  go_wp2_with (first | (go_at_call 139; (with_reducible refine (HC _).mono ?_); rintro e w' ⟨rfl, hg⟩) | fail)
  all_goals (go_ret; exact ⟨rfl, hg⟩)
set_option maxRecDepth 100000 in
set_option maxHeartbeats 4000000 in
theorem rnot_0 (op : Int) (h0 : op < 1 ∨ 6 < op) (w : World) :
    Calls Tryz.prog 57 #[.int .i64 op] w fun e w' => e = .returned (.int .i64 0) ∧ w' = w := by
  have e1 : (op == 1) = false := by simp; omega
  have e2 : (op == 2) = false := by simp; omega
  have e3 : (op == 3) = false := by simp; omega
  have e4 : (op == 4) = false := by simp; omega
  have e5 : (op == 5) = false := by simp; omega
  have e6 : (op == 6) = false := by simp; omega
  clear h0
  go_enter Tryz.func57, Tryz.ntmps57
  go_wp2
  all_goals (go_ret; exact ⟨rfl, rfl⟩)
set_option maxRecDepth 100000 in
set_option maxHeartbeats 4000000 in
theorem nnot_1  (w : World) :
    Calls Tryz.prog 116 #[.int .i64 1] w fun e w' => e = .returned (.int .i64 6) ∧ Grown w w' := by
  have HC := fun w => of_1 w
  have HF : ∀ (x y : Value) (w : World), (Instr.field 201 (.agg #[x, y]) 1).run Tryz.prog w = .ok y w := fun x y w => by rfl
  go_enter Tryz.func116, Tryz.ntmps116
  go_wp2_with (first | (go_at_call 139; (with_reducible refine (HC _).mono ?_); rintro e w' ⟨rfl, hg⟩) | fail)
  all_goals (go_ret; exact ⟨rfl, hg⟩)
set_option maxRecDepth 100000 in
set_option maxHeartbeats 4000000 in
theorem rnot_1  (w : World) :
    Calls Tryz.prog 57 #[.int .i64 1] w fun e w' => e = .returned (.int .i64 6) ∧ w' = w := by
  go_enter Tryz.func57, Tryz.ntmps57
  go_wp2
  all_goals (go_ret; exact ⟨rfl, rfl⟩)
set_option maxRecDepth 100000 in
set_option maxHeartbeats 4000000 in
theorem nnot_2  (w : World) :
    Calls Tryz.prog 116 #[.int .i64 2] w fun e w' => e = .returned (.int .i64 5) ∧ Grown w w' := by
  have HC := fun w => of_2 w
  have HF : ∀ (x y : Value) (w : World), (Instr.field 201 (.agg #[x, y]) 1).run Tryz.prog w = .ok y w := fun x y w => by rfl
  go_enter Tryz.func116, Tryz.ntmps116
  go_wp2_with (first | (go_at_call 139; (with_reducible refine (HC _).mono ?_); rintro e w' ⟨rfl, hg⟩) | fail)
  all_goals (go_ret; exact ⟨rfl, hg⟩)
set_option maxRecDepth 100000 in
set_option maxHeartbeats 4000000 in
theorem rnot_2  (w : World) :
    Calls Tryz.prog 57 #[.int .i64 2] w fun e w' => e = .returned (.int .i64 5) ∧ w' = w := by
  go_enter Tryz.func57, Tryz.ntmps57
  go_wp2
  all_goals (go_ret; exact ⟨rfl, rfl⟩)
set_option maxRecDepth 100000 in
set_option maxHeartbeats 4000000 in
theorem nnot_3  (w : World) :
    Calls Tryz.prog 116 #[.int .i64 3] w fun e w' => e = .returned (.int .i64 4) ∧ Grown w w' := by
  have HC := fun w => of_3 w
  have HF : ∀ (x y : Value) (w : World), (Instr.field 201 (.agg #[x, y]) 1).run Tryz.prog w = .ok y w := fun x y w => by rfl
  go_enter Tryz.func116, Tryz.ntmps116
  go_wp2_with (first | (go_at_call 139; (with_reducible refine (HC _).mono ?_); rintro e w' ⟨rfl, hg⟩) | fail)
  all_goals (go_ret; exact ⟨rfl, hg⟩)
set_option maxRecDepth 100000 in
set_option maxHeartbeats 4000000 in
theorem rnot_3  (w : World) :
    Calls Tryz.prog 57 #[.int .i64 3] w fun e w' => e = .returned (.int .i64 4) ∧ w' = w := by
  go_enter Tryz.func57, Tryz.ntmps57
  go_wp2
  all_goals (go_ret; exact ⟨rfl, rfl⟩)
set_option maxRecDepth 100000 in
set_option maxHeartbeats 4000000 in
theorem nnot_4  (w : World) :
    Calls Tryz.prog 116 #[.int .i64 4] w fun e w' => e = .returned (.int .i64 3) ∧ Grown w w' := by
  have HC := fun w => of_4 w
  have HF : ∀ (x y : Value) (w : World), (Instr.field 201 (.agg #[x, y]) 1).run Tryz.prog w = .ok y w := fun x y w => by rfl
  go_enter Tryz.func116, Tryz.ntmps116
  go_wp2_with (first | (go_at_call 139; (with_reducible refine (HC _).mono ?_); rintro e w' ⟨rfl, hg⟩) | fail)
  all_goals (go_ret; exact ⟨rfl, hg⟩)
set_option maxRecDepth 100000 in
set_option maxHeartbeats 4000000 in
theorem rnot_4  (w : World) :
    Calls Tryz.prog 57 #[.int .i64 4] w fun e w' => e = .returned (.int .i64 3) ∧ w' = w := by
  go_enter Tryz.func57, Tryz.ntmps57
  go_wp2
  all_goals (go_ret; exact ⟨rfl, rfl⟩)
set_option maxRecDepth 100000 in
set_option maxHeartbeats 4000000 in
theorem nnot_5  (w : World) :
    Calls Tryz.prog 116 #[.int .i64 5] w fun e w' => e = .returned (.int .i64 2) ∧ Grown w w' := by
  have HC := fun w => of_5 w
  have HF : ∀ (x y : Value) (w : World), (Instr.field 201 (.agg #[x, y]) 1).run Tryz.prog w = .ok y w := fun x y w => by rfl
  go_enter Tryz.func116, Tryz.ntmps116
  go_wp2_with (first | (go_at_call 139; (with_reducible refine (HC _).mono ?_); rintro e w' ⟨rfl, hg⟩) | fail)
  all_goals (go_ret; exact ⟨rfl, hg⟩)
set_option maxRecDepth 100000 in
set_option maxHeartbeats 4000000 in
theorem rnot_5  (w : World) :
    Calls Tryz.prog 57 #[.int .i64 5] w fun e w' => e = .returned (.int .i64 2) ∧ w' = w := by
  go_enter Tryz.func57, Tryz.ntmps57
  go_wp2
  all_goals (go_ret; exact ⟨rfl, rfl⟩)
set_option maxRecDepth 100000 in
set_option maxHeartbeats 4000000 in
theorem nnot_6  (w : World) :
    Calls Tryz.prog 116 #[.int .i64 6] w fun e w' => e = .returned (.int .i64 1) ∧ Grown w w' := by
  have HC := fun w => of_6 w
  have HF : ∀ (x y : Value) (w : World), (Instr.field 201 (.agg #[x, y]) 1).run Tryz.prog w = .ok y w := fun x y w => by rfl
  go_enter Tryz.func116, Tryz.ntmps116
  go_wp2_with (first | (go_at_call 139; (with_reducible refine (HC _).mono ?_); rintro e w' ⟨rfl, hg⟩) | fail)
  all_goals (go_ret; exact ⟨rfl, hg⟩)
set_option maxRecDepth 100000 in
set_option maxHeartbeats 4000000 in
theorem rnot_6  (w : World) :
    Calls Tryz.prog 57 #[.int .i64 6] w fun e w' => e = .returned (.int .i64 1) ∧ w' = w := by
  go_enter Tryz.func57, Tryz.ntmps57
  go_wp2
  all_goals (go_ret; exact ⟨rfl, rfl⟩)

end Go.Proofs.YtbhbmoppipohjaaGreatDoor
