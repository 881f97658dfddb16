/-
  Layer 7's arithmetic, plain: what the exact answer is (tellV), and the contracts of num's and the document's Neg, Add, Sub, Div, Rem.
-/
import Derived.Test.YtebhmbejpfmbgaaShelf
import Derived.Test.YtebhmbejpfmbgaaRows
import Derived.WalkKit
import Derived.ProofKit
import Derived.OpenShut
namespace Go.Proofs.Ytebhmbejpfmbgaa
open Go Go.RowKit

/-- x is an int64. -/
def fitsI (x : Int) : Prop := -9223372036854775808 ≤ x ∧ x ≤ 9223372036854775807
instance (x : Int) : Decidable (fitsI x) := by unfold fitsI; infer_instance
/-- What is told of a number that is reckoned exactly: it, or 0 and 'over'. -/
def tellV (x : Int) : Value := if fitsI x then .tuple #[.int .i64 x, .int .i64 0] else .tuple #[.int .i64 0, .int .i64 1]
theorem tell_ok {x : Int} (h : fitsI x) : tellV x = .tuple #[.int .i64 x, .int .i64 0] := by unfold tellV; rw [if_pos h]
theorem tell_over {x : Int} (h : ¬ fitsI x) : tellV x = .tuple #[.int .i64 0, .int .i64 1] := by unfold tellV; rw [if_neg h]
theorem tell_is {x s : Int} (h : fitsI x) (e : s = x) : Ending.returned (.tuple #[.int .i64 s, .int .i64 0]) = Ending.returned (tellV x) := by rw [tell_ok h, e]
theorem tell_not {x : Int} (h : ¬ fitsI x) : Ending.returned (.tuple #[.int .i64 0, .int .i64 1]) = Ending.returned (tellV x) := by rw [tell_over h]
theorem fits_wf {x : Int} (h : (Lit.int .i64 x).wf = true) : fitsI x := by
  simp [Lit.wf, IntKind.min, IntKind.max, IntKind.signed, IntKind.bits] at h
  exact h
theorem fits_wrap {x : Int} (h : fitsI x) : IntKind.i64.wrap x = x := by
  unfold fitsI at h
  rw [IntKind.wrap_i64]
  omega
/-- A quotient, a rest: what is told. -/
def divV (a b : Int) : Value := if b = 0 then .tuple #[.int .i64 0, .int .i64 2] else tellV (a.tdiv b)
def remV (a b : Int) : Value := if b = 0 then .tuple #[.int .i64 0, .int .i64 2] else if a = -9223372036854775808 ∧ b = -1 then .tuple #[.int .i64 0, .int .i64 1] else .tuple #[.int .i64 (a.tmod b), .int .i64 0]
theorem tdiv_fits {a b : Int} (ha : fitsI a) (hb : b ≠ 0) (hx : ¬ (a = -9223372036854775808 ∧ b = -1)) : fitsI (a.tdiv b) := by
  unfold fitsI at *
  by_cases h1 : b = 1
  · subst h1; rw [Int.tdiv_one]; exact ha
  by_cases h2 : b = -1
  · subst h2; rw [Int.tdiv_neg, Int.tdiv_one]; omega
  have h := Int.natAbs_tdiv a b
  have h3 : a.natAbs.div b.natAbs ≤ a.natAbs / 2 := Nat.div_le_div_left (by omega) (by omega)
  omega
theorem tmod_facts (a b : Int) : (a.tmod b).natAbs ≤ a.natAbs ∧ (0 ≤ a → 0 ≤ a.tmod b) ∧ (a ≤ 0 → a.tmod b ≤ 0) := by
  refine ⟨by rw [Int.natAbs_tmod]; exact Nat.mod_le _ _, fun h => Int.tmod_nonneg b h, fun h => ?_⟩
  have h2 := Int.tmod_nonneg b (a := -a) (by omega)
  rw [Int.neg_tmod] at h2
  omega
theorem back_mul (a b : Int) : a.tdiv b * b = a - a.tmod b := by
  have := Int.tdiv_mul_add_tmod a b
  omega
theorem mul_back {a b c : Int} (hb : b ≠ 0) (hf : fitsI b) (hx : (a * b + 9223372036854775808) % 18446744073709551616 - 9223372036854775808 = c) (hc : c.tdiv b = a) : fitsI (a * b) := by
  have h1 := back_mul c b
  have h2 : (c.tmod b).natAbs < b.natAbs := by rw [Int.natAbs_tmod]; exact Nat.mod_lt _ (by omega)
  rw [hc] at h1
  obtain ⟨x, e⟩ : ∃ x, a * b = x := ⟨_, rfl⟩
  rw [e] at h1 hx ⊢
  unfold fitsI at *
  omega
theorem tdiv_over : ¬ fitsI ((-9223372036854775808 : Int).tdiv (-1)) := by decide

set_option maxRecDepth 100000 in
set_option maxHeartbeats 4000000 in
theorem nadd (a b : Int) (ha : fitsI a) (hb : fitsI b) (w : World) :
    Calls Try.prog 11 #[.int .i64 a, .int .i64 b] w fun e w' => e = .returned (tellV (a + b)) ∧ w' = w := by
  obtain ⟨s, hs⟩ : ∃ s, IntKind.i64.wrap (a + b) = s := ⟨_, rfl⟩
  have hx := hs
  rw [IntKind.wrap_i64] at hx
  unfold fitsI at ha hb
  by_cases h1 : a < 0 <;> by_cases h2 : b < 0 <;> by_cases h3 : s < 0
  all_goals
    go_enter Try.func11, Try.ntmps11
    go_wp2
    go_ret2
    first
      | (refine ⟨tell_is ?_ ?_, rfl⟩; all_goals (first | omega | (refine ⟨?_, ?_⟩ <;> omega)))
      | (refine ⟨tell_not ?_, rfl⟩; unfold fitsI; omega)
set_option maxRecDepth 100000 in
set_option maxHeartbeats 4000000 in
theorem nsub (a b : Int) (ha : fitsI a) (hb : fitsI b) (w : World) :
    Calls Try.prog 13 #[.int .i64 a, .int .i64 b] w fun e w' => e = .returned (tellV (a - b)) ∧ w' = w := by
  obtain ⟨s, hs⟩ : ∃ s, IntKind.i64.wrap (a - b) = s := ⟨_, rfl⟩
  have hx := hs
  rw [IntKind.wrap_i64] at hx
  unfold fitsI at ha hb
  by_cases h1 : a < 0 <;> by_cases h2 : b < 0 <;> by_cases h3 : s < 0
  all_goals
    go_enter Try.func13, Try.ntmps13
    go_wp2
    go_ret2
    first
      | (refine ⟨tell_is ?_ ?_, rfl⟩; all_goals (first | omega | (refine ⟨?_, ?_⟩ <;> omega)))
      | (refine ⟨tell_not ?_, rfl⟩; unfold fitsI; omega)
set_option maxRecDepth 100000 in
set_option maxHeartbeats 4000000 in
theorem nneg (a : Int) (ha : fitsI a) (w : World) :
    Calls Try.prog 8 #[.int .i64 a] w fun e w' => e = .returned (tellV (-a)) ∧ w' = w := by
  have c := fun w => nsub 0 a (by decide) ha w
  rw [Int.zero_sub] at c
  by_cases hf : fitsI (-a)
  · rw [tell_ok hf] at c ⊢
    go_enter Try.func8, Try.ntmps8
    go_wp2_with (go_at_call 13; refine (c _).mono ?_; rintro e w' ⟨rfl, rfl⟩)
    all_goals (go_ret2; exact ⟨rfl, rfl⟩)
  · rw [tell_over hf] at c ⊢
    go_enter Try.func8, Try.ntmps8
    go_wp2_with (go_at_call 13; refine (c _).mono ?_; rintro e w' ⟨rfl, rfl⟩)
    all_goals (go_ret2; exact ⟨rfl, rfl⟩)

set_option maxRecDepth 100000 in
set_option maxHeartbeats 4000000 in
theorem rneg (a : Int) (ha : fitsI a) (w : World) :
    Calls Try.prog 9 #[.int .i64 a] w fun e w' => e = .returned (tellV (-a)) ∧ w' = w := by
  obtain ⟨s, hs⟩ : ∃ s, IntKind.i64.wrap (-a) = s := ⟨_, rfl⟩
  have hx := hs
  rw [IntKind.wrap_i64] at hx
  unfold fitsI at ha
  by_cases h1 : a = -9223372036854775808
  all_goals
    go_enter Try.func9, Try.ntmps9
    go_wp2
    go_ret2
    first
      | (refine ⟨tell_is ?_ ?_, rfl⟩; all_goals (first | omega | (refine ⟨?_, ?_⟩ <;> omega)))
      | (refine ⟨tell_not ?_, rfl⟩; unfold fitsI; omega)
set_option maxRecDepth 100000 in
set_option maxHeartbeats 4000000 in
theorem radd (a b : Int) (ha : fitsI a) (hb : fitsI b) (w : World) :
    Calls Try.prog 12 #[.int .i64 a, .int .i64 b] w fun e w' => e = .returned (tellV (a + b)) ∧ w' = w := by
  obtain ⟨s, hs⟩ : ∃ s, IntKind.i64.wrap (a + b) = s := ⟨_, rfl⟩
  have hx := hs
  rw [IntKind.wrap_i64] at hx
  unfold fitsI at ha hb
  by_cases h1 : 0 < b <;> by_cases h2 : b < 0 <;> by_cases h3 : 9223372036854775807 - b < a <;> by_cases h4 : a < -9223372036854775808 - b
  all_goals
    first | omega | skip
  all_goals
    go_enter Try.func12, Try.ntmps12
    go_wp2
    go_ret2
    first
      | (refine ⟨tell_is ?_ ?_, rfl⟩; all_goals (first | omega | (refine ⟨?_, ?_⟩ <;> omega)))
      | (refine ⟨tell_not ?_, rfl⟩; unfold fitsI; omega)
set_option maxRecDepth 100000 in
set_option maxHeartbeats 4000000 in
theorem rsub (a b : Int) (ha : fitsI a) (hb : fitsI b) (w : World) :
    Calls Try.prog 14 #[.int .i64 a, .int .i64 b] w fun e w' => e = .returned (tellV (a - b)) ∧ w' = w := by
  obtain ⟨s, hs⟩ : ∃ s, IntKind.i64.wrap (a - b) = s := ⟨_, rfl⟩
  have hx := hs
  rw [IntKind.wrap_i64] at hx
  unfold fitsI at ha hb
  by_cases h1 : 0 < b <;> by_cases h2 : b < 0 <;> by_cases h3 : 9223372036854775807 + b < a <;> by_cases h4 : a < -9223372036854775808 + b
  all_goals
    first | omega | skip
  all_goals
    go_enter Try.func14, Try.ntmps14
    go_wp2
    go_ret2
    first
      | (refine ⟨tell_is ?_ ?_, rfl⟩; all_goals (first | omega | (refine ⟨?_, ?_⟩ <;> omega)))
      | (refine ⟨tell_not ?_, rfl⟩; unfold fitsI; omega)
/-- What goes wrong at a quotient. -/
def prt (a b : Int) : Int := if b = 0 then 2 else if a = -9223372036854775808 ∧ b = -1 then 1 else 0
set_option maxRecDepth 100000 in
set_option maxHeartbeats 4000000 in
theorem npart (a b : Int) (w : World) :
    Calls Try.prog 29 #[.int .i64 a, .int .i64 b] w fun e w' => e = .returned (.int .i64 (prt a b)) ∧ w' = w := by
  by_cases h1 : b = 0
  · have e : prt a b = 2 := by unfold prt; rw [if_pos h1]
    rw [e]; clear e
    go_enter Try.func29, Try.ntmps29
    go_wp2
    all_goals (go_ret; exact ⟨rfl, rfl⟩)
  by_cases h2 : a = -9223372036854775808
  · by_cases h3 : b = -1
    · have e : prt a b = 1 := by unfold prt; rw [if_neg h1, if_pos ⟨h2, h3⟩]
      rw [e]; clear e
      go_enter Try.func29, Try.ntmps29
      go_wp2
      all_goals (go_ret; exact ⟨rfl, rfl⟩)
    · have e : prt a b = 0 := by unfold prt; rw [if_neg h1, if_neg (fun h => h3 h.2)]
      rw [e]; clear e
      go_enter Try.func29, Try.ntmps29
      go_wp2
      all_goals (go_ret; exact ⟨rfl, rfl⟩)
  · have e : prt a b = 0 := by unfold prt; rw [if_neg h1, if_neg (fun h => h2 h.1)]
    rw [e]; clear e
    go_enter Try.func29, Try.ntmps29
    go_wp2
    all_goals (go_ret; exact ⟨rfl, rfl⟩)

set_option maxRecDepth 100000 in
set_option maxHeartbeats 4000000 in
theorem rpart (a b : Int) (w : World) :
    Calls Try.prog 30 #[.int .i64 a, .int .i64 b] w fun e w' => e = .returned (.int .i64 (prt a b)) ∧ w' = w := by
  by_cases h1 : b = 0
  · have e : prt a b = 2 := by unfold prt; rw [if_pos h1]
    rw [e]; clear e
    go_enter Try.func30, Try.ntmps30
    go_wp2
    all_goals (go_ret; exact ⟨rfl, rfl⟩)
  by_cases h2 : a = -9223372036854775808
  · by_cases h3 : b = -1
    · have e : prt a b = 1 := by unfold prt; rw [if_neg h1, if_pos ⟨h2, h3⟩]
      rw [e]; clear e
      go_enter Try.func30, Try.ntmps30
      go_wp2
      all_goals (go_ret; exact ⟨rfl, rfl⟩)
    · have e : prt a b = 0 := by unfold prt; rw [if_neg h1, if_neg (fun h => h3 h.2)]
      rw [e]; clear e
      go_enter Try.func30, Try.ntmps30
      go_wp2
      all_goals (go_ret; exact ⟨rfl, rfl⟩)
  · have e : prt a b = 0 := by unfold prt; rw [if_neg h1, if_neg (fun h => h2 h.1)]
    rw [e]; clear e
    go_enter Try.func30, Try.ntmps30
    go_wp2
    all_goals (go_ret; exact ⟨rfl, rfl⟩)

set_option maxRecDepth 100000 in
set_option maxHeartbeats 4000000 in
theorem ndiv (a b : Int) (ha : fitsI a) (_ : fitsI b) (w : World) :
    Calls Try.prog 17 #[.int .i64 a, .int .i64 b] w fun e w' => e = .returned (divV a b) ∧ w' = w := by
  have c := fun w => npart a b w
  by_cases h1 : b = 0
  · have e : prt a b = 2 := by unfold prt; rw [if_pos h1]
    rw [e] at c
    have e2 : divV a b = .tuple #[.int .i64 0, .int .i64 2] := by unfold divV; rw [if_pos h1]
    rw [e2]; clear e e2 h1
    go_enter Try.func17, Try.ntmps17
    go_wp2_with (go_at_call 29; refine (c _).mono ?_; rintro e w' ⟨rfl, rfl⟩)
    all_goals (go_ret2; exact ⟨rfl, rfl⟩)
  by_cases h2 : a = -9223372036854775808 ∧ b = -1
  · have e : prt a b = 1 := by unfold prt; rw [if_neg h1, if_pos h2]
    rw [e] at c
    have e2 : divV a b = .tuple #[.int .i64 0, .int .i64 1] := by unfold divV; rw [if_neg h1, h2.1, h2.2, tell_over tdiv_over]
    rw [e2]; clear e e2 h2 h1
    go_enter Try.func17, Try.ntmps17
    go_wp2_with (go_at_call 29; refine (c _).mono ?_; rintro e w' ⟨rfl, rfl⟩)
    all_goals (go_ret2; exact ⟨rfl, rfl⟩)
  · have e : prt a b = 0 := by unfold prt; rw [if_neg h1, if_neg h2]
    rw [e] at c
    have e2 : divV a b = .tuple #[.int .i64 (a.tdiv b), .int .i64 0] := by unfold divV; rw [if_neg h1, tell_ok (tdiv_fits ha h1 h2)]
    rw [e2]; clear e e2
    have hq := fits_wrap (tdiv_fits ha h1 h2)
    go_enter Try.func17, Try.ntmps17
    go_wp2_with (go_at_call 29; refine (c _).mono ?_; rintro e w' ⟨rfl, rfl⟩)
    all_goals (go_ret2; exact ⟨rfl, rfl⟩)

set_option maxRecDepth 100000 in
set_option maxHeartbeats 4000000 in
theorem rdiv (a b : Int) (ha : fitsI a) (_ : fitsI b) (w : World) :
    Calls Try.prog 18 #[.int .i64 a, .int .i64 b] w fun e w' => e = .returned (divV a b) ∧ w' = w := by
  have c := fun w => rpart a b w
  by_cases h1 : b = 0
  · have e : prt a b = 2 := by unfold prt; rw [if_pos h1]
    rw [e] at c
    have e2 : divV a b = .tuple #[.int .i64 0, .int .i64 2] := by unfold divV; rw [if_pos h1]
    rw [e2]; clear e e2 h1
    go_enter Try.func18, Try.ntmps18
    go_wp2_with (go_at_call 30; refine (c _).mono ?_; rintro e w' ⟨rfl, rfl⟩)
    all_goals (go_ret2; exact ⟨rfl, rfl⟩)
  by_cases h2 : a = -9223372036854775808 ∧ b = -1
  · have e : prt a b = 1 := by unfold prt; rw [if_neg h1, if_pos h2]
    rw [e] at c
    have e2 : divV a b = .tuple #[.int .i64 0, .int .i64 1] := by unfold divV; rw [if_neg h1, h2.1, h2.2, tell_over tdiv_over]
    rw [e2]; clear e e2 h2 h1
    go_enter Try.func18, Try.ntmps18
    go_wp2_with (go_at_call 30; refine (c _).mono ?_; rintro e w' ⟨rfl, rfl⟩)
    all_goals (go_ret2; exact ⟨rfl, rfl⟩)
  · have e : prt a b = 0 := by unfold prt; rw [if_neg h1, if_neg h2]
    rw [e] at c
    have e2 : divV a b = .tuple #[.int .i64 (a.tdiv b), .int .i64 0] := by unfold divV; rw [if_neg h1, tell_ok (tdiv_fits ha h1 h2)]
    rw [e2]; clear e e2
    have hq := fits_wrap (tdiv_fits ha h1 h2)
    go_enter Try.func18, Try.ntmps18
    go_wp2_with (go_at_call 30; refine (c _).mono ?_; rintro e w' ⟨rfl, rfl⟩)
    all_goals (go_ret2; exact ⟨rfl, rfl⟩)

set_option maxRecDepth 100000 in
set_option maxHeartbeats 4000000 in
theorem nrem (a b : Int) (ha : fitsI a) (_ : fitsI b) (w : World) :
    Calls Try.prog 19 #[.int .i64 a, .int .i64 b] w fun e w' => e = .returned (remV a b) ∧ w' = w := by
  have c := fun w => npart a b w
  by_cases h1 : b = 0
  · have e : prt a b = 2 := by unfold prt; rw [if_pos h1]
    rw [e] at c
    have e2 : remV a b = .tuple #[.int .i64 0, .int .i64 2] := by unfold remV; rw [if_pos h1]
    rw [e2]; clear e e2 h1
    go_enter Try.func19, Try.ntmps19
    go_wp2_with (go_at_call 29; refine (c _).mono ?_; rintro e w' ⟨rfl, rfl⟩)
    all_goals (go_ret2; exact ⟨rfl, rfl⟩)
  by_cases h2 : a = -9223372036854775808 ∧ b = -1
  · have e : prt a b = 1 := by unfold prt; rw [if_neg h1, if_pos h2]
    rw [e] at c
    have e2 : remV a b = .tuple #[.int .i64 0, .int .i64 1] := by unfold remV; rw [if_neg h1, if_pos h2]
    rw [e2]; clear e e2 h2 h1
    go_enter Try.func19, Try.ntmps19
    go_wp2_with (go_at_call 29; refine (c _).mono ?_; rintro e w' ⟨rfl, rfl⟩)
    all_goals (go_ret2; exact ⟨rfl, rfl⟩)
  · have e : prt a b = 0 := by unfold prt; rw [if_neg h1, if_neg h2]
    rw [e] at c
    have e2 : remV a b = .tuple #[.int .i64 (a.tmod b), .int .i64 0] := by unfold remV; rw [if_neg h1, if_neg h2]
    rw [e2]; clear e e2
    have hq : IntKind.i64.wrap (a.tmod b) = a.tmod b := fits_wrap (by have := tmod_facts a b; unfold fitsI at *; omega)
    go_enter Try.func19, Try.ntmps19
    go_wp2_with (go_at_call 29; refine (c _).mono ?_; rintro e w' ⟨rfl, rfl⟩)
    all_goals (go_ret2; exact ⟨rfl, rfl⟩)

set_option maxRecDepth 100000 in
set_option maxHeartbeats 4000000 in
theorem rrem (a b : Int) (ha : fitsI a) (_ : fitsI b) (w : World) :
    Calls Try.prog 20 #[.int .i64 a, .int .i64 b] w fun e w' => e = .returned (remV a b) ∧ w' = w := by
  have c := fun w => rpart a b w
  by_cases h1 : b = 0
  · have e : prt a b = 2 := by unfold prt; rw [if_pos h1]
    rw [e] at c
    have e2 : remV a b = .tuple #[.int .i64 0, .int .i64 2] := by unfold remV; rw [if_pos h1]
    rw [e2]; clear e e2 h1
    go_enter Try.func20, Try.ntmps20
    go_wp2_with (go_at_call 30; refine (c _).mono ?_; rintro e w' ⟨rfl, rfl⟩)
    all_goals (go_ret2; exact ⟨rfl, rfl⟩)
  by_cases h2 : a = -9223372036854775808 ∧ b = -1
  · have e : prt a b = 1 := by unfold prt; rw [if_neg h1, if_pos h2]
    rw [e] at c
    have e2 : remV a b = .tuple #[.int .i64 0, .int .i64 1] := by unfold remV; rw [if_neg h1, if_pos h2]
    rw [e2]; clear e e2 h2 h1
    go_enter Try.func20, Try.ntmps20
    go_wp2_with (go_at_call 30; refine (c _).mono ?_; rintro e w' ⟨rfl, rfl⟩)
    all_goals (go_ret2; exact ⟨rfl, rfl⟩)
  · have e : prt a b = 0 := by unfold prt; rw [if_neg h1, if_neg h2]
    rw [e] at c
    have e2 : remV a b = .tuple #[.int .i64 (a.tmod b), .int .i64 0] := by unfold remV; rw [if_neg h1, if_neg h2]
    rw [e2]; clear e e2
    have hq := fits_wrap (tdiv_fits ha h1 h2)
    have hm : IntKind.i64.wrap (a.tdiv b * b) = a - a.tmod b := by rw [back_mul]; exact fits_wrap (by have := tmod_facts a b; unfold fitsI at *; omega)
    have hr : IntKind.i64.wrap (a - (a - a.tmod b)) = a.tmod b := by rw [show a - (a - a.tmod b) = a.tmod b by omega]; exact fits_wrap (by have := tmod_facts a b; unfold fitsI at *; omega)
    go_enter Try.func20, Try.ntmps20
    go_wp2_with (go_at_call 30; refine (c _).mono ?_; rintro e w' ⟨rfl, rfl⟩)
    all_goals (go_ret2; exact ⟨rfl, rfl⟩)

end Go.Proofs.Ytebhmbejpfmbgaa
