/-
  Layer 7's comparisons, and NumCompares' walk.
-/
import Derived.Test.YtbhbmoppipohjaaShelf
import Derived.Test.YtbhbmoppipohjaaRows
import Derived.WalkKit
import Derived.ProofKit
import Derived.OpenShut
import Derived.Deep.RegionWith
import Derived.Laws.Rows
/-
  Layer 7's arithmetic, plain: what the exact answer is (tellV), and the contracts of num's and the document's Neg, Add, Sub, Div, Rem.
-/
namespace Go.Proofs.Ytbhbmoppipohjaa
open Go Go.RowKit

/-- x is an int64. -/
def fitsI (x : Int) : Prop := -9223372036854775808 ≤ x ∧ x ≤ 9223372036854775807
instance (x : Int) : Decidable (fitsI x) := by unfold fitsI; infer_instance
/-- What is told of a number that is reckoned exactly: it, or 0 and 'over'. -/
def tellV (x : Int) : Value := if fitsI x then .tuple #[.int .i64 x, .int .i64 0] else .tuple #[.int .i64 0, .int .i64 1]
theorem tell_ok {x : Int} (h : fitsI x) : tellV x = .tuple #[.int .i64 x, .int .i64 0] := by unfold tellV; rw [if_pos h]
theorem tell_over {x : Int} (h : ¬ fitsI x) : tellV x = .tuple #[.int .i64 0, .int .i64 1] := by unfold tellV; rw [if_neg h]
theorem tell_is {x s : Int} (h : fitsI x) (e : s = x) : Ending.returned (.tuple #[.int .i64 s, .int .i64 0]) = Ending.returned (tellV x) := by rw [tell_ok h, e]
theorem tell_not {x : Int} (h : ¬ fitsI x) : Ending.returned (.tuple #[.int .i64 0, .int .i64 1]) = Ending.returned (tellV x) := by rw [tell_over h]
theorem fits_wf {x : Int} (h : (Lit.int .i64 x).wf = true) : fitsI x := by
  simp [Lit.wf, IntKind.min, IntKind.max, IntKind.signed, IntKind.bits] at h
  exact h
theorem fits_wrap {x : Int} (h : fitsI x) : IntKind.i64.wrap x = x := by
  unfold fitsI at h
  rw [IntKind.wrap_i64]
  omega
/-- A quotient, a rest: what is told. -/
def divV (a b : Int) : Value := if b = 0 then .tuple #[.int .i64 0, .int .i64 2] else tellV (a.tdiv b)
def remV (a b : Int) : Value := if b = 0 then .tuple #[.int .i64 0, .int .i64 2] else if a = -9223372036854775808 ∧ b = -1 then .tuple #[.int .i64 0, .int .i64 1] else .tuple #[.int .i64 (a.tmod b), .int .i64 0]
theorem tdiv_fits {a b : Int} (ha : fitsI a) (hb : b ≠ 0) (hx : ¬ (a = -9223372036854775808 ∧ b = -1)) : fitsI (a.tdiv b) := by
  unfold fitsI at *
  by_cases h1 : b = 1
  · subst h1; rw [Int.tdiv_one]; exact ha
  by_cases h2 : b = -1
  · subst h2; rw [Int.tdiv_neg, Int.tdiv_one]; omega
  have h := Int.natAbs_tdiv a b
  have h3 : a.natAbs.div b.natAbs ≤ a.natAbs / 2 := Nat.div_le_div_left (by omega) (by omega)
  omega
theorem tmod_facts (a b : Int) : (a.tmod b).natAbs ≤ a.natAbs ∧ (0 ≤ a → 0 ≤ a.tmod b) ∧ (a ≤ 0 → a.tmod b ≤ 0) := by
  refine ⟨by rw [Int.natAbs_tmod]; exact Nat.mod_le _ _, fun h => Int.tmod_nonneg b h, fun h => ?_⟩
  have h2 := Int.tmod_nonneg b (a := -a) (by omega)
  rw [Int.neg_tmod] at h2
  omega
theorem back_mul (a b : Int) : a.tdiv b * b = a - a.tmod b := by
  have := Int.tdiv_mul_add_tmod a b
  omega
theorem mul_back {a b c : Int} (hb : b ≠ 0) (hf : fitsI b) (hx : (a * b + 9223372036854775808) % 18446744073709551616 - 9223372036854775808 = c) (hc : c.tdiv b = a) : fitsI (a * b) := by
  have h1 := back_mul c b
  have h2 : (c.tmod b).natAbs < b.natAbs := by rw [Int.natAbs_tmod]; exact Nat.mod_lt _ (by omega)
  rw [hc] at h1
  obtain ⟨x, e⟩ : ∃ x, a * b = x := ⟨_, rfl⟩
  rw [e] at h1 hx ⊢
  unfold fitsI at *
  omega
theorem tdiv_over : ¬ fitsI ((-9223372036854775808 : Int).tdiv (-1)) := by decide

set_option maxRecDepth 100000 in
set_option maxHeartbeats 4000000 in
theorem nadd (a b : Int) (ha : fitsI a) (hb : fitsI b) (w : World) :
    Calls Try.prog 71 #[.int .i64 a, .int .i64 b] w fun e w' => e = .returned (tellV (a + b)) ∧ w' = w := by
  obtain ⟨s, hs⟩ : ∃ s, IntKind.i64.wrap (a + b) = s := ⟨_, rfl⟩
  have hx := hs
  rw [IntKind.wrap_i64] at hx
  unfold fitsI at ha hb
  by_cases h1 : a < 0 <;> by_cases h2 : b < 0 <;> by_cases h3 : s < 0
  all_goals
    go_enter Try.func71, Try.ntmps71
    go_wp2
    go_ret2
    first
      | (refine ⟨tell_is ?_ ?_, rfl⟩; all_goals (first | omega | (refine ⟨?_, ?_⟩ <;> omega)))
      | (refine ⟨tell_not ?_, rfl⟩; unfold fitsI; omega)
set_option maxRecDepth 100000 in
set_option maxHeartbeats 4000000 in
theorem nsub (a b : Int) (ha : fitsI a) (hb : fitsI b) (w : World) :
    Calls Try.prog 72 #[.int .i64 a, .int .i64 b] w fun e w' => e = .returned (tellV (a - b)) ∧ w' = w := by
  obtain ⟨s, hs⟩ : ∃ s, IntKind.i64.wrap (a - b) = s := ⟨_, rfl⟩
  have hx := hs
  rw [IntKind.wrap_i64] at hx
  unfold fitsI at ha hb
  by_cases h1 : a < 0 <;> by_cases h2 : b < 0 <;> by_cases h3 : s < 0
  all_goals
    go_enter Try.func72, Try.ntmps72
    go_wp2
    go_ret2
    first
      | (refine ⟨tell_is ?_ ?_, rfl⟩; all_goals (first | omega | (refine ⟨?_, ?_⟩ <;> omega)))
      | (refine ⟨tell_not ?_, rfl⟩; unfold fitsI; omega)
set_option maxRecDepth 100000 in
set_option maxHeartbeats 4000000 in
theorem nneg (a : Int) (ha : fitsI a) (w : World) :
    Calls Try.prog 70 #[.int .i64 a] w fun e w' => e = .returned (tellV (-a)) ∧ w' = w := by
  have c := fun w => nsub 0 a (by decide) ha w
  rw [Int.zero_sub] at c
  by_cases hf : fitsI (-a)
  · rw [tell_ok hf] at c ⊢
    go_enter Try.func70, Try.ntmps70
    go_wp2_with (go_at_call 72; refine (c _).mono ?_; rintro e w' ⟨rfl, rfl⟩)
    all_goals (go_ret2; exact ⟨rfl, rfl⟩)
  · rw [tell_over hf] at c ⊢
    go_enter Try.func70, Try.ntmps70
    go_wp2_with (go_at_call 72; refine (c _).mono ?_; rintro e w' ⟨rfl, rfl⟩)
    all_goals (go_ret2; exact ⟨rfl, rfl⟩)

/-- What goes wrong at a quotient. -/
def prt (a b : Int) : Int := if b = 0 then 2 else if a = -9223372036854775808 ∧ b = -1 then 1 else 0
set_option maxRecDepth 100000 in
set_option maxHeartbeats 4000000 in
theorem npart (a b : Int) (w : World) :
    Calls Try.prog 81 #[.int .i64 a, .int .i64 b] w fun e w' => e = .returned (.int .i64 (prt a b)) ∧ w' = w := by
  by_cases h1 : b = 0
  · have e : prt a b = 2 := by unfold prt; rw [if_pos h1]
    rw [e]; clear e
    go_enter Try.func81, Try.ntmps81
    go_wp2
    all_goals (go_ret; exact ⟨rfl, rfl⟩)
  by_cases h2 : a = -9223372036854775808
  · by_cases h3 : b = -1
    · have e : prt a b = 1 := by unfold prt; rw [if_neg h1, if_pos ⟨h2, h3⟩]
      rw [e]; clear e
      go_enter Try.func81, Try.ntmps81
      go_wp2
      all_goals (go_ret; exact ⟨rfl, rfl⟩)
    · have e : prt a b = 0 := by unfold prt; rw [if_neg h1, if_neg (fun h => h3 h.2)]
      rw [e]; clear e
      go_enter Try.func81, Try.ntmps81
      go_wp2
      all_goals (go_ret; exact ⟨rfl, rfl⟩)
  · have e : prt a b = 0 := by unfold prt; rw [if_neg h1, if_neg (fun h => h2 h.1)]
    rw [e]; clear e
    go_enter Try.func81, Try.ntmps81
    go_wp2
    all_goals (go_ret; exact ⟨rfl, rfl⟩)

set_option maxRecDepth 100000 in
set_option maxHeartbeats 4000000 in
theorem ndiv (a b : Int) (ha : fitsI a) (_ : fitsI b) (w : World) :
    Calls Try.prog 74 #[.int .i64 a, .int .i64 b] w fun e w' => e = .returned (divV a b) ∧ w' = w := by
  have c := fun w => npart a b w
  by_cases h1 : b = 0
  · have e : prt a b = 2 := by unfold prt; rw [if_pos h1]
    rw [e] at c
    have e2 : divV a b = .tuple #[.int .i64 0, .int .i64 2] := by unfold divV; rw [if_pos h1]
    rw [e2]; clear e e2 h1
    go_enter Try.func74, Try.ntmps74
    go_wp2_with (go_at_call 81; refine (c _).mono ?_; rintro e w' ⟨rfl, rfl⟩)
    all_goals (go_ret2; exact ⟨rfl, rfl⟩)
  by_cases h2 : a = -9223372036854775808 ∧ b = -1
  · have e : prt a b = 1 := by unfold prt; rw [if_neg h1, if_pos h2]
    rw [e] at c
    have e2 : divV a b = .tuple #[.int .i64 0, .int .i64 1] := by unfold divV; rw [if_neg h1, h2.1, h2.2, tell_over tdiv_over]
    rw [e2]; clear e e2 h2 h1
    go_enter Try.func74, Try.ntmps74
    go_wp2_with (go_at_call 81; refine (c _).mono ?_; rintro e w' ⟨rfl, rfl⟩)
    all_goals (go_ret2; exact ⟨rfl, rfl⟩)
  · have e : prt a b = 0 := by unfold prt; rw [if_neg h1, if_neg h2]
    rw [e] at c
    have e2 : divV a b = .tuple #[.int .i64 (a.tdiv b), .int .i64 0] := by unfold divV; rw [if_neg h1, tell_ok (tdiv_fits ha h1 h2)]
    rw [e2]; clear e e2
    have hq := fits_wrap (tdiv_fits ha h1 h2)
    go_enter Try.func74, Try.ntmps74
    go_wp2_with (go_at_call 81; refine (c _).mono ?_; rintro e w' ⟨rfl, rfl⟩)
    all_goals (go_ret2; exact ⟨rfl, rfl⟩)

set_option maxRecDepth 100000 in
set_option maxHeartbeats 4000000 in
theorem nrem (a b : Int) (ha : fitsI a) (_ : fitsI b) (w : World) :
    Calls Try.prog 75 #[.int .i64 a, .int .i64 b] w fun e w' => e = .returned (remV a b) ∧ w' = w := by
  have c := fun w => npart a b w
  by_cases h1 : b = 0
  · have e : prt a b = 2 := by unfold prt; rw [if_pos h1]
    rw [e] at c
    have e2 : remV a b = .tuple #[.int .i64 0, .int .i64 2] := by unfold remV; rw [if_pos h1]
    rw [e2]; clear e e2 h1
    go_enter Try.func75, Try.ntmps75
    go_wp2_with (go_at_call 81; refine (c _).mono ?_; rintro e w' ⟨rfl, rfl⟩)
    all_goals (go_ret2; exact ⟨rfl, rfl⟩)
  by_cases h2 : a = -9223372036854775808 ∧ b = -1
  · have e : prt a b = 1 := by unfold prt; rw [if_neg h1, if_pos h2]
    rw [e] at c
    have e2 : remV a b = .tuple #[.int .i64 0, .int .i64 1] := by unfold remV; rw [if_neg h1, if_pos h2]
    rw [e2]; clear e e2 h2 h1
    go_enter Try.func75, Try.ntmps75
    go_wp2_with (go_at_call 81; refine (c _).mono ?_; rintro e w' ⟨rfl, rfl⟩)
    all_goals (go_ret2; exact ⟨rfl, rfl⟩)
  · have e : prt a b = 0 := by unfold prt; rw [if_neg h1, if_neg h2]
    rw [e] at c
    have e2 : remV a b = .tuple #[.int .i64 (a.tmod b), .int .i64 0] := by unfold remV; rw [if_neg h1, if_neg h2]
    rw [e2]; clear e e2
    have hq : IntKind.i64.wrap (a.tmod b) = a.tmod b := fits_wrap (by have := tmod_facts a b; unfold fitsI at *; omega)
    go_enter Try.func75, Try.ntmps75
    go_wp2_with (go_at_call 81; refine (c _).mono ?_; rintro e w' ⟨rfl, rfl⟩)
    all_goals (go_ret2; exact ⟨rfl, rfl⟩)

end Go.Proofs.Ytbhbmoppipohjaa

/-
  Layer 7's products: the contracts of num's and the document's Mul.
-/
namespace Go.Proofs.Ytbhbmoppipohjaa
open Go Go.RowKit

set_option maxRecDepth 100000 in
set_option maxHeartbeats 4000000 in
theorem nsize (a : Int) (ha : fitsI a) (w : World) :
    Calls Try.prog 79 #[.int .i64 a] w fun e w' => e = .returned (.int .u64 ((a.natAbs : Nat) : Int)) ∧ w' = w := by
  unfold fitsI at ha
  by_cases h : a < 0
  · have h1 : IntKind.u64.wrap a = a + 18446744073709551616 := by rw [IntKind.wrap_u64]; omega
    have h2 : IntKind.u64.wrap (-(a + 18446744073709551616)) = -a := by rw [IntKind.wrap_u64]; omega
    have h3 : ((a.natAbs : Nat) : Int) = -a := by omega
    rw [h3]; clear h3
    go_enter Try.func79, Try.ntmps79
    go_wp2
    go_ret
    exact ⟨rfl, rfl⟩
  · have h1 : IntKind.u64.wrap a = a := by rw [IntKind.wrap_u64]; omega
    have h3 : ((a.natAbs : Nat) : Int) = a := by omega
    rw [h3]; clear h3
    go_enter Try.func79, Try.ntmps79
    go_wp2
    go_ret
    exact ⟨rfl, rfl⟩

set_option maxRecDepth 100000 in
set_option maxHeartbeats 4000000 in
theorem nsigned (x : Int) (h0 : 0 ≤ x) (hx : x < 18446744073709551616) (c : Bool) (w : World) :
    Calls Try.prog 80 #[.int .u64 x, .bool c] w fun e w' => e = .returned (tellV (if c then -x else x)) ∧ w' = w := by
  cases c with
  | true =>
    rw [if_pos rfl]
    by_cases h : x ≤ 9223372036854775808
    · have h3 : IntKind.i64.wrap (IntKind.u64.wrap (-x)) = -x := by rw [IntKind.wrap_u64, IntKind.wrap_i64]; omega
      rw [tell_ok (show fitsI (-x) by unfold fitsI; omega)]
      go_enter Try.func80, Try.ntmps80
      go_wp2
      go_ret2
      exact ⟨rfl, rfl⟩
    · rw [tell_over (show ¬ fitsI (-x) by unfold fitsI; omega)]
      go_enter Try.func80, Try.ntmps80
      go_wp2
      go_ret2
      exact ⟨rfl, rfl⟩
  | false =>
    rw [if_neg (by decide)]
    by_cases h : x ≤ 9223372036854775807
    · have h3 : IntKind.i64.wrap x = x := by rw [IntKind.wrap_i64]; omega
      rw [tell_ok (show fitsI x by unfold fitsI; omega)]
      go_enter Try.func80, Try.ntmps80
      go_wp2
      go_ret2
      exact ⟨rfl, rfl⟩
    · rw [tell_over (show ¬ fitsI x by unfold fitsI; omega)]
      go_enter Try.func80, Try.ntmps80
      go_wp2
      go_ret2
      exact ⟨rfl, rfl⟩

theorem tell_form (x : Int) : ∃ v e : Int, tellV x = .tuple #[.int .i64 v, .int .i64 e] := by
  unfold tellV
  split <;> exact ⟨_, _, rfl⟩
theorem sides (a b : Int) : a * b = if (decide (a < 0) != decide (b < 0)) = true then -(((a.natAbs * b.natAbs : Nat)) : Int) else ((a.natAbs * b.natAbs : Nat) : Int) := by
  rw [Int.natCast_mul]
  by_cases ha : a < 0 <;> by_cases hb : b < 0
  · have h1 : (a.natAbs : Int) = -a := by omega
    have h2 : (b.natAbs : Int) = -b := by omega
    rw [h1, h2]; simp [ha, hb, Int.neg_mul, Int.mul_neg]
  · have h1 : (a.natAbs : Int) = -a := by omega
    have h2 : (b.natAbs : Int) = b := by omega
    rw [h1, h2]; simp [ha, hb, Int.neg_mul]
  · have h1 : (a.natAbs : Int) = a := by omega
    have h2 : (b.natAbs : Int) = -b := by omega
    rw [h1, h2]; simp [ha, hb, Int.mul_neg]
  · have h1 : (a.natAbs : Int) = a := by omega
    have h2 : (b.natAbs : Int) = b := by omega
    rw [h1, h2]; simp [ha, hb]
/-- The two halves of the product of two sizes. -/
theorem halves (a b : Int) (w : World) (ha : fitsI a) (hb : fitsI b) :
    ∃ hi lo : Int, hi = ((a.natAbs * b.natAbs / 18446744073709551616 : Nat) : Int) ∧ lo = ((a.natAbs * b.natAbs % 18446744073709551616 : Nat) : Int) ∧
      Calls Try.prog 78 #[.int .u64 ((a.natAbs : Nat) : Int), .int .u64 ((b.natAbs : Nat) : Int)] w fun e w' => e = .returned (.tuple #[.int .u64 hi, .int .u64 lo]) ∧ w' = w := by
  unfold fitsI at ha hb
  exact ⟨_, _, rfl, rfl, Try.bits_Mul64 a.natAbs b.natAbs (by omega) (by omega) w⟩

set_option maxRecDepth 100000 in
set_option maxHeartbeats 4000000 in
theorem nmul (a b : Int) (ha : fitsI a) (hb : fitsI b) (w : World) :
    Calls Try.prog 73 #[.int .i64 a, .int .i64 b] w fun e w' => e = .returned (tellV (a * b)) ∧ w' = w := by
  obtain ⟨hi, lo, h1, h2, hC⟩ := halves a b w ha hb
  have hs := sides a b
  have HA := fun w => nsize a ha w
  have HB := fun w => nsize b hb w
  obtain ⟨p, hp⟩ : ∃ p, a.natAbs * b.natAbs = p := ⟨_, rfl⟩
  obtain ⟨x, hx⟩ : ∃ x, ((a.natAbs : Nat) : Int) = x := ⟨_, rfl⟩
  obtain ⟨y, hy⟩ : ∃ y, ((b.natAbs : Nat) : Int) = y := ⟨_, rfl⟩
  rw [hx] at HA hC; rw [hy] at HB hC
  rw [hp] at h1 h2 hs
  by_cases hz : hi = 0
  · have hlo : lo = p := by omega
    have HS := fun w => nsigned lo (by omega) (by omega) (decide (a < 0) != decide (b < 0)) w
    rw [hlo, ← hs] at HS
    rw [← hlo] at HS
    obtain ⟨T, E, hT⟩ := tell_form (a * b)
    rw [hT] at HS ⊢
    rw [show (decide (a < 0) != decide (b < 0)) = (!(decide (a < 0) == decide (b < 0))) from rfl] at HS
    clear h1 h2 hs hp hx hy hlo
    go_enter Try.func73, Try.ntmps73
    go_wp2_with (first | (go_at_call_of 79 (Value.int .i64 a); (with_reducible refine (HA _).mono ?_); rintro e w' ⟨rfl, rfl⟩) | (go_at_call_of 79 (Value.int .i64 b); (with_reducible refine (HB _).mono ?_); rintro e w' ⟨rfl, rfl⟩) | (go_at_call 78; (with_reducible refine hC.mono ?_); rintro e w' ⟨rfl, rfl⟩) | (go_at_call 80; (with_reducible refine (HS _).mono ?_); rintro e w' ⟨rfl, rfl⟩) | fail)
    all_goals (go_ret2; exact ⟨rfl, rfl⟩)
  · have hover : ¬ fitsI (a * b) := by
      rw [hs]
      split <;> (unfold fitsI; omega)
    rw [tell_over hover]
    clear h1 h2 hs hp hx hy hover
    go_enter Try.func73, Try.ntmps73
    go_wp2_with (first | (go_at_call_of 79 (Value.int .i64 a); (with_reducible refine (HA _).mono ?_); rintro e w' ⟨rfl, rfl⟩) | (go_at_call_of 79 (Value.int .i64 b); (with_reducible refine (HB _).mono ?_); rintro e w' ⟨rfl, rfl⟩) | (go_at_call 78; (with_reducible refine hC.mono ?_); rintro e w' ⟨rfl, rfl⟩) | (go_at_call 80; (with_reducible refine (HS _).mono ?_); rintro e w' ⟨rfl, rfl⟩) | fail)
    all_goals (go_ret2; exact ⟨rfl, rfl⟩)

end Go.Proofs.Ytbhbmoppipohjaa

/-
  Layer 7's laws, walked: NumExact, NumProducts, NumLaws.
-/
namespace Go.Proofs.Ytbhbmoppipohjaa
open Go Go.RowKit

theorem div_form (a b : Int) : ∃ v e : Int, divV a b = .tuple #[.int .i64 v, .int .i64 e] := by
  unfold divV
  split
  · exact ⟨_, _, rfl⟩
  · exact tell_form _
theorem rem_form (a b : Int) : ∃ v e : Int, remV a b = .tuple #[.int .i64 v, .int .i64 e] := by
  unfold remV
  repeat' split
  all_goals exact ⟨_, _, rfl⟩

end Go.Proofs.Ytbhbmoppipohjaa

/-
  Layer 7's comparisons, and NumCompares' walk.
-/
namespace Go.Proofs.Ytbhbmoppipohjaa
open Go Go.RowKit

/-- The comparisons of all ops, as they are laid. -/
def compsV : Array Value := #[Value.func (Fn.func 82) #[] #[], Value.int IntKind.i64 0, Value.func (Fn.func 83) #[] #[], Value.int IntKind.i64 6, Value.func (Fn.func 84) #[] #[], Value.int IntKind.i64 5, Value.func (Fn.func 85) #[] #[], Value.int IntKind.i64 4, Value.func (Fn.func 86) #[] #[], Value.int IntKind.i64 3, Value.func (Fn.func 87) #[] #[], Value.int IntKind.i64 2, Value.func (Fn.func 88) #[] #[], Value.int IntKind.i64 1]

set_option maxRecDepth 100000 in
set_option maxHeartbeats 4000000 in
theorem all_any (w : World) :
    Calls Try.prog 76 #[] w fun e w' => e = .returned (.agg compsV) ∧ ∃ t, w' = w.alloc (.cells compsV t) := by
  have hsf := fun (a : Addr) (k : Nat) (w : World) => run_store Try.prog w a (.func (.func k) #[] #[]) .plain rfl
  go_enter Try.func76, Try.ntmps76
  go_wp2
  refine bodyPost_ret (results_cell_row rfl _ _ w.heap.size _ compsV _ _ rfl (heap_alloc_new w _) rfl rfl (by kernel_rfl)) rfl ?_
  exact ⟨rfl, _, rfl⟩

theorem heap_two (w : World) (A B : Obj) : ((w.alloc A).alloc B).heap[w.heap.size]? = some A := by
  rw [heap_alloc_old _ _ (by show w.heap.size < (w.heap.push A).size; simp)]
  exact heap_alloc_new w A

set_option maxRecDepth 100000 in
set_option maxHeartbeats 4000000 in
theorem of_0 (op : Int) (h0 : op < 1 ∨ 6 < op) (w : World) :
    Calls Try.prog 67 #[.int .i64 op] w fun e w' => e = .returned (.agg #[.func (.func 82) #[] #[], .int .i64 0]) ∧ Grown w w' := by
  have HA := fun w => all_any w
  have hsf := fun (a : Addr) (k : Nat) (w : World) => run_store Try.prog w a (.func (.func k) #[] #[]) .plain rfl
  have HI : ∀ w, (Instr.index 140 (Value.agg compsV) (Value.int IntKind.i64 0)).run Try.prog w = .ok (.agg #[.func (.func 82) #[] #[], .int .i64 0]) w := fun w => by rfl
  rcases h0 with h0 | h0
  · go_enter Try.func67, Try.ntmps67
    go_wp2_with (first | (go_at_call 76; (with_reducible refine (HA _).mono ?_); rintro e w' ⟨rfl, t, rfl⟩) | fail)
    refine bodyPost_ret (results_cell_row rfl _ _ w.heap.size _ #[.func (.func 82) #[] #[], .int .i64 0] _ _ rfl (heap_two w _ _) rfl rfl (by kernel_rfl)) rfl ?_
    exact ⟨rfl, ((Grown.refl w).alloc _ _).alloc _ _⟩
  · have h1 : ¬ op < 1 := by omega
    go_enter Try.func67, Try.ntmps67
    go_wp2_with (first | (go_at_call 76; (with_reducible refine (HA _).mono ?_); rintro e w' ⟨rfl, t, rfl⟩) | fail)
    refine bodyPost_ret (results_cell_row rfl _ _ w.heap.size _ #[.func (.func 82) #[] #[], .int .i64 0] _ _ rfl (heap_two w _ _) rfl rfl (by kernel_rfl)) rfl ?_
    exact ⟨rfl, ((Grown.refl w).alloc _ _).alloc _ _⟩
set_option maxRecDepth 100000 in
set_option maxHeartbeats 4000000 in
theorem of_1  (w : World) :
    Calls Try.prog 67 #[.int .i64 1] w fun e w' => e = .returned (.agg #[.func (.func 83) #[] #[], .int .i64 6]) ∧ Grown w w' := by
  have HA := fun w => all_any w
  have hsf := fun (a : Addr) (k : Nat) (w : World) => run_store Try.prog w a (.func (.func k) #[] #[]) .plain rfl
  have HI : ∀ w, (Instr.index 140 (Value.agg compsV) (Value.int IntKind.i64 1)).run Try.prog w = .ok (.agg #[.func (.func 83) #[] #[], .int .i64 6]) w := fun w => by rfl
  go_enter Try.func67, Try.ntmps67
  go_wp2_with (first | (go_at_call 76; (with_reducible refine (HA _).mono ?_); rintro e w' ⟨rfl, t, rfl⟩) | fail)
  refine bodyPost_ret (results_cell_row rfl _ _ w.heap.size _ #[.func (.func 83) #[] #[], .int .i64 6] _ _ rfl (heap_two w _ _) rfl rfl (by kernel_rfl)) rfl ?_
  exact ⟨rfl, ((Grown.refl w).alloc _ _).alloc _ _⟩
set_option maxRecDepth 100000 in
set_option maxHeartbeats 4000000 in
theorem of_2  (w : World) :
    Calls Try.prog 67 #[.int .i64 2] w fun e w' => e = .returned (.agg #[.func (.func 84) #[] #[], .int .i64 5]) ∧ Grown w w' := by
  have HA := fun w => all_any w
  have hsf := fun (a : Addr) (k : Nat) (w : World) => run_store Try.prog w a (.func (.func k) #[] #[]) .plain rfl
  have HI : ∀ w, (Instr.index 140 (Value.agg compsV) (Value.int IntKind.i64 2)).run Try.prog w = .ok (.agg #[.func (.func 84) #[] #[], .int .i64 5]) w := fun w => by rfl
  go_enter Try.func67, Try.ntmps67
  go_wp2_with (first | (go_at_call 76; (with_reducible refine (HA _).mono ?_); rintro e w' ⟨rfl, t, rfl⟩) | fail)
  refine bodyPost_ret (results_cell_row rfl _ _ w.heap.size _ #[.func (.func 84) #[] #[], .int .i64 5] _ _ rfl (heap_two w _ _) rfl rfl (by kernel_rfl)) rfl ?_
  exact ⟨rfl, ((Grown.refl w).alloc _ _).alloc _ _⟩
set_option maxRecDepth 100000 in
set_option maxHeartbeats 4000000 in
theorem of_3  (w : World) :
    Calls Try.prog 67 #[.int .i64 3] w fun e w' => e = .returned (.agg #[.func (.func 85) #[] #[], .int .i64 4]) ∧ Grown w w' := by
  have HA := fun w => all_any w
  have hsf := fun (a : Addr) (k : Nat) (w : World) => run_store Try.prog w a (.func (.func k) #[] #[]) .plain rfl
  have HI : ∀ w, (Instr.index 140 (Value.agg compsV) (Value.int IntKind.i64 3)).run Try.prog w = .ok (.agg #[.func (.func 85) #[] #[], .int .i64 4]) w := fun w => by rfl
  go_enter Try.func67, Try.ntmps67
  go_wp2_with (first | (go_at_call 76; (with_reducible refine (HA _).mono ?_); rintro e w' ⟨rfl, t, rfl⟩) | fail)
  refine bodyPost_ret (results_cell_row rfl _ _ w.heap.size _ #[.func (.func 85) #[] #[], .int .i64 4] _ _ rfl (heap_two w _ _) rfl rfl (by kernel_rfl)) rfl ?_
  exact ⟨rfl, ((Grown.refl w).alloc _ _).alloc _ _⟩
set_option maxRecDepth 100000 in
set_option maxHeartbeats 4000000 in
theorem of_4  (w : World) :
    Calls Try.prog 67 #[.int .i64 4] w fun e w' => e = .returned (.agg #[.func (.func 86) #[] #[], .int .i64 3]) ∧ Grown w w' := by
  have HA := fun w => all_any w
  have hsf := fun (a : Addr) (k : Nat) (w : World) => run_store Try.prog w a (.func (.func k) #[] #[]) .plain rfl
  have HI : ∀ w, (Instr.index 140 (Value.agg compsV) (Value.int IntKind.i64 4)).run Try.prog w = .ok (.agg #[.func (.func 86) #[] #[], .int .i64 3]) w := fun w => by rfl
  go_enter Try.func67, Try.ntmps67
  go_wp2_with (first | (go_at_call 76; (with_reducible refine (HA _).mono ?_); rintro e w' ⟨rfl, t, rfl⟩) | fail)
  refine bodyPost_ret (results_cell_row rfl _ _ w.heap.size _ #[.func (.func 86) #[] #[], .int .i64 3] _ _ rfl (heap_two w _ _) rfl rfl (by kernel_rfl)) rfl ?_
  exact ⟨rfl, ((Grown.refl w).alloc _ _).alloc _ _⟩
set_option maxRecDepth 100000 in
set_option maxHeartbeats 4000000 in
theorem of_5  (w : World) :
    Calls Try.prog 67 #[.int .i64 5] w fun e w' => e = .returned (.agg #[.func (.func 87) #[] #[], .int .i64 2]) ∧ Grown w w' := by
  have HA := fun w => all_any w
  have hsf := fun (a : Addr) (k : Nat) (w : World) => run_store Try.prog w a (.func (.func k) #[] #[]) .plain rfl
  have HI : ∀ w, (Instr.index 140 (Value.agg compsV) (Value.int IntKind.i64 5)).run Try.prog w = .ok (.agg #[.func (.func 87) #[] #[], .int .i64 2]) w := fun w => by rfl
  go_enter Try.func67, Try.ntmps67
  go_wp2_with (first | (go_at_call 76; (with_reducible refine (HA _).mono ?_); rintro e w' ⟨rfl, t, rfl⟩) | fail)
  refine bodyPost_ret (results_cell_row rfl _ _ w.heap.size _ #[.func (.func 87) #[] #[], .int .i64 2] _ _ rfl (heap_two w _ _) rfl rfl (by kernel_rfl)) rfl ?_
  exact ⟨rfl, ((Grown.refl w).alloc _ _).alloc _ _⟩
set_option maxRecDepth 100000 in
set_option maxHeartbeats 4000000 in
theorem of_6  (w : World) :
    Calls Try.prog 67 #[.int .i64 6] w fun e w' => e = .returned (.agg #[.func (.func 88) #[] #[], .int .i64 1]) ∧ Grown w w' := by
  have HA := fun w => all_any w
  have hsf := fun (a : Addr) (k : Nat) (w : World) => run_store Try.prog w a (.func (.func k) #[] #[]) .plain rfl
  have HI : ∀ w, (Instr.index 140 (Value.agg compsV) (Value.int IntKind.i64 6)).run Try.prog w = .ok (.agg #[.func (.func 88) #[] #[], .int .i64 1]) w := fun w => by rfl
  go_enter Try.func67, Try.ntmps67
  go_wp2_with (first | (go_at_call 76; (with_reducible refine (HA _).mono ?_); rintro e w' ⟨rfl, t, rfl⟩) | fail)
  refine bodyPost_ret (results_cell_row rfl _ _ w.heap.size _ #[.func (.func 88) #[] #[], .int .i64 1] _ _ rfl (heap_two w _ _) rfl rfl (by kernel_rfl)) rfl ?_
  exact ⟨rfl, ((Grown.refl w).alloc _ _).alloc _ _⟩

/-- Whether an op holds of two numbers. -/
def cmpB (op a b : Int) : Bool :=
  if op = 1 then decide (a < b) else if op = 2 then decide (a ≤ b) else if op = 3 then a == b else if op = 4 then a != b else if op = 5 then decide (b < a) else if op = 6 then decide (b ≤ a) else false
/-- The op that holds just where it doesn't. -/
def notI (op : Int) : Int := if 1 ≤ op ∧ op ≤ 6 then 7 - op else 0
theorem cmp_out {op : Int} (h0 : op < 1 ∨ 6 < op) (a b : Int) : cmpB op a b = false := by
  unfold cmpB
  rw [if_neg (by omega), if_neg (by omega), if_neg (by omega), if_neg (by omega), if_neg (by omega), if_neg (by omega)]
theorem grown_on {w1 w2 w3 : World} (h : Grown w1 w2) (g : Grown w2 w3) : Grown w1 w3 :=
  ⟨World.keptBut_trans h.1 g.1, fun a => (g.2.1 a).trans (h.2.1 a), Nat.le_trans h.2.2 g.2.2⟩
theorem not_out {op : Int} (h0 : op < 1 ∨ 6 < op) : notI op = 0 := by
  unfold notI
  rw [if_neg (by omega)]
set_option maxRecDepth 100000 in
set_option maxHeartbeats 4000000 in
theorem clos_0 (a b : Int) (w : World) :
    Calls Try.prog 82 #[.int .i64 a, .int .i64 b] w fun e w' => e = .returned (.bool (false)) ∧ w' = w := by
  go_enter Try.func82, Try.ntmps82
  go_wp2
  all_goals (go_ret; exact ⟨rfl, rfl⟩)
set_option maxRecDepth 100000 in
set_option maxHeartbeats 4000000 in
theorem clos_1 (a b : Int) (w : World) :
    Calls Try.prog 83 #[.int .i64 a, .int .i64 b] w fun e w' => e = .returned (.bool (decide (a < b))) ∧ w' = w := by
  go_enter Try.func83, Try.ntmps83
  go_wp2
  all_goals (go_ret; exact ⟨rfl, rfl⟩)
set_option maxRecDepth 100000 in
set_option maxHeartbeats 4000000 in
theorem clos_2 (a b : Int) (w : World) :
    Calls Try.prog 84 #[.int .i64 a, .int .i64 b] w fun e w' => e = .returned (.bool (decide (a ≤ b))) ∧ w' = w := by
  go_enter Try.func84, Try.ntmps84
  go_wp2
  all_goals (go_ret; exact ⟨rfl, rfl⟩)
set_option maxRecDepth 100000 in
set_option maxHeartbeats 4000000 in
theorem clos_3 (a b : Int) (w : World) :
    Calls Try.prog 85 #[.int .i64 a, .int .i64 b] w fun e w' => e = .returned (.bool (a == b)) ∧ w' = w := by
  go_enter Try.func85, Try.ntmps85
  go_wp2
  all_goals (go_ret; exact ⟨rfl, rfl⟩)
set_option maxRecDepth 100000 in
set_option maxHeartbeats 4000000 in
theorem clos_4 (a b : Int) (w : World) :
    Calls Try.prog 86 #[.int .i64 a, .int .i64 b] w fun e w' => e = .returned (.bool (a != b)) ∧ w' = w := by
  go_enter Try.func86, Try.ntmps86
  go_wp2
  all_goals (go_ret; exact ⟨rfl, rfl⟩)
set_option maxRecDepth 100000 in
set_option maxHeartbeats 4000000 in
theorem clos_5 (a b : Int) (w : World) :
    Calls Try.prog 87 #[.int .i64 a, .int .i64 b] w fun e w' => e = .returned (.bool (decide (b < a))) ∧ w' = w := by
  go_enter Try.func87, Try.ntmps87
  go_wp2
  all_goals (go_ret; exact ⟨rfl, rfl⟩)
set_option maxRecDepth 100000 in
set_option maxHeartbeats 4000000 in
theorem clos_6 (a b : Int) (w : World) :
    Calls Try.prog 88 #[.int .i64 a, .int .i64 b] w fun e w' => e = .returned (.bool (decide (b ≤ a))) ∧ w' = w := by
  go_enter Try.func88, Try.ntmps88
  go_wp2
  all_goals (go_ret; exact ⟨rfl, rfl⟩)
set_option maxRecDepth 100000 in
set_option maxHeartbeats 4000000 in
theorem ncmp_0 (op : Int) (h0 : op < 1 ∨ 6 < op) (a b : Int) (w : World) :
    Calls Try.prog 61 #[.int .i64 op, .int .i64 a, .int .i64 b] w fun e w' => e = .returned (.bool (false)) ∧ Grown w w' := by
  have HC := fun w => of_0 op h0 w
  have HK := fun w => clos_0 a b w
  have HF : ∀ (x y : Value) (w : World), (Instr.field 135 (.agg #[x, y]) 0).run Try.prog w = .ok x w := fun x y w => by rfl
  go_enter Try.func61, Try.ntmps61
  go_wp2_with (first | (go_at_call 67; (with_reducible refine (HC _).mono ?_); rintro e w' ⟨rfl, hg⟩) | (go_at_call 82; (with_reducible refine (HK _).mono ?_); rintro e w' ⟨rfl, rfl⟩) | fail)
  all_goals (go_ret; exact ⟨rfl, hg⟩)
set_option maxRecDepth 100000 in
set_option maxHeartbeats 4000000 in
theorem ncmp_1  (a b : Int) (w : World) :
    Calls Try.prog 61 #[.int .i64 1, .int .i64 a, .int .i64 b] w fun e w' => e = .returned (.bool (decide (a < b))) ∧ Grown w w' := by
  have HC := fun w => of_1 w
  have HK := fun w => clos_1 a b w
  have HF : ∀ (x y : Value) (w : World), (Instr.field 135 (.agg #[x, y]) 0).run Try.prog w = .ok x w := fun x y w => by rfl
  go_enter Try.func61, Try.ntmps61
  go_wp2_with (first | (go_at_call 67; (with_reducible refine (HC _).mono ?_); rintro e w' ⟨rfl, hg⟩) | (go_at_call 83; (with_reducible refine (HK _).mono ?_); rintro e w' ⟨rfl, rfl⟩) | fail)
  all_goals (go_ret; exact ⟨rfl, hg⟩)
set_option maxRecDepth 100000 in
set_option maxHeartbeats 4000000 in
theorem ncmp_2  (a b : Int) (w : World) :
    Calls Try.prog 61 #[.int .i64 2, .int .i64 a, .int .i64 b] w fun e w' => e = .returned (.bool (decide (a ≤ b))) ∧ Grown w w' := by
  have HC := fun w => of_2 w
  have HK := fun w => clos_2 a b w
  have HF : ∀ (x y : Value) (w : World), (Instr.field 135 (.agg #[x, y]) 0).run Try.prog w = .ok x w := fun x y w => by rfl
  go_enter Try.func61, Try.ntmps61
  go_wp2_with (first | (go_at_call 67; (with_reducible refine (HC _).mono ?_); rintro e w' ⟨rfl, hg⟩) | (go_at_call 84; (with_reducible refine (HK _).mono ?_); rintro e w' ⟨rfl, rfl⟩) | fail)
  all_goals (go_ret; exact ⟨rfl, hg⟩)
set_option maxRecDepth 100000 in
set_option maxHeartbeats 4000000 in
theorem ncmp_3  (a b : Int) (w : World) :
    Calls Try.prog 61 #[.int .i64 3, .int .i64 a, .int .i64 b] w fun e w' => e = .returned (.bool (a == b)) ∧ Grown w w' := by
  have HC := fun w => of_3 w
  have HK := fun w => clos_3 a b w
  have HF : ∀ (x y : Value) (w : World), (Instr.field 135 (.agg #[x, y]) 0).run Try.prog w = .ok x w := fun x y w => by rfl
  go_enter Try.func61, Try.ntmps61
  go_wp2_with (first | (go_at_call 67; (with_reducible refine (HC _).mono ?_); rintro e w' ⟨rfl, hg⟩) | (go_at_call 85; (with_reducible refine (HK _).mono ?_); rintro e w' ⟨rfl, rfl⟩) | fail)
  all_goals (go_ret; exact ⟨rfl, hg⟩)
set_option maxRecDepth 100000 in
set_option maxHeartbeats 4000000 in
theorem ncmp_4  (a b : Int) (w : World) :
    Calls Try.prog 61 #[.int .i64 4, .int .i64 a, .int .i64 b] w fun e w' => e = .returned (.bool (a != b)) ∧ Grown w w' := by
  have HC := fun w => of_4 w
  have HK := fun w => clos_4 a b w
  have HF : ∀ (x y : Value) (w : World), (Instr.field 135 (.agg #[x, y]) 0).run Try.prog w = .ok x w := fun x y w => by rfl
  go_enter Try.func61, Try.ntmps61
  go_wp2_with (first | (go_at_call 67; (with_reducible refine (HC _).mono ?_); rintro e w' ⟨rfl, hg⟩) | (go_at_call 86; (with_reducible refine (HK _).mono ?_); rintro e w' ⟨rfl, rfl⟩) | fail)
  all_goals (go_ret; exact ⟨rfl, hg⟩)
set_option maxRecDepth 100000 in
set_option maxHeartbeats 4000000 in
theorem ncmp_5  (a b : Int) (w : World) :
    Calls Try.prog 61 #[.int .i64 5, .int .i64 a, .int .i64 b] w fun e w' => e = .returned (.bool (decide (b < a))) ∧ Grown w w' := by
  have HC := fun w => of_5 w
  have HK := fun w => clos_5 a b w
  have HF : ∀ (x y : Value) (w : World), (Instr.field 135 (.agg #[x, y]) 0).run Try.prog w = .ok x w := fun x y w => by rfl
  go_enter Try.func61, Try.ntmps61
  go_wp2_with (first | (go_at_call 67; (with_reducible refine (HC _).mono ?_); rintro e w' ⟨rfl, hg⟩) | (go_at_call 87; (with_reducible refine (HK _).mono ?_); rintro e w' ⟨rfl, rfl⟩) | fail)
  all_goals (go_ret; exact ⟨rfl, hg⟩)
set_option maxRecDepth 100000 in
set_option maxHeartbeats 4000000 in
theorem ncmp_6  (a b : Int) (w : World) :
    Calls Try.prog 61 #[.int .i64 6, .int .i64 a, .int .i64 b] w fun e w' => e = .returned (.bool (decide (b ≤ a))) ∧ Grown w w' := by
  have HC := fun w => of_6 w
  have HK := fun w => clos_6 a b w
  have HF : ∀ (x y : Value) (w : World), (Instr.field 135 (.agg #[x, y]) 0).run Try.prog w = .ok x w := fun x y w => by rfl
  go_enter Try.func61, Try.ntmps61
  go_wp2_with (first | (go_at_call 67; (with_reducible refine (HC _).mono ?_); rintro e w' ⟨rfl, hg⟩) | (go_at_call 88; (with_reducible refine (HK _).mono ?_); rintro e w' ⟨rfl, rfl⟩) | fail)
  all_goals (go_ret; exact ⟨rfl, hg⟩)
end Go.Proofs.Ytbhbmoppipohjaa
