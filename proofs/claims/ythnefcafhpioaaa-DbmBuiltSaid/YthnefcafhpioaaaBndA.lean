/-
  Layer 11's bounds, plain: what a number counts as (nearV), sums that saturate (plusV), and the contracts of package bound's and the document's functions.
-/
import Derived.Test.YthnefcafhpioaaaRows
import Derived.WalkKit
import Derived.ProofKit
import Derived.OpenShut
namespace Go.Proofs.Ythnefcafhpioaaa
open Go Go.RowKit

/-- x is an int64. -/
def isI (x : Int) : Prop := -9223372036854775808 ≤ x ∧ x ≤ 9223372036854775807
theorem isI_wf {x : Int} (h : (Lit.int .i64 x).wf = true) : isI x := by
  simp [Lit.wf, IntKind.min, IntKind.max, IntKind.signed, IntKind.bits] at h
  exact h
theorem isI_wrap {x : Int} (h : isI x) : IntKind.i64.wrap x = x := by
  unfold isI at h
  rw [IntKind.wrap_i64]
  omega
/-- What a number counts as, where a bound is asked. -/
def nearV (a : Int) : Int := if 4611686018427387904 < a then 9223372036854775807 else if a < -4611686018427387904 then -4611686018427387904 else a
def isBound (a : Int) : Prop := a = 9223372036854775807 ∨ (-4611686018427387904 ≤ a ∧ a ≤ 4611686018427387904)
instance (a : Int) : Decidable (isBound a) := by unfold isBound; infer_instance
theorem near_bound (a : Int) : isBound (nearV a) := by
  unfold isBound nearV; split
  · omega
  · split <;> omega
theorem near_same {a : Int} (h : isBound a) : nearV a = a := by
  unfold isBound at h; unfold nearV; split
  · omega
  · split <;> omega
theorem near_iff (a : Int) : a = nearV a ↔ isBound a := ⟨fun h => by rw [h]; exact near_bound a, fun h => (near_same h).symm⟩
theorem near_mono {a c : Int} (h : a ≤ c) : nearV a ≤ nearV c := by
  unfold nearV; split <;> split <;> (try split) <;> (try split) <;> omega
theorem bound_isI {a : Int} (h : isBound a) : isI a := by unfold isBound at h; unfold isI; omega
/-- Sums of bounds. -/
def plusV (a b : Int) : Int := if nearV a = 9223372036854775807 ∨ nearV b = 9223372036854775807 then 9223372036854775807 else nearV (nearV a + nearV b)
def satV (a b : Int) : Bool := if nearV a = 9223372036854775807 ∨ nearV b = 9223372036854775807 then false else decide (nearV a + nearV b < -4611686018427387904 ∨ 4611686018427387904 < nearV a + nearV b)
def halfV (a : Int) : Int := if nearV a = 9223372036854775807 then 9223372036854775807 else nearV a / 2
def evenV (a : Int) : Int := plusV (halfV a) (halfV a)
def lessV (a b : Int) : Int := min (nearV a) (nearV b)
theorem plus_bound (a b : Int) : isBound (plusV a b) := by
  unfold plusV; split
  · exact Or.inl rfl
  · exact near_bound _
theorem half_bound (a : Int) : isBound (halfV a) := by
  have := near_bound a
  unfold isBound at *; unfold halfV; split
  · exact Or.inl rfl
  · omega
theorem less_bound (a b : Int) : isBound (lessV a b) := by
  have h1 := near_bound a
  have h2 := near_bound b
  unfold isBound at *; unfold lessV; omega

set_option maxRecDepth 100000 in
set_option maxHeartbeats 4000000 in
theorem near_any (a : Int) (w : World) :
    Calls Try.prog 62 #[.int .i64 a] w fun e w' => e = .returned (.int .i64 (nearV a)) ∧ w' = w := by
  by_cases h1 : 4611686018427387904 < a
  · have e : nearV a = 9223372036854775807 := by unfold nearV; rw [if_pos h1]
    rw [e]; clear e
    go_enter Try.func62, Try.ntmps62
    go_wp2
    all_goals (go_ret; exact ⟨rfl, rfl⟩)
  · by_cases h2 : a < -4611686018427387904
    · have e : nearV a = -4611686018427387904 := by unfold nearV; rw [if_neg h1, if_pos h2]
      rw [e]; clear e
      go_enter Try.func62, Try.ntmps62
      go_wp2
      all_goals (go_ret; first | exact ⟨rfl, rfl⟩ | omega)
    · have e : nearV a = a := by unfold nearV; rw [if_neg h1, if_neg h2]
      rw [e]; clear e
      go_enter Try.func62, Try.ntmps62
      go_wp2
      all_goals (go_ret; first | exact ⟨rfl, rfl⟩ | (refine ⟨congrArg (fun x => Ending.returned (Value.int .i64 x)) (by omega), rfl⟩))

set_option maxRecDepth 100000 in
set_option maxHeartbeats 4000000 in
theorem rnear_any (a : Int) (w : World) :
    Calls Try.prog 63 #[.int .i64 a] w fun e w' => e = .returned (.int .i64 (nearV a)) ∧ w' = w := by
  by_cases h1 : 4611686018427387904 < a
  · have e : nearV a = 9223372036854775807 := by unfold nearV; rw [if_pos h1]
    rw [e]; clear e
    go_enter Try.func63, Try.ntmps63
    go_wp2
    all_goals (go_ret; exact ⟨rfl, rfl⟩)
  · by_cases h2 : a < -4611686018427387904
    · have e : nearV a = -4611686018427387904 := by unfold nearV; rw [if_neg h1, if_pos h2]
      rw [e]; clear e
      go_enter Try.func63, Try.ntmps63
      go_wp2
      all_goals (go_ret; first | exact ⟨rfl, rfl⟩ | omega)
    · have e : nearV a = a := by unfold nearV; rw [if_neg h1, if_neg h2]
      rw [e]; clear e
      go_enter Try.func63, Try.ntmps63
      go_wp2
      all_goals (go_ret; first | exact ⟨rfl, rfl⟩ | (refine ⟨congrArg (fun x => Ending.returned (Value.int .i64 x)) (by omega), rfl⟩))

set_option maxRecDepth 100000 in
set_option maxHeartbeats 4000000 in
theorem is_any (a : Int) (w : World) :
    Calls Try.prog 60 #[.int .i64 a] w fun e w' => e = .returned (.bool (decide (isBound a))) ∧ w' = w := by
  have H := fun w => near_any a w
  by_cases h : isBound a
  · rw [decide_eq_true h]
    rw [near_same h] at H
    go_enter Try.func60, Try.ntmps60
    go_wp2_with (first | (go_at_call 62; (with_reducible refine (H _).mono ?_); rintro e w' ⟨rfl, rfl⟩) | fail)
    all_goals (go_ret; first | exact ⟨rfl, rfl⟩ | (refine ⟨congrArg (fun x => Ending.returned (Value.bool x)) (by simp), rfl⟩))
  · rw [decide_eq_false h]
    obtain ⟨x, hx⟩ : ∃ x, nearV a = x := ⟨_, rfl⟩
    have hn : (a == x) = false := by
      have := near_bound a
      rw [hx] at this
      simp only [beq_eq_false_iff_ne, ne_eq]
      rintro rfl
      exact h this
    rw [hx] at H
    clear hx
    go_enter Try.func60, Try.ntmps60
    go_wp2_with (first | (go_at_call 62; (with_reducible refine (H _).mono ?_); rintro e w' ⟨rfl, rfl⟩) | fail)
    all_goals (go_ret; first | exact ⟨rfl, rfl⟩ | (refine ⟨congrArg (fun x => Ending.returned (Value.bool x)) (by first | exact hn | (simpa using hn)), rfl⟩))

set_option maxRecDepth 100000 in
set_option maxHeartbeats 4000000 in
theorem ris_any (a : Int) (w : World) :
    Calls Try.prog 36 #[.int .i64 a] w fun e w' => e = .returned (.bool (decide (isBound a))) ∧ w' = w := by
  by_cases h0 : a = 9223372036854775807
  · rw [decide_eq_true (show isBound a from Or.inl h0)]
    have k0 : (a == 9223372036854775807) = true := by simp [h0]
    clear h0
    go_enter Try.func36, Try.ntmps36
    go_wp2
    all_goals (go_ret; first | exact ⟨rfl, rfl⟩)
  · have k0 : (a == 9223372036854775807) = false := by simp [h0]
    by_cases h1 : -4611686018427387904 ≤ a
    · by_cases h2 : a ≤ 4611686018427387904
      · rw [decide_eq_true (show isBound a from Or.inr ⟨h1, h2⟩)]
        clear h0
        go_enter Try.func36, Try.ntmps36
        go_wp2
        all_goals (go_ret; first | exact ⟨rfl, rfl⟩ | (refine ⟨congrArg (fun x => Ending.returned (Value.bool x)) (by simp; omega), rfl⟩))
      · rw [decide_eq_false (show ¬ isBound a from fun h => by unfold isBound at h; omega)]
        clear h0
        go_enter Try.func36, Try.ntmps36
        go_wp2
        all_goals (go_ret; first | exact ⟨rfl, rfl⟩ | (refine ⟨congrArg (fun x => Ending.returned (Value.bool x)) (by simp; omega), rfl⟩))
    · rw [decide_eq_false (show ¬ isBound a from fun h => by unfold isBound at h; omega)]
      clear h0
      go_enter Try.func36, Try.ntmps36
      go_wp2
      all_goals (go_ret; first | exact ⟨rfl, rfl⟩ | (refine ⟨congrArg (fun x => Ending.returned (Value.bool x)) (by simp; omega), rfl⟩))

set_option maxRecDepth 100000 in
set_option maxHeartbeats 4000000 in
theorem less_any (a b : Int) (w : World) :
    Calls Try.prog 47 #[.int .i64 a, .int .i64 b] w fun e w' => e = .returned (.int .i64 (lessV a b)) ∧ w' = w := by
  have Hx := fun w => near_any a w
  have Hy := fun w => near_any b w
  unfold lessV
  obtain ⟨x, hx⟩ : ∃ x, nearV a = x := ⟨_, rfl⟩
  obtain ⟨y, hy⟩ : ∃ y, nearV b = y := ⟨_, rfl⟩
  rw [hx] at Hx ⊢
  rw [hy] at Hy ⊢
  clear hx hy
  go_enter Try.func47, Try.ntmps47
  go_wp2_with (first | (go_at_call 62; first | ((with_reducible refine (Hx _).mono ?_); rintro e w' ⟨rfl, rfl⟩) | ((with_reducible refine (Hy _).mono ?_); rintro e w' ⟨rfl, rfl⟩)) | fail)
  all_goals (go_ret; first | exact ⟨rfl, rfl⟩ | (refine ⟨congrArg (fun x => Ending.returned (Value.int .i64 x)) (by omega), rfl⟩))

end Go.Proofs.Ythnefcafhpioaaa
