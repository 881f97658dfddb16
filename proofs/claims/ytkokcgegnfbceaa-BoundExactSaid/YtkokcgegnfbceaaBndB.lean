/-
  Layer 11's bounds: the contracts of the document's functions.
-/
import Derived.Test.YtkokcgegnfbceaaBndA
namespace Go.Proofs.Ytkokcgegnfbceaa
open Go Go.RowKit
set_option maxRecDepth 100000 in
set_option maxHeartbeats 4000000 in
theorem wide_any (x y : Int) (bx : -4611686018427387904 ≤ x ∧ x ≤ 4611686018427387904) (b_y : -4611686018427387904 ≤ y ∧ y ≤ 4611686018427387904) (w : World) :
    Calls Try.prog 24 #[.int .i64 x, .int .i64 y] w fun e w' => e = .returned (.int .i64 (nearV (x + y))) ∧ w' = w := by
  by_cases h1 : x = 4611686018427387904
  · subst h1
    by_cases h2 : y = 4611686018427387904
    · subst h2
      go_enter Try.func24, Try.ntmps24
      go_wp2
      all_goals (go_ret; exact ⟨rfl, rfl⟩)
    · have k2 : (y == 4611686018427387904) = false := by simp [h2]
      have hw : IntKind.i64.wrap (4611686018427387904 + y) = 4611686018427387904 + y := isI_wrap (by unfold isI; omega)
      have Hs := fun w => rnear_any (4611686018427387904 + y) w
      clear h2 bx b_y
      go_enter Try.func24, Try.ntmps24
      go_wp2_with (first | (go_at_call 23; (with_reducible refine (Hs _).mono ?_); rintro e w' ⟨rfl, rfl⟩) | fail)
      all_goals (go_ret; exact ⟨rfl, rfl⟩)
  · have k1 : (x == 4611686018427387904) = false := by simp [h1]
    have hw : IntKind.i64.wrap (x + y) = x + y := isI_wrap (by unfold isI; omega)
    have Hs := fun w => rnear_any (x + y) w
    clear h1 bx b_y
    go_enter Try.func24, Try.ntmps24
    go_wp2_with (first | (go_at_call 23; (with_reducible refine (Hs _).mono ?_); rintro e w' ⟨rfl, rfl⟩) | fail)
    all_goals (go_ret; exact ⟨rfl, rfl⟩)

set_option maxRecDepth 100000 in
set_option maxHeartbeats 4000000 in
theorem rplus_any (a b : Int) (w : World) :
    Calls Try.prog 10 #[.int .i64 a, .int .i64 b] w fun e w' => e = .returned (.int .i64 (plusV a b)) ∧ w' = w := by
  have bx := near_bound a
  have b_y := near_bound b
  have Hx := fun w => rnear_any a w
  have Hy := fun w => rnear_any b w
  unfold plusV
  obtain ⟨x, hx⟩ : ∃ x, nearV a = x := ⟨_, rfl⟩
  obtain ⟨y, hy⟩ : ∃ y, nearV b = y := ⟨_, rfl⟩
  rw [hx] at bx Hx
  rw [hy] at b_y Hy
  rw [hx, hy]
  clear hx hy
  unfold isBound at bx b_y
  by_cases h1 : x = 9223372036854775807
  · subst h1
    rw [if_pos (Or.inl rfl)]
    clear bx b_y
    go_enter Try.func10, Try.ntmps10
    go_wp2_with (first | (go_at_call 23; first | ((with_reducible refine (Hx _).mono ?_); rintro e w' ⟨rfl, rfl⟩) | ((with_reducible refine (Hy _).mono ?_); rintro e w' ⟨rfl, rfl⟩)) | fail)
    all_goals (go_ret; exact ⟨rfl, rfl⟩)
  have k1 : (x == 9223372036854775807) = false := by simp [h1]
  by_cases h2 : y = 9223372036854775807
  · subst h2
    rw [if_pos (Or.inr rfl)]
    clear bx b_y h1
    go_enter Try.func10, Try.ntmps10
    go_wp2_with (first | (go_at_call 23; first | ((with_reducible refine (Hx _).mono ?_); rintro e w' ⟨rfl, rfl⟩) | ((with_reducible refine (Hy _).mono ?_); rintro e w' ⟨rfl, rfl⟩)) | fail)
    all_goals (go_ret; exact ⟨rfl, rfl⟩)
  have k2 : (y == 9223372036854775807) = false := by simp [h2]
  rw [if_neg (by omega)]
  have Hs := fun w => wide_any x y (by omega) (by omega) w
  clear bx b_y h1 h2
  go_enter Try.func10, Try.ntmps10
  go_wp2_with (first | (go_at_call 23; first | ((with_reducible refine (Hx _).mono ?_); rintro e w' ⟨rfl, rfl⟩) | ((with_reducible refine (Hy _).mono ?_); rintro e w' ⟨rfl, rfl⟩) | ((with_reducible refine (Hs _).mono ?_); rintro e w' ⟨rfl, rfl⟩)) | (go_at_call 24; first | ((with_reducible refine (Hx _).mono ?_); rintro e w' ⟨rfl, rfl⟩) | ((with_reducible refine (Hy _).mono ?_); rintro e w' ⟨rfl, rfl⟩) | ((with_reducible refine (Hs _).mono ?_); rintro e w' ⟨rfl, rfl⟩)) | fail)
  all_goals (go_ret; exact ⟨rfl, rfl⟩)

set_option maxRecDepth 100000 in
set_option maxHeartbeats 4000000 in
theorem rsat_any (a b : Int) (w : World) :
    Calls Try.prog 12 #[.int .i64 a, .int .i64 b] w fun e w' => e = .returned (.bool (satV a b)) ∧ w' = w := by
  have bx := near_bound a
  have b_y := near_bound b
  have Hx := fun w => rnear_any a w
  have Hy := fun w => rnear_any b w
  unfold satV
  obtain ⟨x, hx⟩ : ∃ x, nearV a = x := ⟨_, rfl⟩
  obtain ⟨y, hy⟩ : ∃ y, nearV b = y := ⟨_, rfl⟩
  rw [hx] at bx Hx
  rw [hy] at b_y Hy
  rw [hx, hy]
  clear hx hy
  unfold isBound at bx b_y
  by_cases h1 : x = 9223372036854775807
  · subst h1
    rw [if_pos (Or.inl rfl)]
    clear bx b_y
    go_enter Try.func12, Try.ntmps12
    go_wp2_with (first | (go_at_call 23; first | ((with_reducible refine (Hx _).mono ?_); rintro e w' ⟨rfl, rfl⟩) | ((with_reducible refine (Hy _).mono ?_); rintro e w' ⟨rfl, rfl⟩)) | fail)
    all_goals (go_ret; exact ⟨rfl, rfl⟩)
  have k1 : (x == 9223372036854775807) = false := by simp [h1]
  by_cases h2 : y = 9223372036854775807
  · subst h2
    rw [if_pos (Or.inr rfl)]
    clear bx b_y h1
    go_enter Try.func12, Try.ntmps12
    go_wp2_with (first | (go_at_call 23; first | ((with_reducible refine (Hx _).mono ?_); rintro e w' ⟨rfl, rfl⟩) | ((with_reducible refine (Hy _).mono ?_); rintro e w' ⟨rfl, rfl⟩)) | fail)
    all_goals (go_ret; exact ⟨rfl, rfl⟩)
  have k2 : (y == 9223372036854775807) = false := by simp [h2]
  rw [if_neg (by omega)]
  by_cases h3 : x = 4611686018427387904 ∧ y = 4611686018427387904
  · obtain ⟨rfl, rfl⟩ := h3
    clear bx b_y h1 h2
    go_enter Try.func12, Try.ntmps12
    go_wp2_with (first | (go_at_call 23; first | ((with_reducible refine (Hx _).mono ?_); rintro e w' ⟨rfl, rfl⟩) | ((with_reducible refine (Hy _).mono ?_); rintro e w' ⟨rfl, rfl⟩)) | fail)
    all_goals (go_ret; exact ⟨rfl, rfl⟩)
  have hw : IntKind.i64.wrap (x + y) = x + y := isI_wrap (by unfold isI; omega)
  by_cases h4 : 4611686018427387904 < x + y
  · rw [decide_eq_true (Or.inr h4)]
    by_cases h5 : x = 4611686018427387904
    · have k5 : (x == 4611686018427387904) = true := by simp [h5]
      have k6 : (y == 4611686018427387904) = false := by simp; omega
      clear bx b_y h1 h2 h3 h5
      go_enter Try.func12, Try.ntmps12
      go_wp2_with (first | (go_at_call 23; first | ((with_reducible refine (Hx _).mono ?_); rintro e w' ⟨rfl, rfl⟩) | ((with_reducible refine (Hy _).mono ?_); rintro e w' ⟨rfl, rfl⟩)) | fail)
      all_goals (go_ret; first | exact ⟨rfl, rfl⟩ | (refine ⟨congrArg (fun x => Ending.returned (Value.bool x)) (by simp; omega), rfl⟩) | (refine ⟨congrArg (fun x => Ending.returned (Value.bool x)) (by simp), rfl⟩))
    · have k5 : (x == 4611686018427387904) = false := by simp [h5]
      clear bx b_y h1 h2 h3 h5
      go_enter Try.func12, Try.ntmps12
      go_wp2_with (first | (go_at_call 23; first | ((with_reducible refine (Hx _).mono ?_); rintro e w' ⟨rfl, rfl⟩) | ((with_reducible refine (Hy _).mono ?_); rintro e w' ⟨rfl, rfl⟩)) | fail)
      all_goals (go_ret; first | exact ⟨rfl, rfl⟩ | (refine ⟨congrArg (fun x => Ending.returned (Value.bool x)) (by simp; omega), rfl⟩) | (refine ⟨congrArg (fun x => Ending.returned (Value.bool x)) (by simp), rfl⟩))
  · by_cases h6 : x + y < -4611686018427387904
    · rw [decide_eq_true (Or.inl h6)]
      have k5 : (x == 4611686018427387904) = false := by simp; omega
      clear bx b_y h1 h2 h3
      go_enter Try.func12, Try.ntmps12
      go_wp2_with (first | (go_at_call 23; first | ((with_reducible refine (Hx _).mono ?_); rintro e w' ⟨rfl, rfl⟩) | ((with_reducible refine (Hy _).mono ?_); rintro e w' ⟨rfl, rfl⟩)) | fail)
      all_goals (go_ret; first | exact ⟨rfl, rfl⟩ | (refine ⟨congrArg (fun x => Ending.returned (Value.bool x)) (by simp; omega), rfl⟩) | (refine ⟨congrArg (fun x => Ending.returned (Value.bool x)) (by simp), rfl⟩))
    · rw [decide_eq_false (by omega)]
      by_cases h5 : x = 4611686018427387904
      · have k5 : (x == 4611686018427387904) = true := by simp [h5]
        have k6 : (y == 4611686018427387904) = false := by simp; omega
        clear bx b_y h1 h2 h3 h5
        go_enter Try.func12, Try.ntmps12
        go_wp2_with (first | (go_at_call 23; first | ((with_reducible refine (Hx _).mono ?_); rintro e w' ⟨rfl, rfl⟩) | ((with_reducible refine (Hy _).mono ?_); rintro e w' ⟨rfl, rfl⟩)) | fail)
        all_goals (go_ret; first | exact ⟨rfl, rfl⟩ | (refine ⟨congrArg (fun x => Ending.returned (Value.bool x)) (by simp; omega), rfl⟩) | (refine ⟨congrArg (fun x => Ending.returned (Value.bool x)) (by simp), rfl⟩))
      · have k5 : (x == 4611686018427387904) = false := by simp [h5]
        clear bx b_y h1 h2 h3 h5
        go_enter Try.func12, Try.ntmps12
        go_wp2_with (first | (go_at_call 23; first | ((with_reducible refine (Hx _).mono ?_); rintro e w' ⟨rfl, rfl⟩) | ((with_reducible refine (Hy _).mono ?_); rintro e w' ⟨rfl, rfl⟩)) | fail)
        all_goals (go_ret; first | exact ⟨rfl, rfl⟩ | (refine ⟨congrArg (fun x => Ending.returned (Value.bool x)) (by simp; omega), rfl⟩) | (refine ⟨congrArg (fun x => Ending.returned (Value.bool x)) (by simp), rfl⟩))

theorem tmod_two (x : Int) : x.tmod 2 = 0 ∨ (0 ≤ x ∧ x.tmod 2 = 1) ∨ (x ≤ 0 ∧ x.tmod 2 = -1) := by
  have h1 := Int.natAbs_tmod x 2
  have h2 : x.natAbs % 2 < 2 := Nat.mod_lt _ (by omega)
  have h3 : (x.tmod 2).natAbs < 2 := by rw [h1]; exact h2
  rcases Int.le_total 0 x with h | h
  · have := Int.tmod_nonneg 2 h
    omega
  · have := Int.tmod_nonneg 2 (a := -x) (by omega)
    rw [Int.neg_tmod] at this
    omega
set_option maxRecDepth 100000 in
set_option maxHeartbeats 4000000 in
theorem rhalf_any (a : Int) (w : World) :
    Calls Try.prog 14 #[.int .i64 a] w fun e w' => e = .returned (.int .i64 (halfV a)) ∧ w' = w := by
  have H := fun w => rnear_any a w
  have bx := near_bound a
  unfold halfV
  obtain ⟨x, hx⟩ : ∃ x, nearV a = x := ⟨_, rfl⟩
  rw [hx] at H bx ⊢
  clear hx
  unfold isBound at bx
  by_cases h1 : x = 9223372036854775807
  · subst h1
    rw [if_pos rfl]
    go_enter Try.func14, Try.ntmps14
    go_wp2_with (first | (go_at_call 23; (with_reducible refine (H _).mono ?_); rintro e w' ⟨rfl, rfl⟩) | fail)
    all_goals (go_ret; exact ⟨rfl, rfl⟩)
  · rw [if_neg h1]
    have k1 : (x == 9223372036854775807) = false := by simp [h1]
    have hq := Int.tdiv_mul_add_tmod x 2
    have hr := tmod_two x
    have hw := isI_wrap (x := x.tdiv 2) (by unfold isI; omega)
    have hw1 := isI_wrap (x := x.tdiv 2 - 1) (by unfold isI; omega)
    have hw2 := isI_wrap (x := x.tmod 2) (by unfold isI; omega)
    have hw3 := IntKind.wrap_i64 (x.tdiv 2)
    clear h1
    by_cases h2 : x < 0
    · by_cases h3 : x.tmod 2 = 0
      · have k3 : (x.tmod 2 == 0) = true := by simp [h3]
        have k4 : (x.tmod 2 != 0) = false := by simp [h3]
        have R : x.tdiv 2 = x / 2 := by omega
        clear h3 hq hr
        go_enter Try.func14, Try.ntmps14
        go_wp2_with (first | (go_at_call 23; (with_reducible refine (H _).mono ?_); rintro e w' ⟨rfl, rfl⟩) | fail)
        all_goals (go_ret; first | exact ⟨rfl, rfl⟩ | (refine ⟨congrArg (fun x => Ending.returned (Value.int .i64 x)) (by first | rfl | omega | (simp only [hw, hw1, R]) | (rw [IntKind.wrap_i64]; omega)), rfl⟩))
      · have k3 : (x.tmod 2 == 0) = false := by simp [h3]
        have k4 : (x.tmod 2 != 0) = true := by simp [h3]
        have R : x.tdiv 2 - 1 = x / 2 := by omega
        clear h3 hq hr
        go_enter Try.func14, Try.ntmps14
        go_wp2_with (first | (go_at_call 23; (with_reducible refine (H _).mono ?_); rintro e w' ⟨rfl, rfl⟩) | fail)
        all_goals (go_ret; first | exact ⟨rfl, rfl⟩ | (refine ⟨congrArg (fun x => Ending.returned (Value.int .i64 x)) (by first | rfl | omega | (simp only [hw, hw1, R]) | (rw [IntKind.wrap_i64]; omega)), rfl⟩))
    · have R : x.tdiv 2 = x / 2 := by omega
      clear hq hr
      go_enter Try.func14, Try.ntmps14
      go_wp2_with (first | (go_at_call 23; (with_reducible refine (H _).mono ?_); rintro e w' ⟨rfl, rfl⟩) | fail)
      all_goals (go_ret; first | exact ⟨rfl, rfl⟩ | (refine ⟨congrArg (fun x => Ending.returned (Value.int .i64 x)) (by first | rfl | omega | (simp only [hw, hw1, R]) | (rw [IntKind.wrap_i64]; omega)), rfl⟩))

set_option maxRecDepth 100000 in
set_option maxHeartbeats 4000000 in
theorem rtwice_any (a : Int) (w : World) :
    Calls Try.prog 16 #[.int .i64 a] w fun e w' => e = .returned (.int .i64 (plusV a a)) ∧ w' = w := by
  have H := fun w => rplus_any a a w
  go_enter Try.func16, Try.ntmps16
  go_wp2_with (first | (go_at_call 10; (with_reducible refine (H _).mono ?_); rintro e w' ⟨rfl, rfl⟩) | fail)
  all_goals (go_ret; exact ⟨rfl, rfl⟩)

set_option maxRecDepth 100000 in
set_option maxHeartbeats 4000000 in
theorem rless_any (a b : Int) (w : World) :
    Calls Try.prog 20 #[.int .i64 a, .int .i64 b] w fun e w' => e = .returned (.int .i64 (lessV a b)) ∧ w' = w := by
  have Hx := fun w => rnear_any a w
  have Hy := fun w => rnear_any b w
  unfold lessV
  obtain ⟨x, hx⟩ : ∃ x, nearV a = x := ⟨_, rfl⟩
  obtain ⟨y, hy⟩ : ∃ y, nearV b = y := ⟨_, rfl⟩
  rw [hx] at Hx ⊢
  rw [hy] at Hy ⊢
  clear hx hy
  go_enter Try.func20, Try.ntmps20
  go_wp2_with (first | (go_at_call 23; first | ((with_reducible refine (Hx _).mono ?_); rintro e w' ⟨rfl, rfl⟩) | ((with_reducible refine (Hy _).mono ?_); rintro e w' ⟨rfl, rfl⟩)) | fail)
  all_goals (go_ret; first | exact ⟨rfl, rfl⟩ | (refine ⟨congrArg (fun x => Ending.returned (Value.int .i64 x)) (by omega), rfl⟩))

end Go.Proofs.Ytkokcgegnfbceaa
