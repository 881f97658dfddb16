/-
  Layer 11's laws: known, and the three walks.
-/
import Derived.Test.YtkokcgegnfbceaaBndB
namespace Go.Proofs.Ytkokcgegnfbceaa
open Go Go.RowKit
theorem near_near (a : Int) : nearV (nearV a) = nearV a := near_same (near_bound a)
theorem half_near (a : Int) : halfV (nearV a) = halfV a := by unfold halfV; rw [near_near]
theorem even_two (a : Int) (h : ¬ nearV a = 9223372036854775807) : evenV a = 2 * halfV a ∧ -4611686018427387904 ≤ 2 * halfV a ∧ 2 * halfV a ≤ 4611686018427387904 := by
  have bx := near_bound a
  unfold isBound at bx
  have e : halfV a = nearV a / 2 := by unfold halfV; rw [if_neg h]
  have hb : isBound (halfV a) := half_bound a
  have hn := near_same hb
  have b1 : -4611686018427387904 ≤ 2 * halfV a ∧ 2 * halfV a ≤ 4611686018427387904 := by rw [e]; omega
  refine ⟨?_, b1⟩
  unfold evenV plusV
  rw [hn, if_neg (by omega), show halfV a + halfV a = 2 * halfV a by omega]
  exact near_same (Or.inr b1)
theorem even_inf (a : Int) (h : nearV a = 9223372036854775807) : evenV a = 9223372036854775807 := by
  have e : halfV a = 9223372036854775807 := by unfold halfV; rw [if_pos h]
  unfold evenV
  rw [e]; decide
set_option maxRecDepth 100000 in
set_option maxHeartbeats 4000000 in
theorem reven_any (a : Int) (w : World) :
    Calls Try.prog 18 #[.int .i64 a] w fun e w' => e = .returned (.int .i64 (evenV a)) ∧ w' = w := by
  have H := fun w => rnear_any a w
  have H2 := fun w => rhalf_any (nearV a) w
  rw [half_near] at H2
  have hi := even_inf a
  have ht := even_two a
  obtain ⟨x, hx⟩ : ∃ x, nearV a = x := ⟨_, rfl⟩
  obtain ⟨h, hh⟩ : ∃ h, halfV a = h := ⟨_, rfl⟩
  rw [hx] at H H2 hi ht
  rw [hh] at H2 ht
  clear hx hh
  by_cases h1 : x = 9223372036854775807
  · rw [hi h1]
    subst h1
    clear hi ht
    go_enter Try.func18, Try.ntmps18
    go_wp2_with (first | (go_at_call 23; (with_reducible refine (H _).mono ?_); rintro e w' ⟨rfl, rfl⟩) | (go_at_call 14; (with_reducible refine (H2 _).mono ?_); rintro e w' ⟨rfl, rfl⟩) | fail)
    all_goals (go_ret; exact ⟨rfl, rfl⟩)
  · obtain ⟨e, b1, b2⟩ := ht h1
    rw [e]
    have k1 : (x == 9223372036854775807) = false := by simp [h1]
    have hw : IntKind.i64.wrap (2 * h) = 2 * h := isI_wrap (by unfold isI; omega)
    clear hi ht e b1 b2 h1
    go_enter Try.func18, Try.ntmps18
    go_wp2_with (first | (go_at_call 23; (with_reducible refine (H _).mono ?_); rintro e w' ⟨rfl, rfl⟩) | (go_at_call 14; (with_reducible refine (H2 _).mono ?_); rintro e w' ⟨rfl, rfl⟩) | fail)
    all_goals (go_ret; exact ⟨rfl, rfl⟩)

set_option maxRecDepth 100000 in
set_option maxHeartbeats 4000000 in
theorem known_bnd  (w : World) :
    Calls Try.prog 6 #[] w fun e w' => e = .returned (.bool true) ∧ w' = w := by
  have H1 := fun w => plus_any 4611686018427387904 1 w
  have H2 := fun w => plus_any (-4611686018427387904) (-1) w
  have H3 := fun w => half_any (-3) w
  have H4 := fun w => even_any 5 w
  have H5 := fun w => less_any 3 2 w
  have H6 := fun w => is_any 5 w
  rw [show plusV 4611686018427387904 1 = 9223372036854775807 from by decide] at H1
  rw [show plusV (-4611686018427387904) (-1) = -4611686018427387904 from by decide] at H2
  rw [show halfV (-3) = -2 from by decide] at H3
  rw [show evenV 5 = 4 from by decide] at H4
  rw [show lessV 3 2 = 2 from by decide] at H5
  rw [show decide (isBound 5) = true from by decide] at H6
  go_enter Try.func6, Try.ntmps6
  go_wp2_with (first | (go_at_call 9; first | ((with_reducible refine (H1 _).mono ?_); rintro e w' ⟨rfl, rfl⟩) | ((with_reducible refine (H2 _).mono ?_); rintro e w' ⟨rfl, rfl⟩)) | (go_at_call 13; (with_reducible refine (H3 _).mono ?_); rintro e w' ⟨rfl, rfl⟩) | (go_at_call 17; (with_reducible refine (H4 _).mono ?_); rintro e w' ⟨rfl, rfl⟩) | (go_at_call 19; (with_reducible refine (H5 _).mono ?_); rintro e w' ⟨rfl, rfl⟩) | (go_at_call 7; (with_reducible refine (H6 _).mono ?_); rintro e w' ⟨rfl, rfl⟩) | fail)
  all_goals (go_ret; exact ⟨rfl, rfl⟩)

set_option maxRecDepth 100000 in
set_option maxHeartbeats 4000000 in
theorem exact_bnd (a b : Int) (w : World) :
    Calls Try.prog 3 #[.int .i64 a, .int .i64 b] w fun e w' => e = .returned (.bool true) ∧ w' = w := by
  have HK := fun w => known_bnd w
  have P0 := fun w => is_any a w
  have R0 := fun w => ris_any a w
  obtain ⟨v0, hv0⟩ : ∃ v, decide (isBound a) = v := ⟨_, rfl⟩
  rw [hv0] at P0 R0
  clear hv0
  have q0 : (v0 == v0) = true := by simp
  have P1 := fun w => plus_any a b w
  have R1 := fun w => rplus_any a b w
  obtain ⟨v1, hv1⟩ : ∃ v, plusV a b = v := ⟨_, rfl⟩
  rw [hv1] at P1 R1
  clear hv1
  have q1 : (v1 == v1) = true := by simp
  have P2 := fun w => sat_any a b w
  have R2 := fun w => rsat_any a b w
  obtain ⟨v2, hv2⟩ : ∃ v, satV a b = v := ⟨_, rfl⟩
  rw [hv2] at P2 R2
  clear hv2
  have q2 : (v2 == v2) = true := by simp
  have P3 := fun w => half_any a w
  have R3 := fun w => rhalf_any a w
  obtain ⟨v3, hv3⟩ : ∃ v, halfV a = v := ⟨_, rfl⟩
  rw [hv3] at P3 R3
  clear hv3
  have q3 : (v3 == v3) = true := by simp
  have P4 := fun w => twice_any a w
  have R4 := fun w => rtwice_any a w
  obtain ⟨v4, hv4⟩ : ∃ v, plusV a a = v := ⟨_, rfl⟩
  rw [hv4] at P4 R4
  clear hv4
  have q4 : (v4 == v4) = true := by simp
  have P5 := fun w => even_any a w
  have R5 := fun w => reven_any a w
  obtain ⟨v5, hv5⟩ : ∃ v, evenV a = v := ⟨_, rfl⟩
  rw [hv5] at P5 R5
  clear hv5
  have q5 : (v5 == v5) = true := by simp
  have P6 := fun w => less_any a b w
  have R6 := fun w => rless_any a b w
  obtain ⟨v6, hv6⟩ : ∃ v, lessV a b = v := ⟨_, rfl⟩
  rw [hv6] at P6 R6
  clear hv6
  have q6 : (v6 == v6) = true := by simp
  go_enter Try.func3, Try.ntmps3
  go_wp2_with (first | (go_at_call 6; (with_reducible refine (HK _).mono ?_); rintro e w' ⟨rfl, rfl⟩) | (go_at_call 7; (with_reducible refine (P0 _).mono ?_); rintro e w' ⟨rfl, rfl⟩) | (go_at_call 8; (with_reducible refine (R0 _).mono ?_); rintro e w' ⟨rfl, rfl⟩) | (go_at_call 9; (with_reducible refine (P1 _).mono ?_); rintro e w' ⟨rfl, rfl⟩) | (go_at_call 10; (with_reducible refine (R1 _).mono ?_); rintro e w' ⟨rfl, rfl⟩) | (go_at_call 11; (with_reducible refine (P2 _).mono ?_); rintro e w' ⟨rfl, rfl⟩) | (go_at_call 12; (with_reducible refine (R2 _).mono ?_); rintro e w' ⟨rfl, rfl⟩) | (go_at_call 13; (with_reducible refine (P3 _).mono ?_); rintro e w' ⟨rfl, rfl⟩) | (go_at_call 14; (with_reducible refine (R3 _).mono ?_); rintro e w' ⟨rfl, rfl⟩) | (go_at_call 15; (with_reducible refine (P4 _).mono ?_); rintro e w' ⟨rfl, rfl⟩) | (go_at_call 16; (with_reducible refine (R4 _).mono ?_); rintro e w' ⟨rfl, rfl⟩) | (go_at_call 17; (with_reducible refine (P5 _).mono ?_); rintro e w' ⟨rfl, rfl⟩) | (go_at_call 18; (with_reducible refine (R5 _).mono ?_); rintro e w' ⟨rfl, rfl⟩) | (go_at_call 19; (with_reducible refine (P6 _).mono ?_); rintro e w' ⟨rfl, rfl⟩) | (go_at_call 20; (with_reducible refine (R6 _).mono ?_); rintro e w' ⟨rfl, rfl⟩) | fail)
  all_goals (go_ret; first | exact ⟨rfl, rfl⟩ | (refine ⟨congrArg (fun x => Ending.returned (Value.bool x)) (by simp), rfl⟩))


theorem half_twice (a : Int) (ha : isBound a) (hs : satV a a = false) : halfV (plusV a a) = a := by
  have e := near_same ha
  unfold satV at hs
  rw [e] at hs
  unfold isBound at ha
  by_cases h : a = 9223372036854775807
  · subst h; decide
  · rw [if_neg (by omega)] at hs
    have hs2 := of_decide_eq_false hs
    have e2 : plusV a a = 2 * a := by
      unfold plusV
      rw [e, if_neg (by omega), show a + a = 2 * a by omega]
      exact near_same (Or.inr (by omega))
    rw [e2]
    unfold halfV
    rw [near_same (Or.inr (by omega)), if_neg (by omega)]
    omega
theorem even_le (a : Int) : evenV a ≤ lessV a 9223372036854775807 := by
  have b := near_bound a
  unfold isBound at b
  have n : nearV 9223372036854775807 = 9223372036854775807 := by decide
  unfold lessV
  rw [n]
  by_cases h : nearV a = 9223372036854775807
  · rw [even_inf a h, h]; decide
  · rw [(even_two a h).1]
    unfold halfV
    rw [if_neg h]
    omega
set_option maxRecDepth 100000 in
set_option maxHeartbeats 4000000 in
theorem halves_bnd (a : Int) (w : World) :
    Calls Try.prog 5 #[.int .i64 a] w fun e w' => e = .returned (.bool true) ∧ w' = w := by
  have HK := fun w => known_bnd w
  have H1 := fun w => half_any a w
  have H2 := fun w => twice_any (halfV a) w
  have H3 := fun w => even_any a w
  have H4 := fun w => less_any a 9223372036854775807 w
  have H5 := fun w => is_any a w
  have H6 := fun w => sat_any a a w
  have H7 := fun w => twice_any a w
  have H8 := fun w => half_any (plusV a a) w
  have hle := even_le a
  have hht := half_twice a
  unfold evenV at H3 hle
  obtain ⟨h, hh⟩ : ∃ h, halfV a = h := ⟨_, rfl⟩
  rw [hh] at H1 H2 H3 hle
  obtain ⟨v, hv⟩ : ∃ v, plusV h h = v := ⟨_, rfl⟩
  rw [hv] at H2 H3 hle
  obtain ⟨l, hl⟩ : ∃ l, lessV a 9223372036854775807 = l := ⟨_, rfl⟩
  rw [hl] at H4 hle
  obtain ⟨p, hp⟩ : ∃ p, plusV a a = p := ⟨_, rfl⟩
  rw [hp] at H7 H8 hht
  obtain ⟨z, hz⟩ : ∃ z, halfV p = z := ⟨_, rfl⟩
  rw [hz] at H8 hht
  have q1 : (v == v) = true := by simp
  have q2 : (v != v) = false := by simp
  have q3 : decide (l < v) = false := decide_eq_false (by omega)
  clear hh hv hl hp hz
  by_cases k : isBound a
  · rw [decide_eq_true k] at H5
    by_cases s : satV a a = false
    · rw [s] at H6
      have e := hht k s
      have q4 : (z == a) = true := by simp [e]
      clear hht e k s
      go_enter Try.func5, Try.ntmps5
      go_wp2_with (first | (go_at_call 13; first | ((with_reducible refine (H1 _).mono ?_); rintro e w' ⟨rfl, rfl⟩) | ((with_reducible refine (H8 _).mono ?_); rintro e w' ⟨rfl, rfl⟩)) | (go_at_call 15; first | ((with_reducible refine (H2 _).mono ?_); rintro e w' ⟨rfl, rfl⟩) | ((with_reducible refine (H7 _).mono ?_); rintro e w' ⟨rfl, rfl⟩)) | (go_at_call 6; (with_reducible refine (HK _).mono ?_); rintro e w' ⟨rfl, rfl⟩) | (go_at_call 17; (with_reducible refine (H3 _).mono ?_); rintro e w' ⟨rfl, rfl⟩) | (go_at_call 19; (with_reducible refine (H4 _).mono ?_); rintro e w' ⟨rfl, rfl⟩) | (go_at_call 7; (with_reducible refine (H5 _).mono ?_); rintro e w' ⟨rfl, rfl⟩) | (go_at_call 11; (with_reducible refine (H6 _).mono ?_); rintro e w' ⟨rfl, rfl⟩) | fail)
      all_goals (go_ret; first | exact ⟨rfl, rfl⟩ | (refine ⟨congrArg (fun x => Ending.returned (Value.bool x)) (by simpa using q4), rfl⟩))
    · rw [show satV a a = true from by simpa using s] at H6
      clear hht k s
      go_enter Try.func5, Try.ntmps5
      go_wp2_with (first | (go_at_call 13; first | ((with_reducible refine (H1 _).mono ?_); rintro e w' ⟨rfl, rfl⟩) | ((with_reducible refine (H8 _).mono ?_); rintro e w' ⟨rfl, rfl⟩)) | (go_at_call 15; first | ((with_reducible refine (H2 _).mono ?_); rintro e w' ⟨rfl, rfl⟩) | ((with_reducible refine (H7 _).mono ?_); rintro e w' ⟨rfl, rfl⟩)) | (go_at_call 6; (with_reducible refine (HK _).mono ?_); rintro e w' ⟨rfl, rfl⟩) | (go_at_call 17; (with_reducible refine (H3 _).mono ?_); rintro e w' ⟨rfl, rfl⟩) | (go_at_call 19; (with_reducible refine (H4 _).mono ?_); rintro e w' ⟨rfl, rfl⟩) | (go_at_call 7; (with_reducible refine (H5 _).mono ?_); rintro e w' ⟨rfl, rfl⟩) | (go_at_call 11; (with_reducible refine (H6 _).mono ?_); rintro e w' ⟨rfl, rfl⟩) | fail)
      all_goals (go_ret; first | exact ⟨rfl, rfl⟩)
  · rw [decide_eq_false k] at H5
    clear hht k
    go_enter Try.func5, Try.ntmps5
    go_wp2_with (first | (go_at_call 13; first | ((with_reducible refine (H1 _).mono ?_); rintro e w' ⟨rfl, rfl⟩) | ((with_reducible refine (H8 _).mono ?_); rintro e w' ⟨rfl, rfl⟩)) | (go_at_call 15; first | ((with_reducible refine (H2 _).mono ?_); rintro e w' ⟨rfl, rfl⟩) | ((with_reducible refine (H7 _).mono ?_); rintro e w' ⟨rfl, rfl⟩)) | (go_at_call 6; (with_reducible refine (HK _).mono ?_); rintro e w' ⟨rfl, rfl⟩) | (go_at_call 17; (with_reducible refine (H3 _).mono ?_); rintro e w' ⟨rfl, rfl⟩) | (go_at_call 19; (with_reducible refine (H4 _).mono ?_); rintro e w' ⟨rfl, rfl⟩) | (go_at_call 7; (with_reducible refine (H5 _).mono ?_); rintro e w' ⟨rfl, rfl⟩) | (go_at_call 11; (with_reducible refine (H6 _).mono ?_); rintro e w' ⟨rfl, rfl⟩) | fail)
    all_goals (go_ret; first | exact ⟨rfl, rfl⟩)

end Go.Proofs.Ytkokcgegnfbceaa
