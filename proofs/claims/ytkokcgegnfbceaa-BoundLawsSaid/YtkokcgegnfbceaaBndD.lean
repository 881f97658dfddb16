/-
  BoundLaws' walk: sums go both ways, rise, and go together where nothing saturates.
-/
import Derived.Test.YtkokcgegnfbceaaBndC
namespace Go.Proofs.Ytkokcgegnfbceaa
open Go Go.RowKit
theorem plus_comm (a b : Int) : plusV a b = plusV b a := by
  unfold plusV
  rw [Int.add_comm (nearV a)]
  by_cases h : nearV a = 9223372036854775807 ∨ nearV b = 9223372036854775807
  · rw [if_pos h, if_pos h.symm]
  · rw [if_neg h, if_neg (fun k => h k.symm)]
theorem plus_mono {a c : Int} (b : Int) (h : a ≤ c) : plusV a b ≤ plusV c b := by
  have h1 := near_mono h
  have ba := near_bound a
  have bb := near_bound b
  have bc := near_bound c
  unfold plusV
  obtain ⟨x, hx⟩ : ∃ x, nearV a = x := ⟨_, rfl⟩
  obtain ⟨y, hy⟩ : ∃ y, nearV b = y := ⟨_, rfl⟩
  obtain ⟨z, hz⟩ : ∃ z, nearV c = z := ⟨_, rfl⟩
  rw [hx] at h1 ba ⊢
  rw [hy] at bb ⊢
  rw [hz] at h1 bc ⊢
  unfold isBound at ba bb bc
  by_cases k : z = 9223372036854775807 ∨ y = 9223372036854775807
  · rw [if_pos k]
    split
    · exact Int.le_refl _
    · have := near_bound (x + y)
      unfold isBound at this
      omega
  · rw [if_neg k, if_neg (by omega)]
    exact near_mono (by omega)
theorem plus_exact {a b : Int} (ha : isBound a) (hb : isBound b) (h : satV a b = false) : plusV a b = (if a = 9223372036854775807 ∨ b = 9223372036854775807 then 9223372036854775807 else a + b) ∧ (¬ (a = 9223372036854775807 ∨ b = 9223372036854775807) → -4611686018427387904 ≤ a + b ∧ a + b ≤ 4611686018427387904) := by
  unfold satV at h
  unfold plusV
  rw [near_same ha, near_same hb] at *
  by_cases k : a = 9223372036854775807 ∨ b = 9223372036854775807
  · rw [if_pos k, if_pos k]
    exact ⟨rfl, fun h => absurd k h⟩
  · rw [if_neg k] at h
    have h2 := of_decide_eq_false h
    rw [if_neg k, if_neg k]
    exact ⟨near_same (Or.inr (by omega)), fun _ => by omega⟩
theorem sat_near (a b : Int) : satV (nearV a) (nearV b) = satV a b := by unfold satV; rw [near_near, near_near]
theorem plus_near (a b : Int) : plusV (nearV a) (nearV b) = plusV a b := by unfold plusV; rw [near_near, near_near]
theorem assoc_b {x y z : Int} (ba : isBound x) (bb : isBound y) (bc : isBound z) (h1 : satV x y = false) (h2 : satV y z = false) (h3 : satV (plusV x y) z = false) (h4 : satV x (plusV y z) = false) : plusV (plusV x y) z = plusV x (plusV y z) := by
  obtain ⟨e1, f1⟩ := plus_exact ba bb h1
  obtain ⟨e2, f2⟩ := plus_exact bb bc h2
  obtain ⟨e3, f3⟩ := plus_exact (plus_bound x y) bc h3
  obtain ⟨e4, f4⟩ := plus_exact ba (plus_bound y z) h4
  rw [e3, e4]
  unfold isBound at ba bb bc
  obtain ⟨p, hp⟩ : ∃ p, plusV x y = p := ⟨_, rfl⟩
  obtain ⟨q, hq⟩ : ∃ q, plusV y z = q := ⟨_, rfl⟩
  rw [hp] at e1 f3 ⊢
  rw [hq] at e2 f4 ⊢
  clear h1 h2 h3 h4 e3 e4 hp hq
  by_cases k1 : x = 9223372036854775807
  · rw [if_pos (Or.inl k1)] at e1
    rw [if_pos (Or.inl e1), if_pos (Or.inl k1)]
  by_cases k2 : y = 9223372036854775807
  · rw [if_pos (Or.inr k2)] at e1
    rw [if_pos (Or.inl k2)] at e2
    rw [if_pos (Or.inl e1), if_pos (Or.inr e2)]
  by_cases k3 : z = 9223372036854775807
  · rw [if_pos (Or.inr k3)] at e2
    rw [if_pos (Or.inr k3), if_pos (Or.inr e2)]
  have g1 := f1 (by omega)
  have g2 := f2 (by omega)
  rw [if_neg (by omega)] at e1 e2
  rw [if_neg (by omega), if_neg (by omega)]
  omega
theorem plus_assoc (a b c : Int) (h1 : satV a b = false) (h2 : satV b c = false) (h3 : satV (plusV a b) c = false) (h4 : satV a (plusV b c) = false) : plusV (plusV a b) c = plusV a (plusV b c) := by
  have pab := near_same (plus_bound a b)
  have pbc := near_same (plus_bound b c)
  rw [← sat_near, pab] at h3
  rw [← sat_near, pbc] at h4
  rw [← sat_near] at h1 h2
  have e1 := plus_near (plusV a b) c
  have e2 := plus_near a (plusV b c)
  rw [pab] at e1
  rw [pbc] at e2
  rw [← e1, ← e2]
  rw [← plus_near a b] at h3 ⊢
  rw [← plus_near b c] at h4 ⊢
  exact assoc_b (near_bound a) (near_bound b) (near_bound c) h1 h2 h3 h4
set_option maxRecDepth 100000 in
set_option maxHeartbeats 4000000 in
theorem laws_bnd (a b c : Int) (w : World) :
    Calls Try.prog 4 #[.int .i64 a, .int .i64 b, .int .i64 c] w fun e w' => e = .returned (.bool true) ∧ w' = w := by
  have HK := fun w => known_bnd w
  have S1 := fun w => plus_any a b w
  have S2 := fun w => plus_any b a w
  have S3 := fun w => plus_any c b w
  have S4 := fun w => plus_any b c w
  have S5 := fun w => plus_any (plusV a b) c w
  have S6 := fun w => plus_any a (plusV b c) w
  have I1 := fun w => is_any (plusV a b) w
  have I2 := fun w => is_any (halfV a) w
  have I3 := fun w => is_any (evenV a) w
  have I4 := fun w => is_any (lessV a b) w
  have T1 := fun w => sat_any a b w
  have T2 := fun w => sat_any b c w
  have T3 := fun w => sat_any (plusV a b) c w
  have T4 := fun w => sat_any a (plusV b c) w
  have X1 := fun w => half_any a w
  have X2 := fun w => even_any a w
  have X3 := fun w => less_any a b w
  rw [decide_eq_true (plus_bound a b)] at I1
  rw [decide_eq_true (half_bound a)] at I2
  rw [decide_eq_true (show isBound (evenV a) from plus_bound _ _)] at I3
  rw [decide_eq_true (less_bound a b)] at I4
  rw [← plus_comm a b] at S2
  have hm := fun h : a ≤ c => plus_mono b h
  have has := plus_assoc a b c
  obtain ⟨s, hs⟩ : ∃ s, plusV a b = s := ⟨_, rfl⟩
  rw [hs] at S1 S2 S5 I1 T3 hm has
  obtain ⟨m, hm2⟩ : ∃ m, plusV c b = m := ⟨_, rfl⟩
  rw [hm2] at S3 hm
  obtain ⟨r, hr⟩ : ∃ r, plusV b c = r := ⟨_, rfl⟩
  rw [hr] at S4 S6 T4 has
  obtain ⟨p, hp⟩ : ∃ p, plusV s c = p := ⟨_, rfl⟩
  rw [hp] at S5 has
  obtain ⟨q, hq⟩ : ∃ q, plusV a r = q := ⟨_, rfl⟩
  rw [hq] at S6 has
  obtain ⟨x1, hx1⟩ : ∃ x, halfV a = x := ⟨_, rfl⟩
  rw [hx1] at I2 X1
  obtain ⟨x2, hx2⟩ : ∃ x, evenV a = x := ⟨_, rfl⟩
  rw [hx2] at I3 X2
  obtain ⟨x3, hx3⟩ : ∃ x, lessV a b = x := ⟨_, rfl⟩
  rw [hx3] at I4 X3
  obtain ⟨t1, ht1⟩ : ∃ x, satV a b = x := ⟨_, rfl⟩
  obtain ⟨t2, ht2⟩ : ∃ x, satV b c = x := ⟨_, rfl⟩
  obtain ⟨t3, ht3⟩ : ∃ x, satV s c = x := ⟨_, rfl⟩
  obtain ⟨t4, ht4⟩ : ∃ x, satV a r = x := ⟨_, rfl⟩
  rw [ht1] at T1 has
  rw [ht2] at T2 has
  rw [ht3] at T3 has
  rw [ht4] at T4 has
  clear hs hm2 hr hp hq hx1 hx2 hx3 ht1 ht2 ht3 ht4
  have q1 : (s != s) = false := by simp
  by_cases h1 : a ≤ c
  · have q2 : decide (m < s) = false := decide_eq_false (by have := hm h1; omega)
    clear hm
    cases t1
    · cases t2
      · cases t3
        · cases t4
          · have e := has rfl rfl rfl rfl
            have q3 : (p == q) = true := by simp [e]
            clear has e
            go_enter Try.func4, Try.ntmps4
            go_wp2_with (first | (go_at_call 6; first | ((with_reducible refine (HK _).mono ?_); rintro e w' ⟨rfl, rfl⟩)) | (go_at_call 9; first | ((with_reducible refine (S1 _).mono ?_); rintro e w' ⟨rfl, rfl⟩) | ((with_reducible refine (S2 _).mono ?_); rintro e w' ⟨rfl, rfl⟩) | ((with_reducible refine (S3 _).mono ?_); rintro e w' ⟨rfl, rfl⟩) | ((with_reducible refine (S4 _).mono ?_); rintro e w' ⟨rfl, rfl⟩) | ((with_reducible refine (S5 _).mono ?_); rintro e w' ⟨rfl, rfl⟩) | ((with_reducible refine (S6 _).mono ?_); rintro e w' ⟨rfl, rfl⟩)) | (go_at_call 7; first | ((with_reducible refine (I1 _).mono ?_); rintro e w' ⟨rfl, rfl⟩) | ((with_reducible refine (I2 _).mono ?_); rintro e w' ⟨rfl, rfl⟩) | ((with_reducible refine (I3 _).mono ?_); rintro e w' ⟨rfl, rfl⟩) | ((with_reducible refine (I4 _).mono ?_); rintro e w' ⟨rfl, rfl⟩)) | (go_at_call 11; first | ((with_reducible refine (T1 _).mono ?_); rintro e w' ⟨rfl, rfl⟩) | ((with_reducible refine (T2 _).mono ?_); rintro e w' ⟨rfl, rfl⟩) | ((with_reducible refine (T3 _).mono ?_); rintro e w' ⟨rfl, rfl⟩) | ((with_reducible refine (T4 _).mono ?_); rintro e w' ⟨rfl, rfl⟩)) | (go_at_call 13; first | ((with_reducible refine (X1 _).mono ?_); rintro e w' ⟨rfl, rfl⟩)) | (go_at_call 17; first | ((with_reducible refine (X2 _).mono ?_); rintro e w' ⟨rfl, rfl⟩)) | (go_at_call 19; first | ((with_reducible refine (X3 _).mono ?_); rintro e w' ⟨rfl, rfl⟩)) | fail)
            all_goals (go_ret; first | exact ⟨rfl, rfl⟩ | (refine ⟨congrArg (fun x => Ending.returned (Value.bool x)) (by simpa using q3), rfl⟩))
          · clear has
            go_enter Try.func4, Try.ntmps4
            go_wp2_with (first | (go_at_call 6; first | ((with_reducible refine (HK _).mono ?_); rintro e w' ⟨rfl, rfl⟩)) | (go_at_call 9; first | ((with_reducible refine (S1 _).mono ?_); rintro e w' ⟨rfl, rfl⟩) | ((with_reducible refine (S2 _).mono ?_); rintro e w' ⟨rfl, rfl⟩) | ((with_reducible refine (S3 _).mono ?_); rintro e w' ⟨rfl, rfl⟩) | ((with_reducible refine (S4 _).mono ?_); rintro e w' ⟨rfl, rfl⟩) | ((with_reducible refine (S5 _).mono ?_); rintro e w' ⟨rfl, rfl⟩) | ((with_reducible refine (S6 _).mono ?_); rintro e w' ⟨rfl, rfl⟩)) | (go_at_call 7; first | ((with_reducible refine (I1 _).mono ?_); rintro e w' ⟨rfl, rfl⟩) | ((with_reducible refine (I2 _).mono ?_); rintro e w' ⟨rfl, rfl⟩) | ((with_reducible refine (I3 _).mono ?_); rintro e w' ⟨rfl, rfl⟩) | ((with_reducible refine (I4 _).mono ?_); rintro e w' ⟨rfl, rfl⟩)) | (go_at_call 11; first | ((with_reducible refine (T1 _).mono ?_); rintro e w' ⟨rfl, rfl⟩) | ((with_reducible refine (T2 _).mono ?_); rintro e w' ⟨rfl, rfl⟩) | ((with_reducible refine (T3 _).mono ?_); rintro e w' ⟨rfl, rfl⟩) | ((with_reducible refine (T4 _).mono ?_); rintro e w' ⟨rfl, rfl⟩)) | (go_at_call 13; first | ((with_reducible refine (X1 _).mono ?_); rintro e w' ⟨rfl, rfl⟩)) | (go_at_call 17; first | ((with_reducible refine (X2 _).mono ?_); rintro e w' ⟨rfl, rfl⟩)) | (go_at_call 19; first | ((with_reducible refine (X3 _).mono ?_); rintro e w' ⟨rfl, rfl⟩)) | fail)
            all_goals (go_ret; first | exact ⟨rfl, rfl⟩ | (refine ⟨congrArg (fun x => Ending.returned (Value.bool x)) (by simpa using q3), rfl⟩))
        · clear has
          go_enter Try.func4, Try.ntmps4
          go_wp2_with (first | (go_at_call 6; first | ((with_reducible refine (HK _).mono ?_); rintro e w' ⟨rfl, rfl⟩)) | (go_at_call 9; first | ((with_reducible refine (S1 _).mono ?_); rintro e w' ⟨rfl, rfl⟩) | ((with_reducible refine (S2 _).mono ?_); rintro e w' ⟨rfl, rfl⟩) | ((with_reducible refine (S3 _).mono ?_); rintro e w' ⟨rfl, rfl⟩) | ((with_reducible refine (S4 _).mono ?_); rintro e w' ⟨rfl, rfl⟩) | ((with_reducible refine (S5 _).mono ?_); rintro e w' ⟨rfl, rfl⟩) | ((with_reducible refine (S6 _).mono ?_); rintro e w' ⟨rfl, rfl⟩)) | (go_at_call 7; first | ((with_reducible refine (I1 _).mono ?_); rintro e w' ⟨rfl, rfl⟩) | ((with_reducible refine (I2 _).mono ?_); rintro e w' ⟨rfl, rfl⟩) | ((with_reducible refine (I3 _).mono ?_); rintro e w' ⟨rfl, rfl⟩) | ((with_reducible refine (I4 _).mono ?_); rintro e w' ⟨rfl, rfl⟩)) | (go_at_call 11; first | ((with_reducible refine (T1 _).mono ?_); rintro e w' ⟨rfl, rfl⟩) | ((with_reducible refine (T2 _).mono ?_); rintro e w' ⟨rfl, rfl⟩) | ((with_reducible refine (T3 _).mono ?_); rintro e w' ⟨rfl, rfl⟩) | ((with_reducible refine (T4 _).mono ?_); rintro e w' ⟨rfl, rfl⟩)) | (go_at_call 13; first | ((with_reducible refine (X1 _).mono ?_); rintro e w' ⟨rfl, rfl⟩)) | (go_at_call 17; first | ((with_reducible refine (X2 _).mono ?_); rintro e w' ⟨rfl, rfl⟩)) | (go_at_call 19; first | ((with_reducible refine (X3 _).mono ?_); rintro e w' ⟨rfl, rfl⟩)) | fail)
          all_goals (go_ret; first | exact ⟨rfl, rfl⟩ | (refine ⟨congrArg (fun x => Ending.returned (Value.bool x)) (by simpa using q3), rfl⟩))
      · clear has
        go_enter Try.func4, Try.ntmps4
        go_wp2_with (first | (go_at_call 6; first | ((with_reducible refine (HK _).mono ?_); rintro e w' ⟨rfl, rfl⟩)) | (go_at_call 9; first | ((with_reducible refine (S1 _).mono ?_); rintro e w' ⟨rfl, rfl⟩) | ((with_reducible refine (S2 _).mono ?_); rintro e w' ⟨rfl, rfl⟩) | ((with_reducible refine (S3 _).mono ?_); rintro e w' ⟨rfl, rfl⟩) | ((with_reducible refine (S4 _).mono ?_); rintro e w' ⟨rfl, rfl⟩) | ((with_reducible refine (S5 _).mono ?_); rintro e w' ⟨rfl, rfl⟩) | ((with_reducible refine (S6 _).mono ?_); rintro e w' ⟨rfl, rfl⟩)) | (go_at_call 7; first | ((with_reducible refine (I1 _).mono ?_); rintro e w' ⟨rfl, rfl⟩) | ((with_reducible refine (I2 _).mono ?_); rintro e w' ⟨rfl, rfl⟩) | ((with_reducible refine (I3 _).mono ?_); rintro e w' ⟨rfl, rfl⟩) | ((with_reducible refine (I4 _).mono ?_); rintro e w' ⟨rfl, rfl⟩)) | (go_at_call 11; first | ((with_reducible refine (T1 _).mono ?_); rintro e w' ⟨rfl, rfl⟩) | ((with_reducible refine (T2 _).mono ?_); rintro e w' ⟨rfl, rfl⟩) | ((with_reducible refine (T3 _).mono ?_); rintro e w' ⟨rfl, rfl⟩) | ((with_reducible refine (T4 _).mono ?_); rintro e w' ⟨rfl, rfl⟩)) | (go_at_call 13; first | ((with_reducible refine (X1 _).mono ?_); rintro e w' ⟨rfl, rfl⟩)) | (go_at_call 17; first | ((with_reducible refine (X2 _).mono ?_); rintro e w' ⟨rfl, rfl⟩)) | (go_at_call 19; first | ((with_reducible refine (X3 _).mono ?_); rintro e w' ⟨rfl, rfl⟩)) | fail)
        all_goals (go_ret; first | exact ⟨rfl, rfl⟩ | (refine ⟨congrArg (fun x => Ending.returned (Value.bool x)) (by simpa using q3), rfl⟩))
    · clear has
      go_enter Try.func4, Try.ntmps4
      go_wp2_with (first | (go_at_call 6; first | ((with_reducible refine (HK _).mono ?_); rintro e w' ⟨rfl, rfl⟩)) | (go_at_call 9; first | ((with_reducible refine (S1 _).mono ?_); rintro e w' ⟨rfl, rfl⟩) | ((with_reducible refine (S2 _).mono ?_); rintro e w' ⟨rfl, rfl⟩) | ((with_reducible refine (S3 _).mono ?_); rintro e w' ⟨rfl, rfl⟩) | ((with_reducible refine (S4 _).mono ?_); rintro e w' ⟨rfl, rfl⟩) | ((with_reducible refine (S5 _).mono ?_); rintro e w' ⟨rfl, rfl⟩) | ((with_reducible refine (S6 _).mono ?_); rintro e w' ⟨rfl, rfl⟩)) | (go_at_call 7; first | ((with_reducible refine (I1 _).mono ?_); rintro e w' ⟨rfl, rfl⟩) | ((with_reducible refine (I2 _).mono ?_); rintro e w' ⟨rfl, rfl⟩) | ((with_reducible refine (I3 _).mono ?_); rintro e w' ⟨rfl, rfl⟩) | ((with_reducible refine (I4 _).mono ?_); rintro e w' ⟨rfl, rfl⟩)) | (go_at_call 11; first | ((with_reducible refine (T1 _).mono ?_); rintro e w' ⟨rfl, rfl⟩) | ((with_reducible refine (T2 _).mono ?_); rintro e w' ⟨rfl, rfl⟩) | ((with_reducible refine (T3 _).mono ?_); rintro e w' ⟨rfl, rfl⟩) | ((with_reducible refine (T4 _).mono ?_); rintro e w' ⟨rfl, rfl⟩)) | (go_at_call 13; first | ((with_reducible refine (X1 _).mono ?_); rintro e w' ⟨rfl, rfl⟩)) | (go_at_call 17; first | ((with_reducible refine (X2 _).mono ?_); rintro e w' ⟨rfl, rfl⟩)) | (go_at_call 19; first | ((with_reducible refine (X3 _).mono ?_); rintro e w' ⟨rfl, rfl⟩)) | fail)
      all_goals (go_ret; first | exact ⟨rfl, rfl⟩ | (refine ⟨congrArg (fun x => Ending.returned (Value.bool x)) (by simpa using q3), rfl⟩))
  · clear hm
    cases t1
    · cases t2
      · cases t3
        · cases t4
          · have e := has rfl rfl rfl rfl
            have q3 : (p == q) = true := by simp [e]
            clear has e
            go_enter Try.func4, Try.ntmps4
            go_wp2_with (first | (go_at_call 6; first | ((with_reducible refine (HK _).mono ?_); rintro e w' ⟨rfl, rfl⟩)) | (go_at_call 9; first | ((with_reducible refine (S1 _).mono ?_); rintro e w' ⟨rfl, rfl⟩) | ((with_reducible refine (S2 _).mono ?_); rintro e w' ⟨rfl, rfl⟩) | ((with_reducible refine (S3 _).mono ?_); rintro e w' ⟨rfl, rfl⟩) | ((with_reducible refine (S4 _).mono ?_); rintro e w' ⟨rfl, rfl⟩) | ((with_reducible refine (S5 _).mono ?_); rintro e w' ⟨rfl, rfl⟩) | ((with_reducible refine (S6 _).mono ?_); rintro e w' ⟨rfl, rfl⟩)) | (go_at_call 7; first | ((with_reducible refine (I1 _).mono ?_); rintro e w' ⟨rfl, rfl⟩) | ((with_reducible refine (I2 _).mono ?_); rintro e w' ⟨rfl, rfl⟩) | ((with_reducible refine (I3 _).mono ?_); rintro e w' ⟨rfl, rfl⟩) | ((with_reducible refine (I4 _).mono ?_); rintro e w' ⟨rfl, rfl⟩)) | (go_at_call 11; first | ((with_reducible refine (T1 _).mono ?_); rintro e w' ⟨rfl, rfl⟩) | ((with_reducible refine (T2 _).mono ?_); rintro e w' ⟨rfl, rfl⟩) | ((with_reducible refine (T3 _).mono ?_); rintro e w' ⟨rfl, rfl⟩) | ((with_reducible refine (T4 _).mono ?_); rintro e w' ⟨rfl, rfl⟩)) | (go_at_call 13; first | ((with_reducible refine (X1 _).mono ?_); rintro e w' ⟨rfl, rfl⟩)) | (go_at_call 17; first | ((with_reducible refine (X2 _).mono ?_); rintro e w' ⟨rfl, rfl⟩)) | (go_at_call 19; first | ((with_reducible refine (X3 _).mono ?_); rintro e w' ⟨rfl, rfl⟩)) | fail)
            all_goals (go_ret; first | exact ⟨rfl, rfl⟩ | (refine ⟨congrArg (fun x => Ending.returned (Value.bool x)) (by simpa using q3), rfl⟩))
          · clear has
            go_enter Try.func4, Try.ntmps4
            go_wp2_with (first | (go_at_call 6; first | ((with_reducible refine (HK _).mono ?_); rintro e w' ⟨rfl, rfl⟩)) | (go_at_call 9; first | ((with_reducible refine (S1 _).mono ?_); rintro e w' ⟨rfl, rfl⟩) | ((with_reducible refine (S2 _).mono ?_); rintro e w' ⟨rfl, rfl⟩) | ((with_reducible refine (S3 _).mono ?_); rintro e w' ⟨rfl, rfl⟩) | ((with_reducible refine (S4 _).mono ?_); rintro e w' ⟨rfl, rfl⟩) | ((with_reducible refine (S5 _).mono ?_); rintro e w' ⟨rfl, rfl⟩) | ((with_reducible refine (S6 _).mono ?_); rintro e w' ⟨rfl, rfl⟩)) | (go_at_call 7; first | ((with_reducible refine (I1 _).mono ?_); rintro e w' ⟨rfl, rfl⟩) | ((with_reducible refine (I2 _).mono ?_); rintro e w' ⟨rfl, rfl⟩) | ((with_reducible refine (I3 _).mono ?_); rintro e w' ⟨rfl, rfl⟩) | ((with_reducible refine (I4 _).mono ?_); rintro e w' ⟨rfl, rfl⟩)) | (go_at_call 11; first | ((with_reducible refine (T1 _).mono ?_); rintro e w' ⟨rfl, rfl⟩) | ((with_reducible refine (T2 _).mono ?_); rintro e w' ⟨rfl, rfl⟩) | ((with_reducible refine (T3 _).mono ?_); rintro e w' ⟨rfl, rfl⟩) | ((with_reducible refine (T4 _).mono ?_); rintro e w' ⟨rfl, rfl⟩)) | (go_at_call 13; first | ((with_reducible refine (X1 _).mono ?_); rintro e w' ⟨rfl, rfl⟩)) | (go_at_call 17; first | ((with_reducible refine (X2 _).mono ?_); rintro e w' ⟨rfl, rfl⟩)) | (go_at_call 19; first | ((with_reducible refine (X3 _).mono ?_); rintro e w' ⟨rfl, rfl⟩)) | fail)
            all_goals (go_ret; first | exact ⟨rfl, rfl⟩ | (refine ⟨congrArg (fun x => Ending.returned (Value.bool x)) (by simpa using q3), rfl⟩))
        · clear has
          go_enter Try.func4, Try.ntmps4
          go_wp2_with (first | (go_at_call 6; first | ((with_reducible refine (HK _).mono ?_); rintro e w' ⟨rfl, rfl⟩)) | (go_at_call 9; first | ((with_reducible refine (S1 _).mono ?_); rintro e w' ⟨rfl, rfl⟩) | ((with_reducible refine (S2 _).mono ?_); rintro e w' ⟨rfl, rfl⟩) | ((with_reducible refine (S3 _).mono ?_); rintro e w' ⟨rfl, rfl⟩) | ((with_reducible refine (S4 _).mono ?_); rintro e w' ⟨rfl, rfl⟩) | ((with_reducible refine (S5 _).mono ?_); rintro e w' ⟨rfl, rfl⟩) | ((with_reducible refine (S6 _).mono ?_); rintro e w' ⟨rfl, rfl⟩)) | (go_at_call 7; first | ((with_reducible refine (I1 _).mono ?_); rintro e w' ⟨rfl, rfl⟩) | ((with_reducible refine (I2 _).mono ?_); rintro e w' ⟨rfl, rfl⟩) | ((with_reducible refine (I3 _).mono ?_); rintro e w' ⟨rfl, rfl⟩) | ((with_reducible refine (I4 _).mono ?_); rintro e w' ⟨rfl, rfl⟩)) | (go_at_call 11; first | ((with_reducible refine (T1 _).mono ?_); rintro e w' ⟨rfl, rfl⟩) | ((with_reducible refine (T2 _).mono ?_); rintro e w' ⟨rfl, rfl⟩) | ((with_reducible refine (T3 _).mono ?_); rintro e w' ⟨rfl, rfl⟩) | ((with_reducible refine (T4 _).mono ?_); rintro e w' ⟨rfl, rfl⟩)) | (go_at_call 13; first | ((with_reducible refine (X1 _).mono ?_); rintro e w' ⟨rfl, rfl⟩)) | (go_at_call 17; first | ((with_reducible refine (X2 _).mono ?_); rintro e w' ⟨rfl, rfl⟩)) | (go_at_call 19; first | ((with_reducible refine (X3 _).mono ?_); rintro e w' ⟨rfl, rfl⟩)) | fail)
          all_goals (go_ret; first | exact ⟨rfl, rfl⟩ | (refine ⟨congrArg (fun x => Ending.returned (Value.bool x)) (by simpa using q3), rfl⟩))
      · clear has
        go_enter Try.func4, Try.ntmps4
        go_wp2_with (first | (go_at_call 6; first | ((with_reducible refine (HK _).mono ?_); rintro e w' ⟨rfl, rfl⟩)) | (go_at_call 9; first | ((with_reducible refine (S1 _).mono ?_); rintro e w' ⟨rfl, rfl⟩) | ((with_reducible refine (S2 _).mono ?_); rintro e w' ⟨rfl, rfl⟩) | ((with_reducible refine (S3 _).mono ?_); rintro e w' ⟨rfl, rfl⟩) | ((with_reducible refine (S4 _).mono ?_); rintro e w' ⟨rfl, rfl⟩) | ((with_reducible refine (S5 _).mono ?_); rintro e w' ⟨rfl, rfl⟩) | ((with_reducible refine (S6 _).mono ?_); rintro e w' ⟨rfl, rfl⟩)) | (go_at_call 7; first | ((with_reducible refine (I1 _).mono ?_); rintro e w' ⟨rfl, rfl⟩) | ((with_reducible refine (I2 _).mono ?_); rintro e w' ⟨rfl, rfl⟩) | ((with_reducible refine (I3 _).mono ?_); rintro e w' ⟨rfl, rfl⟩) | ((with_reducible refine (I4 _).mono ?_); rintro e w' ⟨rfl, rfl⟩)) | (go_at_call 11; first | ((with_reducible refine (T1 _).mono ?_); rintro e w' ⟨rfl, rfl⟩) | ((with_reducible refine (T2 _).mono ?_); rintro e w' ⟨rfl, rfl⟩) | ((with_reducible refine (T3 _).mono ?_); rintro e w' ⟨rfl, rfl⟩) | ((with_reducible refine (T4 _).mono ?_); rintro e w' ⟨rfl, rfl⟩)) | (go_at_call 13; first | ((with_reducible refine (X1 _).mono ?_); rintro e w' ⟨rfl, rfl⟩)) | (go_at_call 17; first | ((with_reducible refine (X2 _).mono ?_); rintro e w' ⟨rfl, rfl⟩)) | (go_at_call 19; first | ((with_reducible refine (X3 _).mono ?_); rintro e w' ⟨rfl, rfl⟩)) | fail)
        all_goals (go_ret; first | exact ⟨rfl, rfl⟩ | (refine ⟨congrArg (fun x => Ending.returned (Value.bool x)) (by simpa using q3), rfl⟩))
    · clear has
      go_enter Try.func4, Try.ntmps4
      go_wp2_with (first | (go_at_call 6; first | ((with_reducible refine (HK _).mono ?_); rintro e w' ⟨rfl, rfl⟩)) | (go_at_call 9; first | ((with_reducible refine (S1 _).mono ?_); rintro e w' ⟨rfl, rfl⟩) | ((with_reducible refine (S2 _).mono ?_); rintro e w' ⟨rfl, rfl⟩) | ((with_reducible refine (S3 _).mono ?_); rintro e w' ⟨rfl, rfl⟩) | ((with_reducible refine (S4 _).mono ?_); rintro e w' ⟨rfl, rfl⟩) | ((with_reducible refine (S5 _).mono ?_); rintro e w' ⟨rfl, rfl⟩) | ((with_reducible refine (S6 _).mono ?_); rintro e w' ⟨rfl, rfl⟩)) | (go_at_call 7; first | ((with_reducible refine (I1 _).mono ?_); rintro e w' ⟨rfl, rfl⟩) | ((with_reducible refine (I2 _).mono ?_); rintro e w' ⟨rfl, rfl⟩) | ((with_reducible refine (I3 _).mono ?_); rintro e w' ⟨rfl, rfl⟩) | ((with_reducible refine (I4 _).mono ?_); rintro e w' ⟨rfl, rfl⟩)) | (go_at_call 11; first | ((with_reducible refine (T1 _).mono ?_); rintro e w' ⟨rfl, rfl⟩) | ((with_reducible refine (T2 _).mono ?_); rintro e w' ⟨rfl, rfl⟩) | ((with_reducible refine (T3 _).mono ?_); rintro e w' ⟨rfl, rfl⟩) | ((with_reducible refine (T4 _).mono ?_); rintro e w' ⟨rfl, rfl⟩)) | (go_at_call 13; first | ((with_reducible refine (X1 _).mono ?_); rintro e w' ⟨rfl, rfl⟩)) | (go_at_call 17; first | ((with_reducible refine (X2 _).mono ?_); rintro e w' ⟨rfl, rfl⟩)) | (go_at_call 19; first | ((with_reducible refine (X3 _).mono ?_); rintro e w' ⟨rfl, rfl⟩)) | fail)
      all_goals (go_ret; first | exact ⟨rfl, rfl⟩ | (refine ⟨congrArg (fun x => Ending.returned (Value.bool x)) (by simpa using q3), rfl⟩))


end Go.Proofs.Ytkokcgegnfbceaa
