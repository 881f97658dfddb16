/-
  NumLaws' walk.
-/
import Derived.Test.YtebhmbejpfmbgaaArC
namespace Go.Proofs.Ytebhmbejpfmbgaa
open Go Go.RowKit

theorem rest_size (a : Int) {b : Int} (h : ¬ b = 0) : (a.tmod b).natAbs < b.natAbs := by
  rw [Int.natAbs_tmod]; exact Nat.mod_lt _ (by omega)

set_option maxRecDepth 100000 in
set_option maxHeartbeats 8000000 in
theorem laws_zero (a : Int) (ha : fitsI a) (w : World) :
    Calls Try.prog 5 #[.int .i64 a, .int .i64 0] w fun e w' => e = .returned (.bool true) ∧ w' = w := by
  have HK := fun w => kn_any w
  have H1 := fun w => nadd a 0 ha (by decide) w
  have H2 := fun w => nadd 0 a (by decide) ha w
  have H3 := fun w => nsub a 0 ha (by decide) w
  have H4 := fun w => nneg 0 (by decide) w
  have H6 := fun w => nmul a 0 ha (by decide) w
  have H7 := fun w => ndiv a 0 ha (by decide) w
  have H8 := fun w => nrem a 0 ha (by decide) w
  rw [Int.add_zero, tell_ok ha] at H1
  rw [Int.zero_add, tell_ok ha] at H2
  rw [Int.sub_zero, tell_ok ha] at H3
  rw [show -(0 : Int) = 0 from rfl, tell_ok (show fitsI 0 by decide)] at H4
  rw [Int.mul_zero, tell_ok (show fitsI 0 by decide)] at H6
  rw [show divV a 0 = .tuple #[.int .i64 0, .int .i64 2] from rfl] at H7
  rw [show remV a 0 = .tuple #[.int .i64 0, .int .i64 2] from rfl] at H8
  have e1 : IntKind.i64.wrap (a + 0) = a := by rw [Int.add_zero]; exact fits_wrap ha
  have e2 : IntKind.i64.wrap (a * 0) = 0 := by rw [Int.mul_zero]; exact fits_wrap (by decide)
  have e9 : IntKind.i64.wrap a = a := fits_wrap ha
  clear ha
  go_enter Try.func5, Try.ntmps5
  go_wp2_with (first | (go_at_call 7; (with_reducible refine (HK _).mono ?_); rintro e w' ⟨rfl, rfl⟩) | (go_at_call 11; (with_reducible refine (H1 _).mono ?_); rintro e w' ⟨rfl, rfl⟩) | (go_at_call 11; (with_reducible refine (H2 _).mono ?_); rintro e w' ⟨rfl, rfl⟩) | (go_at_call 13; (with_reducible refine (H3 _).mono ?_); rintro e w' ⟨rfl, rfl⟩) | (go_at_call 8; (with_reducible refine (H4 _).mono ?_); rintro e w' ⟨rfl, rfl⟩) | (go_at_call 11; (with_reducible refine (H5 _).mono ?_); rintro e w' ⟨rfl, rfl⟩) | (go_at_call 15; (with_reducible refine (H6 _).mono ?_); rintro e w' ⟨rfl, rfl⟩) | (go_at_call 17; (with_reducible refine (H7 _).mono ?_); rintro e w' ⟨rfl, rfl⟩) | (go_at_call 19; (with_reducible refine (H8 _).mono ?_); rintro e w' ⟨rfl, rfl⟩) | fail)
  all_goals (go_ret; first | exact ⟨rfl, rfl⟩ | (refine ⟨congrArg (fun x => Ending.returned (Value.bool x)) (decide_eq_true ?_), rfl⟩; omega))

set_option maxRecDepth 100000 in
set_option maxHeartbeats 8000000 in
theorem laws_over  (w : World) :
    Calls Try.prog 5 #[.int .i64 (-9223372036854775808), .int .i64 (-1)] w fun e w' => e = .returned (.bool true) ∧ w' = w := by
  have HK := fun w => kn_any w
  have hl : fitsI (-9223372036854775808) := by decide
  have hm : fitsI (-1) := by decide
  have H1 := fun w => nadd _ _ hl hm w
  have H2 := fun w => nadd _ _ hm hl w
  have H3 := fun w => nsub _ _ hl hm w
  have H4 := fun w => nneg _ hm w
  have H6 := fun w => nmul _ _ hl hm w
  have H7 := fun w => ndiv _ _ hl hm w
  have H8 := fun w => nrem _ _ hl hm w
  rw [tell_over (by decide)] at H1
  rw [tell_over (by decide)] at H2
  rw [show (-9223372036854775808 : Int) - -1 = -9223372036854775807 from rfl, tell_ok (by decide)] at H3
  rw [show -(-1 : Int) = 1 from rfl, tell_ok (by decide)] at H4
  have H5 := fun w => nadd (-9223372036854775808) 1 hl (by decide) w
  rw [show (-9223372036854775808 : Int) + 1 = -9223372036854775807 from rfl, tell_ok (by decide)] at H5
  rw [tell_over (by decide)] at H6
  rw [show divV (-9223372036854775808) (-1) = .tuple #[.int .i64 0, .int .i64 1] by unfold divV; rw [if_neg (by decide), tell_over tdiv_over]] at H7
  rw [show remV (-9223372036854775808) (-1) = .tuple #[.int .i64 0, .int .i64 1] by unfold remV; rw [if_neg (by decide), if_pos ⟨rfl, rfl⟩]] at H8
  clear hl hm
  go_enter Try.func5, Try.ntmps5
  go_wp2_with (first | (go_at_call 7; (with_reducible refine (HK _).mono ?_); rintro e w' ⟨rfl, rfl⟩) | (go_at_call 11; (with_reducible refine (H1 _).mono ?_); rintro e w' ⟨rfl, rfl⟩) | (go_at_call 11; (with_reducible refine (H2 _).mono ?_); rintro e w' ⟨rfl, rfl⟩) | (go_at_call 13; (with_reducible refine (H3 _).mono ?_); rintro e w' ⟨rfl, rfl⟩) | (go_at_call 8; (with_reducible refine (H4 _).mono ?_); rintro e w' ⟨rfl, rfl⟩) | (go_at_call 11; (with_reducible refine (H5 _).mono ?_); rintro e w' ⟨rfl, rfl⟩) | (go_at_call 15; (with_reducible refine (H6 _).mono ?_); rintro e w' ⟨rfl, rfl⟩) | (go_at_call 17; (with_reducible refine (H7 _).mono ?_); rintro e w' ⟨rfl, rfl⟩) | (go_at_call 19; (with_reducible refine (H8 _).mono ?_); rintro e w' ⟨rfl, rfl⟩) | fail)
  all_goals (go_ret; first | exact ⟨rfl, rfl⟩ | (refine ⟨congrArg (fun x => Ending.returned (Value.bool x)) (decide_eq_true ?_), rfl⟩; omega))

set_option maxRecDepth 100000 in
set_option maxHeartbeats 8000000 in
theorem laws_minus (a : Int) (ha : fitsI a) (hx : ¬ a = -9223372036854775808) (w : World) :
    Calls Try.prog 5 #[.int .i64 a, .int .i64 (-1)] w fun e w' => e = .returned (.bool true) ∧ w' = w := by
  have HK := fun w => kn_any w
  have hm : fitsI (-1) := by decide
  have f1 : fitsI (a + -1) := by unfold fitsI at ha ⊢; omega
  have f6 : fitsI (-a) := by unfold fitsI at ha ⊢; omega
  have H1 := fun w => nadd a (-1) ha hm w
  have H2 := fun w => nadd (-1) a hm ha w
  have H3 := fun w => nsub a (-1) ha hm w
  have H4 := fun w => nneg (-1) hm w
  have H5 := fun w => nadd a 1 ha (by decide) w
  have H6 := fun w => nmul a (-1) ha hm w
  have H7 := fun w => ndiv a (-1) ha hm w
  have H8 := fun w => nrem a (-1) ha hm w
  rw [Int.add_comm (-1) a, tell_ok f1] at H2
  rw [tell_ok f1] at H1
  rw [show -(-1 : Int) = 1 from rfl, tell_ok (by decide)] at H4
  rw [show a * -1 = -a by omega, tell_ok f6] at H6
  rw [show divV a (-1) = .tuple #[.int .i64 (-a), .int .i64 0] by
    unfold divV; rw [if_neg (by decide), Int.tdiv_neg, Int.tdiv_one, tell_ok f6]] at H7
  rw [show remV a (-1) = .tuple #[.int .i64 0, .int .i64 0] by
    unfold remV; rw [if_neg (by decide), if_neg (fun h => hx h.1), Int.tmod_neg, Int.tmod_one]] at H8
  have w1 := fits_wrap f1
  have w6 := fits_wrap f6
  have e9 : IntKind.i64.wrap a = a := fits_wrap ha
  have x0 : (a == -9223372036854775808) = false := by simp [hx]
  have x2 : (a != -9223372036854775808) = true := by simp [hx]
  have g1 : a * -1 = -a := by omega
  obtain ⟨s, hs⟩ : ∃ s, a + -1 = s := ⟨_, rfl⟩
  obtain ⟨p, hp⟩ : ∃ p, -a = p := ⟨_, rfl⟩
  have g2 : -p = a := by omega
  have g3 : p * -1 = a := by omega
  have e1 : IntKind.i64.wrap (a + -1) = s := by rw [w1, hs]
  have e2 : IntKind.i64.wrap (a * -1) = p := by rw [g1, w6, hp]
  have e3 : IntKind.i64.wrap (p.tdiv (-1)) = a := by rw [Int.tdiv_neg, Int.tdiv_one, g2, e9]
  have e4 : IntKind.i64.wrap (p * -1) = a := by rw [g3, e9]
  have e5 : IntKind.i64.wrap (-a) = p := by rw [w6, hp]
  have e6 : IntKind.i64.wrap (-p) = a := by rw [g2, e9]
  rw [hs] at H1 H2
  rw [hp] at H6 H7
  by_cases f3 : fitsI (a - -1)
  · rw [tell_ok f3] at H3
    rw [show a + 1 = a - -1 by omega, tell_ok f3] at H5
    obtain ⟨d, hd⟩ : ∃ d, a - -1 = d := ⟨_, rfl⟩
    rw [hd] at H3 H5
    clear f1 f3 f6 ha hm hs hd hp g1 g2 g3 w1 w6
    go_enter Try.func5, Try.ntmps5
    go_wp2_with (first | (go_at_call 7; (with_reducible refine (HK _).mono ?_); rintro e w' ⟨rfl, rfl⟩) | (go_at_call 11; (with_reducible refine (H1 _).mono ?_); rintro e w' ⟨rfl, rfl⟩) | (go_at_call 11; (with_reducible refine (H2 _).mono ?_); rintro e w' ⟨rfl, rfl⟩) | (go_at_call 13; (with_reducible refine (H3 _).mono ?_); rintro e w' ⟨rfl, rfl⟩) | (go_at_call 8; (with_reducible refine (H4 _).mono ?_); rintro e w' ⟨rfl, rfl⟩) | (go_at_call 11; (with_reducible refine (H5 _).mono ?_); rintro e w' ⟨rfl, rfl⟩) | (go_at_call 15; (with_reducible refine (H6 _).mono ?_); rintro e w' ⟨rfl, rfl⟩) | (go_at_call 17; (with_reducible refine (H7 _).mono ?_); rintro e w' ⟨rfl, rfl⟩) | (go_at_call 19; (with_reducible refine (H8 _).mono ?_); rintro e w' ⟨rfl, rfl⟩) | fail)
    all_goals (go_ret; first | exact ⟨rfl, rfl⟩ | (refine ⟨congrArg (fun x => Ending.returned (Value.bool x)) (decide_eq_true ?_), rfl⟩; omega))
  · rw [tell_over f3] at H3
    clear f1 f3 f6 ha hm hs hp H5 g1 g2 g3 w1 w6
    go_enter Try.func5, Try.ntmps5
    go_wp2_with (first | (go_at_call 7; (with_reducible refine (HK _).mono ?_); rintro e w' ⟨rfl, rfl⟩) | (go_at_call 11; (with_reducible refine (H1 _).mono ?_); rintro e w' ⟨rfl, rfl⟩) | (go_at_call 11; (with_reducible refine (H2 _).mono ?_); rintro e w' ⟨rfl, rfl⟩) | (go_at_call 13; (with_reducible refine (H3 _).mono ?_); rintro e w' ⟨rfl, rfl⟩) | (go_at_call 8; (with_reducible refine (H4 _).mono ?_); rintro e w' ⟨rfl, rfl⟩) | (go_at_call 11; (with_reducible refine (H5 _).mono ?_); rintro e w' ⟨rfl, rfl⟩) | (go_at_call 15; (with_reducible refine (H6 _).mono ?_); rintro e w' ⟨rfl, rfl⟩) | (go_at_call 17; (with_reducible refine (H7 _).mono ?_); rintro e w' ⟨rfl, rfl⟩) | (go_at_call 19; (with_reducible refine (H8 _).mono ?_); rintro e w' ⟨rfl, rfl⟩) | fail)
    all_goals (go_ret; first | exact ⟨rfl, rfl⟩ | (refine ⟨congrArg (fun x => Ending.returned (Value.bool x)) (decide_eq_true ?_), rfl⟩; omega))

set_option maxRecDepth 100000 in
set_option maxHeartbeats 8000000 in
theorem laws_gen (a b : Int) (ha : fitsI a) (hb : fitsI b) (b1 : ¬ b = 0) (m1 : ¬ b = -1) (w : World) :
    Calls Try.prog 5 #[.int .i64 a, .int .i64 b] w fun e w' => e = .returned (.bool true) ∧ w' = w := by
  have HK := fun w => kn_any w
  have H1 := fun w => nadd a b ha hb w
  have H2 := fun w => nadd b a hb ha w
  have H3 := fun w => nsub a b ha hb w
  have H4 := fun w => nneg b hb w
  have H6 := fun w => nmul a b ha hb w
  have H7 := fun w => ndiv a b ha hb w
  have H8 := fun w => nrem a b ha hb w
  have hq := fits_wrap (tdiv_fits ha b1 (fun h => m1 h.2))
  rw [show divV a b = .tuple #[.int .i64 (a.tdiv b), .int .i64 0] by unfold divV; rw [if_neg b1, tell_ok (tdiv_fits ha b1 (fun h => m1 h.2))]] at H7
  rw [show remV a b = .tuple #[.int .i64 (a.tmod b), .int .i64 0] by unfold remV; rw [if_neg b1, if_neg (fun h => m1 h.2)]] at H8
  rw [Int.add_comm b a] at H2
  have r1 := rest_size a b1
  have r2 := tmod_facts a b
  have r3 := Int.tdiv_mul_add_tmod a b
  have r4 : a * b = a * b → fitsI (a * b) → IntKind.i64.wrap ((a * b).tdiv b) = a := fun _ _ => by rw [Int.mul_tdiv_cancel a b1]; exact fits_wrap ha
  have r5 : (a * b).tdiv b = a := Int.mul_tdiv_cancel a b1
  have b0 : (b == 0) = false := by simp [b1]
  have b2 : (b != 0) = true := by simp [b1]
  have m0 : (b == -1) = false := by simp [m1]
  have m2 : (b != -1) = true := by simp [m1]
  have e9 : IntKind.i64.wrap a = a := fits_wrap ha
  obtain ⟨q, hq'⟩ : ∃ q, a.tdiv b = q := ⟨_, rfl⟩
  obtain ⟨r, hr'⟩ : ∃ r, a.tmod b = r := ⟨_, rfl⟩
  obtain ⟨p, hp⟩ : ∃ p, a * b = p := ⟨_, rfl⟩
  obtain ⟨s, hs⟩ : ∃ s, a + b = s := ⟨_, rfl⟩
  obtain ⟨d, hd⟩ : ∃ d, a - b = d := ⟨_, rfl⟩
  rw [hq'] at H7 r3
  rw [hr'] at H8 r1 r2 r3
  have e4 : IntKind.i64.wrap (q * b + r) = a := by rw [r3]; exact e9
  have r7 := fits_wrap (show fitsI (q * b) by unfold fitsI at ha ⊢; omega)
  obtain ⟨z, hz⟩ : ∃ z, q * b = z := ⟨_, rfl⟩
  have e5 : IntKind.i64.wrap (q * b) = z := by rw [r7, hz]
  rw [hz] at e4
  rw [hp] at H6 r5
  rw [hs] at H1 H2
  rw [hd] at H3
  have g5 : IntKind.i64.wrap (p.tdiv b) = a := by rw [r5]; exact e9
  have rn : IntKind.i64.wrap (-r) = -r := fits_wrap (by unfold fitsI at hb ⊢; omega)
  obtain ⟨r2a, r2b, r2c⟩ := r2
  clear r3 r4 r5 r7 hz hq hq' hr'
  by_cases bl : b = -9223372036854775808
  · have hn : ¬ fitsI (-b) := by unfold fitsI; omega
    rw [tell_over hn] at H4
    have b9 : (b == -9223372036854775808) = true := by simp [bl]
    clear hn bl
    by_cases f1 : fitsI s
    · rw [tell_ok f1] at H1 H2
      have e1 : IntKind.i64.wrap (a + b) = s := by rw [hs]; exact fits_wrap f1
      by_cases f3 : fitsI d
      · rw [tell_ok f3] at H3
        by_cases f6 : fitsI p
        · rw [tell_ok f6] at H6
          have e2 : IntKind.i64.wrap (a * b) = p := by rw [hp]; exact fits_wrap f6
          by_cases r0 : r = 0
          · have r6 : (r == 0) = true := by simp [r0]
            clear r0
            clear hs hd hp hb ha
            try clear f1
            try clear f3
            try clear f6
            go_enter Try.func5, Try.ntmps5
            go_wp2_with (first | (go_at_call 7; (with_reducible refine (HK _).mono ?_); rintro e w' ⟨rfl, rfl⟩) | (go_at_call 11; (with_reducible refine (H1 _).mono ?_); rintro e w' ⟨rfl, rfl⟩) | (go_at_call 11; (with_reducible refine (H2 _).mono ?_); rintro e w' ⟨rfl, rfl⟩) | (go_at_call 13; (with_reducible refine (H3 _).mono ?_); rintro e w' ⟨rfl, rfl⟩) | (go_at_call 8; (with_reducible refine (H4 _).mono ?_); rintro e w' ⟨rfl, rfl⟩) | (go_at_call 11; (with_reducible refine (H5 _).mono ?_); rintro e w' ⟨rfl, rfl⟩) | (go_at_call 15; (with_reducible refine (H6 _).mono ?_); rintro e w' ⟨rfl, rfl⟩) | (go_at_call 17; (with_reducible refine (H7 _).mono ?_); rintro e w' ⟨rfl, rfl⟩) | (go_at_call 19; (with_reducible refine (H8 _).mono ?_); rintro e w' ⟨rfl, rfl⟩) | fail)
            all_goals (go_ret; first | exact ⟨rfl, rfl⟩ | (refine ⟨congrArg (fun x => Ending.returned (Value.bool x)) (decide_eq_true ?_), rfl⟩; omega))
          · have r6 : (r == 0) = false := by simp [r0]
            have rs : (decide (0 < r) == decide (0 < a)) = true := by
              by_cases h : 0 < r
              · rw [decide_eq_true h, decide_eq_true (by omega)]; rfl
              · rw [decide_eq_false h, decide_eq_false (by omega)]; rfl
            clear r0
            clear hs hd hp hb ha
            try clear f1
            try clear f3
            try clear f6
            go_enter Try.func5, Try.ntmps5
            go_wp2_with (first | (go_at_call 7; (with_reducible refine (HK _).mono ?_); rintro e w' ⟨rfl, rfl⟩) | (go_at_call 11; (with_reducible refine (H1 _).mono ?_); rintro e w' ⟨rfl, rfl⟩) | (go_at_call 11; (with_reducible refine (H2 _).mono ?_); rintro e w' ⟨rfl, rfl⟩) | (go_at_call 13; (with_reducible refine (H3 _).mono ?_); rintro e w' ⟨rfl, rfl⟩) | (go_at_call 8; (with_reducible refine (H4 _).mono ?_); rintro e w' ⟨rfl, rfl⟩) | (go_at_call 11; (with_reducible refine (H5 _).mono ?_); rintro e w' ⟨rfl, rfl⟩) | (go_at_call 15; (with_reducible refine (H6 _).mono ?_); rintro e w' ⟨rfl, rfl⟩) | (go_at_call 17; (with_reducible refine (H7 _).mono ?_); rintro e w' ⟨rfl, rfl⟩) | (go_at_call 19; (with_reducible refine (H8 _).mono ?_); rintro e w' ⟨rfl, rfl⟩) | fail)
            all_goals (go_ret; first | exact ⟨rfl, rfl⟩ | (refine ⟨congrArg (fun x => Ending.returned (Value.bool x)) (decide_eq_true ?_), rfl⟩; omega))
        · rw [tell_over f6] at H6
          by_cases r0 : r = 0
          · have r6 : (r == 0) = true := by simp [r0]
            clear r0
            clear hs hd hp hb ha
            try clear f1
            try clear f3
            try clear f6
            go_enter Try.func5, Try.ntmps5
            go_wp2_with (first | (go_at_call 7; (with_reducible refine (HK _).mono ?_); rintro e w' ⟨rfl, rfl⟩) | (go_at_call 11; (with_reducible refine (H1 _).mono ?_); rintro e w' ⟨rfl, rfl⟩) | (go_at_call 11; (with_reducible refine (H2 _).mono ?_); rintro e w' ⟨rfl, rfl⟩) | (go_at_call 13; (with_reducible refine (H3 _).mono ?_); rintro e w' ⟨rfl, rfl⟩) | (go_at_call 8; (with_reducible refine (H4 _).mono ?_); rintro e w' ⟨rfl, rfl⟩) | (go_at_call 11; (with_reducible refine (H5 _).mono ?_); rintro e w' ⟨rfl, rfl⟩) | (go_at_call 15; (with_reducible refine (H6 _).mono ?_); rintro e w' ⟨rfl, rfl⟩) | (go_at_call 17; (with_reducible refine (H7 _).mono ?_); rintro e w' ⟨rfl, rfl⟩) | (go_at_call 19; (with_reducible refine (H8 _).mono ?_); rintro e w' ⟨rfl, rfl⟩) | fail)
            all_goals (go_ret; first | exact ⟨rfl, rfl⟩ | (refine ⟨congrArg (fun x => Ending.returned (Value.bool x)) (decide_eq_true ?_), rfl⟩; omega))
          · have r6 : (r == 0) = false := by simp [r0]
            have rs : (decide (0 < r) == decide (0 < a)) = true := by
              by_cases h : 0 < r
              · rw [decide_eq_true h, decide_eq_true (by omega)]; rfl
              · rw [decide_eq_false h, decide_eq_false (by omega)]; rfl
            clear r0
            clear hs hd hp hb ha
            try clear f1
            try clear f3
            try clear f6
            go_enter Try.func5, Try.ntmps5
            go_wp2_with (first | (go_at_call 7; (with_reducible refine (HK _).mono ?_); rintro e w' ⟨rfl, rfl⟩) | (go_at_call 11; (with_reducible refine (H1 _).mono ?_); rintro e w' ⟨rfl, rfl⟩) | (go_at_call 11; (with_reducible refine (H2 _).mono ?_); rintro e w' ⟨rfl, rfl⟩) | (go_at_call 13; (with_reducible refine (H3 _).mono ?_); rintro e w' ⟨rfl, rfl⟩) | (go_at_call 8; (with_reducible refine (H4 _).mono ?_); rintro e w' ⟨rfl, rfl⟩) | (go_at_call 11; (with_reducible refine (H5 _).mono ?_); rintro e w' ⟨rfl, rfl⟩) | (go_at_call 15; (with_reducible refine (H6 _).mono ?_); rintro e w' ⟨rfl, rfl⟩) | (go_at_call 17; (with_reducible refine (H7 _).mono ?_); rintro e w' ⟨rfl, rfl⟩) | (go_at_call 19; (with_reducible refine (H8 _).mono ?_); rintro e w' ⟨rfl, rfl⟩) | fail)
            all_goals (go_ret; first | exact ⟨rfl, rfl⟩ | (refine ⟨congrArg (fun x => Ending.returned (Value.bool x)) (decide_eq_true ?_), rfl⟩; omega))
      · rw [tell_over f3] at H3
        by_cases f6 : fitsI p
        · rw [tell_ok f6] at H6
          have e2 : IntKind.i64.wrap (a * b) = p := by rw [hp]; exact fits_wrap f6
          by_cases r0 : r = 0
          · have r6 : (r == 0) = true := by simp [r0]
            clear r0
            clear hs hd hp hb ha
            try clear f1
            try clear f3
            try clear f6
            go_enter Try.func5, Try.ntmps5
            go_wp2_with (first | (go_at_call 7; (with_reducible refine (HK _).mono ?_); rintro e w' ⟨rfl, rfl⟩) | (go_at_call 11; (with_reducible refine (H1 _).mono ?_); rintro e w' ⟨rfl, rfl⟩) | (go_at_call 11; (with_reducible refine (H2 _).mono ?_); rintro e w' ⟨rfl, rfl⟩) | (go_at_call 13; (with_reducible refine (H3 _).mono ?_); rintro e w' ⟨rfl, rfl⟩) | (go_at_call 8; (with_reducible refine (H4 _).mono ?_); rintro e w' ⟨rfl, rfl⟩) | (go_at_call 11; (with_reducible refine (H5 _).mono ?_); rintro e w' ⟨rfl, rfl⟩) | (go_at_call 15; (with_reducible refine (H6 _).mono ?_); rintro e w' ⟨rfl, rfl⟩) | (go_at_call 17; (with_reducible refine (H7 _).mono ?_); rintro e w' ⟨rfl, rfl⟩) | (go_at_call 19; (with_reducible refine (H8 _).mono ?_); rintro e w' ⟨rfl, rfl⟩) | fail)
            all_goals (go_ret; first | exact ⟨rfl, rfl⟩ | (refine ⟨congrArg (fun x => Ending.returned (Value.bool x)) (decide_eq_true ?_), rfl⟩; omega))
          · have r6 : (r == 0) = false := by simp [r0]
            have rs : (decide (0 < r) == decide (0 < a)) = true := by
              by_cases h : 0 < r
              · rw [decide_eq_true h, decide_eq_true (by omega)]; rfl
              · rw [decide_eq_false h, decide_eq_false (by omega)]; rfl
            clear r0
            clear hs hd hp hb ha
            try clear f1
            try clear f3
            try clear f6
            go_enter Try.func5, Try.ntmps5
            go_wp2_with (first | (go_at_call 7; (with_reducible refine (HK _).mono ?_); rintro e w' ⟨rfl, rfl⟩) | (go_at_call 11; (with_reducible refine (H1 _).mono ?_); rintro e w' ⟨rfl, rfl⟩) | (go_at_call 11; (with_reducible refine (H2 _).mono ?_); rintro e w' ⟨rfl, rfl⟩) | (go_at_call 13; (with_reducible refine (H3 _).mono ?_); rintro e w' ⟨rfl, rfl⟩) | (go_at_call 8; (with_reducible refine (H4 _).mono ?_); rintro e w' ⟨rfl, rfl⟩) | (go_at_call 11; (with_reducible refine (H5 _).mono ?_); rintro e w' ⟨rfl, rfl⟩) | (go_at_call 15; (with_reducible refine (H6 _).mono ?_); rintro e w' ⟨rfl, rfl⟩) | (go_at_call 17; (with_reducible refine (H7 _).mono ?_); rintro e w' ⟨rfl, rfl⟩) | (go_at_call 19; (with_reducible refine (H8 _).mono ?_); rintro e w' ⟨rfl, rfl⟩) | fail)
            all_goals (go_ret; first | exact ⟨rfl, rfl⟩ | (refine ⟨congrArg (fun x => Ending.returned (Value.bool x)) (decide_eq_true ?_), rfl⟩; omega))
        · rw [tell_over f6] at H6
          by_cases r0 : r = 0
          · have r6 : (r == 0) = true := by simp [r0]
            clear r0
            clear hs hd hp hb ha
            try clear f1
            try clear f3
            try clear f6
            go_enter Try.func5, Try.ntmps5
            go_wp2_with (first | (go_at_call 7; (with_reducible refine (HK _).mono ?_); rintro e w' ⟨rfl, rfl⟩) | (go_at_call 11; (with_reducible refine (H1 _).mono ?_); rintro e w' ⟨rfl, rfl⟩) | (go_at_call 11; (with_reducible refine (H2 _).mono ?_); rintro e w' ⟨rfl, rfl⟩) | (go_at_call 13; (with_reducible refine (H3 _).mono ?_); rintro e w' ⟨rfl, rfl⟩) | (go_at_call 8; (with_reducible refine (H4 _).mono ?_); rintro e w' ⟨rfl, rfl⟩) | (go_at_call 11; (with_reducible refine (H5 _).mono ?_); rintro e w' ⟨rfl, rfl⟩) | (go_at_call 15; (with_reducible refine (H6 _).mono ?_); rintro e w' ⟨rfl, rfl⟩) | (go_at_call 17; (with_reducible refine (H7 _).mono ?_); rintro e w' ⟨rfl, rfl⟩) | (go_at_call 19; (with_reducible refine (H8 _).mono ?_); rintro e w' ⟨rfl, rfl⟩) | fail)
            all_goals (go_ret; first | exact ⟨rfl, rfl⟩ | (refine ⟨congrArg (fun x => Ending.returned (Value.bool x)) (decide_eq_true ?_), rfl⟩; omega))
          · have r6 : (r == 0) = false := by simp [r0]
            have rs : (decide (0 < r) == decide (0 < a)) = true := by
              by_cases h : 0 < r
              · rw [decide_eq_true h, decide_eq_true (by omega)]; rfl
              · rw [decide_eq_false h, decide_eq_false (by omega)]; rfl
            clear r0
            clear hs hd hp hb ha
            try clear f1
            try clear f3
            try clear f6
            go_enter Try.func5, Try.ntmps5
            go_wp2_with (first | (go_at_call 7; (with_reducible refine (HK _).mono ?_); rintro e w' ⟨rfl, rfl⟩) | (go_at_call 11; (with_reducible refine (H1 _).mono ?_); rintro e w' ⟨rfl, rfl⟩) | (go_at_call 11; (with_reducible refine (H2 _).mono ?_); rintro e w' ⟨rfl, rfl⟩) | (go_at_call 13; (with_reducible refine (H3 _).mono ?_); rintro e w' ⟨rfl, rfl⟩) | (go_at_call 8; (with_reducible refine (H4 _).mono ?_); rintro e w' ⟨rfl, rfl⟩) | (go_at_call 11; (with_reducible refine (H5 _).mono ?_); rintro e w' ⟨rfl, rfl⟩) | (go_at_call 15; (with_reducible refine (H6 _).mono ?_); rintro e w' ⟨rfl, rfl⟩) | (go_at_call 17; (with_reducible refine (H7 _).mono ?_); rintro e w' ⟨rfl, rfl⟩) | (go_at_call 19; (with_reducible refine (H8 _).mono ?_); rintro e w' ⟨rfl, rfl⟩) | fail)
            all_goals (go_ret; first | exact ⟨rfl, rfl⟩ | (refine ⟨congrArg (fun x => Ending.returned (Value.bool x)) (decide_eq_true ?_), rfl⟩; omega))
    · rw [tell_over f1] at H1 H2
      by_cases f3 : fitsI d
      · rw [tell_ok f3] at H3
        by_cases f6 : fitsI p
        · rw [tell_ok f6] at H6
          have e2 : IntKind.i64.wrap (a * b) = p := by rw [hp]; exact fits_wrap f6
          by_cases r0 : r = 0
          · have r6 : (r == 0) = true := by simp [r0]
            clear r0
            clear hs hd hp hb ha
            try clear f1
            try clear f3
            try clear f6
            go_enter Try.func5, Try.ntmps5
            go_wp2_with (first | (go_at_call 7; (with_reducible refine (HK _).mono ?_); rintro e w' ⟨rfl, rfl⟩) | (go_at_call 11; (with_reducible refine (H1 _).mono ?_); rintro e w' ⟨rfl, rfl⟩) | (go_at_call 11; (with_reducible refine (H2 _).mono ?_); rintro e w' ⟨rfl, rfl⟩) | (go_at_call 13; (with_reducible refine (H3 _).mono ?_); rintro e w' ⟨rfl, rfl⟩) | (go_at_call 8; (with_reducible refine (H4 _).mono ?_); rintro e w' ⟨rfl, rfl⟩) | (go_at_call 11; (with_reducible refine (H5 _).mono ?_); rintro e w' ⟨rfl, rfl⟩) | (go_at_call 15; (with_reducible refine (H6 _).mono ?_); rintro e w' ⟨rfl, rfl⟩) | (go_at_call 17; (with_reducible refine (H7 _).mono ?_); rintro e w' ⟨rfl, rfl⟩) | (go_at_call 19; (with_reducible refine (H8 _).mono ?_); rintro e w' ⟨rfl, rfl⟩) | fail)
            all_goals (go_ret; first | exact ⟨rfl, rfl⟩ | (refine ⟨congrArg (fun x => Ending.returned (Value.bool x)) (decide_eq_true ?_), rfl⟩; omega))
          · have r6 : (r == 0) = false := by simp [r0]
            have rs : (decide (0 < r) == decide (0 < a)) = true := by
              by_cases h : 0 < r
              · rw [decide_eq_true h, decide_eq_true (by omega)]; rfl
              · rw [decide_eq_false h, decide_eq_false (by omega)]; rfl
            clear r0
            clear hs hd hp hb ha
            try clear f1
            try clear f3
            try clear f6
            go_enter Try.func5, Try.ntmps5
            go_wp2_with (first | (go_at_call 7; (with_reducible refine (HK _).mono ?_); rintro e w' ⟨rfl, rfl⟩) | (go_at_call 11; (with_reducible refine (H1 _).mono ?_); rintro e w' ⟨rfl, rfl⟩) | (go_at_call 11; (with_reducible refine (H2 _).mono ?_); rintro e w' ⟨rfl, rfl⟩) | (go_at_call 13; (with_reducible refine (H3 _).mono ?_); rintro e w' ⟨rfl, rfl⟩) | (go_at_call 8; (with_reducible refine (H4 _).mono ?_); rintro e w' ⟨rfl, rfl⟩) | (go_at_call 11; (with_reducible refine (H5 _).mono ?_); rintro e w' ⟨rfl, rfl⟩) | (go_at_call 15; (with_reducible refine (H6 _).mono ?_); rintro e w' ⟨rfl, rfl⟩) | (go_at_call 17; (with_reducible refine (H7 _).mono ?_); rintro e w' ⟨rfl, rfl⟩) | (go_at_call 19; (with_reducible refine (H8 _).mono ?_); rintro e w' ⟨rfl, rfl⟩) | fail)
            all_goals (go_ret; first | exact ⟨rfl, rfl⟩ | (refine ⟨congrArg (fun x => Ending.returned (Value.bool x)) (decide_eq_true ?_), rfl⟩; omega))
        · rw [tell_over f6] at H6
          by_cases r0 : r = 0
          · have r6 : (r == 0) = true := by simp [r0]
            clear r0
            clear hs hd hp hb ha
            try clear f1
            try clear f3
            try clear f6
            go_enter Try.func5, Try.ntmps5
            go_wp2_with (first | (go_at_call 7; (with_reducible refine (HK _).mono ?_); rintro e w' ⟨rfl, rfl⟩) | (go_at_call 11; (with_reducible refine (H1 _).mono ?_); rintro e w' ⟨rfl, rfl⟩) | (go_at_call 11; (with_reducible refine (H2 _).mono ?_); rintro e w' ⟨rfl, rfl⟩) | (go_at_call 13; (with_reducible refine (H3 _).mono ?_); rintro e w' ⟨rfl, rfl⟩) | (go_at_call 8; (with_reducible refine (H4 _).mono ?_); rintro e w' ⟨rfl, rfl⟩) | (go_at_call 11; (with_reducible refine (H5 _).mono ?_); rintro e w' ⟨rfl, rfl⟩) | (go_at_call 15; (with_reducible refine (H6 _).mono ?_); rintro e w' ⟨rfl, rfl⟩) | (go_at_call 17; (with_reducible refine (H7 _).mono ?_); rintro e w' ⟨rfl, rfl⟩) | (go_at_call 19; (with_reducible refine (H8 _).mono ?_); rintro e w' ⟨rfl, rfl⟩) | fail)
            all_goals (go_ret; first | exact ⟨rfl, rfl⟩ | (refine ⟨congrArg (fun x => Ending.returned (Value.bool x)) (decide_eq_true ?_), rfl⟩; omega))
          · have r6 : (r == 0) = false := by simp [r0]
            have rs : (decide (0 < r) == decide (0 < a)) = true := by
              by_cases h : 0 < r
              · rw [decide_eq_true h, decide_eq_true (by omega)]; rfl
              · rw [decide_eq_false h, decide_eq_false (by omega)]; rfl
            clear r0
            clear hs hd hp hb ha
            try clear f1
            try clear f3
            try clear f6
            go_enter Try.func5, Try.ntmps5
            go_wp2_with (first | (go_at_call 7; (with_reducible refine (HK _).mono ?_); rintro e w' ⟨rfl, rfl⟩) | (go_at_call 11; (with_reducible refine (H1 _).mono ?_); rintro e w' ⟨rfl, rfl⟩) | (go_at_call 11; (with_reducible refine (H2 _).mono ?_); rintro e w' ⟨rfl, rfl⟩) | (go_at_call 13; (with_reducible refine (H3 _).mono ?_); rintro e w' ⟨rfl, rfl⟩) | (go_at_call 8; (with_reducible refine (H4 _).mono ?_); rintro e w' ⟨rfl, rfl⟩) | (go_at_call 11; (with_reducible refine (H5 _).mono ?_); rintro e w' ⟨rfl, rfl⟩) | (go_at_call 15; (with_reducible refine (H6 _).mono ?_); rintro e w' ⟨rfl, rfl⟩) | (go_at_call 17; (with_reducible refine (H7 _).mono ?_); rintro e w' ⟨rfl, rfl⟩) | (go_at_call 19; (with_reducible refine (H8 _).mono ?_); rintro e w' ⟨rfl, rfl⟩) | fail)
            all_goals (go_ret; first | exact ⟨rfl, rfl⟩ | (refine ⟨congrArg (fun x => Ending.returned (Value.bool x)) (decide_eq_true ?_), rfl⟩; omega))
      · rw [tell_over f3] at H3
        by_cases f6 : fitsI p
        · rw [tell_ok f6] at H6
          have e2 : IntKind.i64.wrap (a * b) = p := by rw [hp]; exact fits_wrap f6
          by_cases r0 : r = 0
          · have r6 : (r == 0) = true := by simp [r0]
            clear r0
            clear hs hd hp hb ha
            try clear f1
            try clear f3
            try clear f6
            go_enter Try.func5, Try.ntmps5
            go_wp2_with (first | (go_at_call 7; (with_reducible refine (HK _).mono ?_); rintro e w' ⟨rfl, rfl⟩) | (go_at_call 11; (with_reducible refine (H1 _).mono ?_); rintro e w' ⟨rfl, rfl⟩) | (go_at_call 11; (with_reducible refine (H2 _).mono ?_); rintro e w' ⟨rfl, rfl⟩) | (go_at_call 13; (with_reducible refine (H3 _).mono ?_); rintro e w' ⟨rfl, rfl⟩) | (go_at_call 8; (with_reducible refine (H4 _).mono ?_); rintro e w' ⟨rfl, rfl⟩) | (go_at_call 11; (with_reducible refine (H5 _).mono ?_); rintro e w' ⟨rfl, rfl⟩) | (go_at_call 15; (with_reducible refine (H6 _).mono ?_); rintro e w' ⟨rfl, rfl⟩) | (go_at_call 17; (with_reducible refine (H7 _).mono ?_); rintro e w' ⟨rfl, rfl⟩) | (go_at_call 19; (with_reducible refine (H8 _).mono ?_); rintro e w' ⟨rfl, rfl⟩) | fail)
            all_goals (go_ret; first | exact ⟨rfl, rfl⟩ | (refine ⟨congrArg (fun x => Ending.returned (Value.bool x)) (decide_eq_true ?_), rfl⟩; omega))
          · have r6 : (r == 0) = false := by simp [r0]
            have rs : (decide (0 < r) == decide (0 < a)) = true := by
              by_cases h : 0 < r
              · rw [decide_eq_true h, decide_eq_true (by omega)]; rfl
              · rw [decide_eq_false h, decide_eq_false (by omega)]; rfl
            clear r0
            clear hs hd hp hb ha
            try clear f1
            try clear f3
            try clear f6
            go_enter Try.func5, Try.ntmps5
            go_wp2_with (first | (go_at_call 7; (with_reducible refine (HK _).mono ?_); rintro e w' ⟨rfl, rfl⟩) | (go_at_call 11; (with_reducible refine (H1 _).mono ?_); rintro e w' ⟨rfl, rfl⟩) | (go_at_call 11; (with_reducible refine (H2 _).mono ?_); rintro e w' ⟨rfl, rfl⟩) | (go_at_call 13; (with_reducible refine (H3 _).mono ?_); rintro e w' ⟨rfl, rfl⟩) | (go_at_call 8; (with_reducible refine (H4 _).mono ?_); rintro e w' ⟨rfl, rfl⟩) | (go_at_call 11; (with_reducible refine (H5 _).mono ?_); rintro e w' ⟨rfl, rfl⟩) | (go_at_call 15; (with_reducible refine (H6 _).mono ?_); rintro e w' ⟨rfl, rfl⟩) | (go_at_call 17; (with_reducible refine (H7 _).mono ?_); rintro e w' ⟨rfl, rfl⟩) | (go_at_call 19; (with_reducible refine (H8 _).mono ?_); rintro e w' ⟨rfl, rfl⟩) | fail)
            all_goals (go_ret; first | exact ⟨rfl, rfl⟩ | (refine ⟨congrArg (fun x => Ending.returned (Value.bool x)) (decide_eq_true ?_), rfl⟩; omega))
        · rw [tell_over f6] at H6
          by_cases r0 : r = 0
          · have r6 : (r == 0) = true := by simp [r0]
            clear r0
            clear hs hd hp hb ha
            try clear f1
            try clear f3
            try clear f6
            go_enter Try.func5, Try.ntmps5
            go_wp2_with (first | (go_at_call 7; (with_reducible refine (HK _).mono ?_); rintro e w' ⟨rfl, rfl⟩) | (go_at_call 11; (with_reducible refine (H1 _).mono ?_); rintro e w' ⟨rfl, rfl⟩) | (go_at_call 11; (with_reducible refine (H2 _).mono ?_); rintro e w' ⟨rfl, rfl⟩) | (go_at_call 13; (with_reducible refine (H3 _).mono ?_); rintro e w' ⟨rfl, rfl⟩) | (go_at_call 8; (with_reducible refine (H4 _).mono ?_); rintro e w' ⟨rfl, rfl⟩) | (go_at_call 11; (with_reducible refine (H5 _).mono ?_); rintro e w' ⟨rfl, rfl⟩) | (go_at_call 15; (with_reducible refine (H6 _).mono ?_); rintro e w' ⟨rfl, rfl⟩) | (go_at_call 17; (with_reducible refine (H7 _).mono ?_); rintro e w' ⟨rfl, rfl⟩) | (go_at_call 19; (with_reducible refine (H8 _).mono ?_); rintro e w' ⟨rfl, rfl⟩) | fail)
            all_goals (go_ret; first | exact ⟨rfl, rfl⟩ | (refine ⟨congrArg (fun x => Ending.returned (Value.bool x)) (decide_eq_true ?_), rfl⟩; omega))
          · have r6 : (r == 0) = false := by simp [r0]
            have rs : (decide (0 < r) == decide (0 < a)) = true := by
              by_cases h : 0 < r
              · rw [decide_eq_true h, decide_eq_true (by omega)]; rfl
              · rw [decide_eq_false h, decide_eq_false (by omega)]; rfl
            clear r0
            clear hs hd hp hb ha
            try clear f1
            try clear f3
            try clear f6
            go_enter Try.func5, Try.ntmps5
            go_wp2_with (first | (go_at_call 7; (with_reducible refine (HK _).mono ?_); rintro e w' ⟨rfl, rfl⟩) | (go_at_call 11; (with_reducible refine (H1 _).mono ?_); rintro e w' ⟨rfl, rfl⟩) | (go_at_call 11; (with_reducible refine (H2 _).mono ?_); rintro e w' ⟨rfl, rfl⟩) | (go_at_call 13; (with_reducible refine (H3 _).mono ?_); rintro e w' ⟨rfl, rfl⟩) | (go_at_call 8; (with_reducible refine (H4 _).mono ?_); rintro e w' ⟨rfl, rfl⟩) | (go_at_call 11; (with_reducible refine (H5 _).mono ?_); rintro e w' ⟨rfl, rfl⟩) | (go_at_call 15; (with_reducible refine (H6 _).mono ?_); rintro e w' ⟨rfl, rfl⟩) | (go_at_call 17; (with_reducible refine (H7 _).mono ?_); rintro e w' ⟨rfl, rfl⟩) | (go_at_call 19; (with_reducible refine (H8 _).mono ?_); rintro e w' ⟨rfl, rfl⟩) | fail)
            all_goals (go_ret; first | exact ⟨rfl, rfl⟩ | (refine ⟨congrArg (fun x => Ending.returned (Value.bool x)) (decide_eq_true ?_), rfl⟩; omega))
  · have hn : fitsI (-b) := by unfold fitsI at hb ⊢; omega
    rw [tell_ok hn] at H4
    have b9 : (b == -9223372036854775808) = false := by simp [bl]
    have bn : IntKind.i64.wrap (-b) = -b := fits_wrap hn
    have H5 := fun w => nadd a (-b) ha hn w
    rw [show a + -b = d by omega] at H5
    clear hn bl
    by_cases f1 : fitsI s
    · rw [tell_ok f1] at H1 H2
      have e1 : IntKind.i64.wrap (a + b) = s := by rw [hs]; exact fits_wrap f1
      by_cases f3 : fitsI d
      · rw [tell_ok f3] at H3
        rw [tell_ok f3] at H5
        by_cases f6 : fitsI p
        · rw [tell_ok f6] at H6
          have e2 : IntKind.i64.wrap (a * b) = p := by rw [hp]; exact fits_wrap f6
          by_cases r0 : r = 0
          · have r6 : (r == 0) = true := by simp [r0]
            clear r0
            clear hs hd hp hb ha
            try clear f1
            try clear f3
            try clear f6
            go_enter Try.func5, Try.ntmps5
            go_wp2_with (first | (go_at_call 7; (with_reducible refine (HK _).mono ?_); rintro e w' ⟨rfl, rfl⟩) | (go_at_call 11; (with_reducible refine (H1 _).mono ?_); rintro e w' ⟨rfl, rfl⟩) | (go_at_call 11; (with_reducible refine (H2 _).mono ?_); rintro e w' ⟨rfl, rfl⟩) | (go_at_call 13; (with_reducible refine (H3 _).mono ?_); rintro e w' ⟨rfl, rfl⟩) | (go_at_call 8; (with_reducible refine (H4 _).mono ?_); rintro e w' ⟨rfl, rfl⟩) | (go_at_call 11; (with_reducible refine (H5 _).mono ?_); rintro e w' ⟨rfl, rfl⟩) | (go_at_call 15; (with_reducible refine (H6 _).mono ?_); rintro e w' ⟨rfl, rfl⟩) | (go_at_call 17; (with_reducible refine (H7 _).mono ?_); rintro e w' ⟨rfl, rfl⟩) | (go_at_call 19; (with_reducible refine (H8 _).mono ?_); rintro e w' ⟨rfl, rfl⟩) | fail)
            all_goals (go_ret; first | exact ⟨rfl, rfl⟩ | (refine ⟨congrArg (fun x => Ending.returned (Value.bool x)) (decide_eq_true ?_), rfl⟩; omega))
          · have r6 : (r == 0) = false := by simp [r0]
            have rs : (decide (0 < r) == decide (0 < a)) = true := by
              by_cases h : 0 < r
              · rw [decide_eq_true h, decide_eq_true (by omega)]; rfl
              · rw [decide_eq_false h, decide_eq_false (by omega)]; rfl
            clear r0
            clear hs hd hp hb ha
            try clear f1
            try clear f3
            try clear f6
            go_enter Try.func5, Try.ntmps5
            go_wp2_with (first | (go_at_call 7; (with_reducible refine (HK _).mono ?_); rintro e w' ⟨rfl, rfl⟩) | (go_at_call 11; (with_reducible refine (H1 _).mono ?_); rintro e w' ⟨rfl, rfl⟩) | (go_at_call 11; (with_reducible refine (H2 _).mono ?_); rintro e w' ⟨rfl, rfl⟩) | (go_at_call 13; (with_reducible refine (H3 _).mono ?_); rintro e w' ⟨rfl, rfl⟩) | (go_at_call 8; (with_reducible refine (H4 _).mono ?_); rintro e w' ⟨rfl, rfl⟩) | (go_at_call 11; (with_reducible refine (H5 _).mono ?_); rintro e w' ⟨rfl, rfl⟩) | (go_at_call 15; (with_reducible refine (H6 _).mono ?_); rintro e w' ⟨rfl, rfl⟩) | (go_at_call 17; (with_reducible refine (H7 _).mono ?_); rintro e w' ⟨rfl, rfl⟩) | (go_at_call 19; (with_reducible refine (H8 _).mono ?_); rintro e w' ⟨rfl, rfl⟩) | fail)
            all_goals (go_ret; first | exact ⟨rfl, rfl⟩ | (refine ⟨congrArg (fun x => Ending.returned (Value.bool x)) (decide_eq_true ?_), rfl⟩; omega))
        · rw [tell_over f6] at H6
          by_cases r0 : r = 0
          · have r6 : (r == 0) = true := by simp [r0]
            clear r0
            clear hs hd hp hb ha
            try clear f1
            try clear f3
            try clear f6
            go_enter Try.func5, Try.ntmps5
            go_wp2_with (first | (go_at_call 7; (with_reducible refine (HK _).mono ?_); rintro e w' ⟨rfl, rfl⟩) | (go_at_call 11; (with_reducible refine (H1 _).mono ?_); rintro e w' ⟨rfl, rfl⟩) | (go_at_call 11; (with_reducible refine (H2 _).mono ?_); rintro e w' ⟨rfl, rfl⟩) | (go_at_call 13; (with_reducible refine (H3 _).mono ?_); rintro e w' ⟨rfl, rfl⟩) | (go_at_call 8; (with_reducible refine (H4 _).mono ?_); rintro e w' ⟨rfl, rfl⟩) | (go_at_call 11; (with_reducible refine (H5 _).mono ?_); rintro e w' ⟨rfl, rfl⟩) | (go_at_call 15; (with_reducible refine (H6 _).mono ?_); rintro e w' ⟨rfl, rfl⟩) | (go_at_call 17; (with_reducible refine (H7 _).mono ?_); rintro e w' ⟨rfl, rfl⟩) | (go_at_call 19; (with_reducible refine (H8 _).mono ?_); rintro e w' ⟨rfl, rfl⟩) | fail)
            all_goals (go_ret; first | exact ⟨rfl, rfl⟩ | (refine ⟨congrArg (fun x => Ending.returned (Value.bool x)) (decide_eq_true ?_), rfl⟩; omega))
          · have r6 : (r == 0) = false := by simp [r0]
            have rs : (decide (0 < r) == decide (0 < a)) = true := by
              by_cases h : 0 < r
              · rw [decide_eq_true h, decide_eq_true (by omega)]; rfl
              · rw [decide_eq_false h, decide_eq_false (by omega)]; rfl
            clear r0
            clear hs hd hp hb ha
            try clear f1
            try clear f3
            try clear f6
            go_enter Try.func5, Try.ntmps5
            go_wp2_with (first | (go_at_call 7; (with_reducible refine (HK _).mono ?_); rintro e w' ⟨rfl, rfl⟩) | (go_at_call 11; (with_reducible refine (H1 _).mono ?_); rintro e w' ⟨rfl, rfl⟩) | (go_at_call 11; (with_reducible refine (H2 _).mono ?_); rintro e w' ⟨rfl, rfl⟩) | (go_at_call 13; (with_reducible refine (H3 _).mono ?_); rintro e w' ⟨rfl, rfl⟩) | (go_at_call 8; (with_reducible refine (H4 _).mono ?_); rintro e w' ⟨rfl, rfl⟩) | (go_at_call 11; (with_reducible refine (H5 _).mono ?_); rintro e w' ⟨rfl, rfl⟩) | (go_at_call 15; (with_reducible refine (H6 _).mono ?_); rintro e w' ⟨rfl, rfl⟩) | (go_at_call 17; (with_reducible refine (H7 _).mono ?_); rintro e w' ⟨rfl, rfl⟩) | (go_at_call 19; (with_reducible refine (H8 _).mono ?_); rintro e w' ⟨rfl, rfl⟩) | fail)
            all_goals (go_ret; first | exact ⟨rfl, rfl⟩ | (refine ⟨congrArg (fun x => Ending.returned (Value.bool x)) (decide_eq_true ?_), rfl⟩; omega))
      · rw [tell_over f3] at H3
        clear H5
        by_cases f6 : fitsI p
        · rw [tell_ok f6] at H6
          have e2 : IntKind.i64.wrap (a * b) = p := by rw [hp]; exact fits_wrap f6
          by_cases r0 : r = 0
          · have r6 : (r == 0) = true := by simp [r0]
            clear r0
            clear hs hd hp hb ha
            try clear f1
            try clear f3
            try clear f6
            go_enter Try.func5, Try.ntmps5
            go_wp2_with (first | (go_at_call 7; (with_reducible refine (HK _).mono ?_); rintro e w' ⟨rfl, rfl⟩) | (go_at_call 11; (with_reducible refine (H1 _).mono ?_); rintro e w' ⟨rfl, rfl⟩) | (go_at_call 11; (with_reducible refine (H2 _).mono ?_); rintro e w' ⟨rfl, rfl⟩) | (go_at_call 13; (with_reducible refine (H3 _).mono ?_); rintro e w' ⟨rfl, rfl⟩) | (go_at_call 8; (with_reducible refine (H4 _).mono ?_); rintro e w' ⟨rfl, rfl⟩) | (go_at_call 11; (with_reducible refine (H5 _).mono ?_); rintro e w' ⟨rfl, rfl⟩) | (go_at_call 15; (with_reducible refine (H6 _).mono ?_); rintro e w' ⟨rfl, rfl⟩) | (go_at_call 17; (with_reducible refine (H7 _).mono ?_); rintro e w' ⟨rfl, rfl⟩) | (go_at_call 19; (with_reducible refine (H8 _).mono ?_); rintro e w' ⟨rfl, rfl⟩) | fail)
            all_goals (go_ret; first | exact ⟨rfl, rfl⟩ | (refine ⟨congrArg (fun x => Ending.returned (Value.bool x)) (decide_eq_true ?_), rfl⟩; omega))
          · have r6 : (r == 0) = false := by simp [r0]
            have rs : (decide (0 < r) == decide (0 < a)) = true := by
              by_cases h : 0 < r
              · rw [decide_eq_true h, decide_eq_true (by omega)]; rfl
              · rw [decide_eq_false h, decide_eq_false (by omega)]; rfl
            clear r0
            clear hs hd hp hb ha
            try clear f1
            try clear f3
            try clear f6
            go_enter Try.func5, Try.ntmps5
            go_wp2_with (first | (go_at_call 7; (with_reducible refine (HK _).mono ?_); rintro e w' ⟨rfl, rfl⟩) | (go_at_call 11; (with_reducible refine (H1 _).mono ?_); rintro e w' ⟨rfl, rfl⟩) | (go_at_call 11; (with_reducible refine (H2 _).mono ?_); rintro e w' ⟨rfl, rfl⟩) | (go_at_call 13; (with_reducible refine (H3 _).mono ?_); rintro e w' ⟨rfl, rfl⟩) | (go_at_call 8; (with_reducible refine (H4 _).mono ?_); rintro e w' ⟨rfl, rfl⟩) | (go_at_call 11; (with_reducible refine (H5 _).mono ?_); rintro e w' ⟨rfl, rfl⟩) | (go_at_call 15; (with_reducible refine (H6 _).mono ?_); rintro e w' ⟨rfl, rfl⟩) | (go_at_call 17; (with_reducible refine (H7 _).mono ?_); rintro e w' ⟨rfl, rfl⟩) | (go_at_call 19; (with_reducible refine (H8 _).mono ?_); rintro e w' ⟨rfl, rfl⟩) | fail)
            all_goals (go_ret; first | exact ⟨rfl, rfl⟩ | (refine ⟨congrArg (fun x => Ending.returned (Value.bool x)) (decide_eq_true ?_), rfl⟩; omega))
        · rw [tell_over f6] at H6
          by_cases r0 : r = 0
          · have r6 : (r == 0) = true := by simp [r0]
            clear r0
            clear hs hd hp hb ha
            try clear f1
            try clear f3
            try clear f6
            go_enter Try.func5, Try.ntmps5
            go_wp2_with (first | (go_at_call 7; (with_reducible refine (HK _).mono ?_); rintro e w' ⟨rfl, rfl⟩) | (go_at_call 11; (with_reducible refine (H1 _).mono ?_); rintro e w' ⟨rfl, rfl⟩) | (go_at_call 11; (with_reducible refine (H2 _).mono ?_); rintro e w' ⟨rfl, rfl⟩) | (go_at_call 13; (with_reducible refine (H3 _).mono ?_); rintro e w' ⟨rfl, rfl⟩) | (go_at_call 8; (with_reducible refine (H4 _).mono ?_); rintro e w' ⟨rfl, rfl⟩) | (go_at_call 11; (with_reducible refine (H5 _).mono ?_); rintro e w' ⟨rfl, rfl⟩) | (go_at_call 15; (with_reducible refine (H6 _).mono ?_); rintro e w' ⟨rfl, rfl⟩) | (go_at_call 17; (with_reducible refine (H7 _).mono ?_); rintro e w' ⟨rfl, rfl⟩) | (go_at_call 19; (with_reducible refine (H8 _).mono ?_); rintro e w' ⟨rfl, rfl⟩) | fail)
            all_goals (go_ret; first | exact ⟨rfl, rfl⟩ | (refine ⟨congrArg (fun x => Ending.returned (Value.bool x)) (decide_eq_true ?_), rfl⟩; omega))
          · have r6 : (r == 0) = false := by simp [r0]
            have rs : (decide (0 < r) == decide (0 < a)) = true := by
              by_cases h : 0 < r
              · rw [decide_eq_true h, decide_eq_true (by omega)]; rfl
              · rw [decide_eq_false h, decide_eq_false (by omega)]; rfl
            clear r0
            clear hs hd hp hb ha
            try clear f1
            try clear f3
            try clear f6
            go_enter Try.func5, Try.ntmps5
            go_wp2_with (first | (go_at_call 7; (with_reducible refine (HK _).mono ?_); rintro e w' ⟨rfl, rfl⟩) | (go_at_call 11; (with_reducible refine (H1 _).mono ?_); rintro e w' ⟨rfl, rfl⟩) | (go_at_call 11; (with_reducible refine (H2 _).mono ?_); rintro e w' ⟨rfl, rfl⟩) | (go_at_call 13; (with_reducible refine (H3 _).mono ?_); rintro e w' ⟨rfl, rfl⟩) | (go_at_call 8; (with_reducible refine (H4 _).mono ?_); rintro e w' ⟨rfl, rfl⟩) | (go_at_call 11; (with_reducible refine (H5 _).mono ?_); rintro e w' ⟨rfl, rfl⟩) | (go_at_call 15; (with_reducible refine (H6 _).mono ?_); rintro e w' ⟨rfl, rfl⟩) | (go_at_call 17; (with_reducible refine (H7 _).mono ?_); rintro e w' ⟨rfl, rfl⟩) | (go_at_call 19; (with_reducible refine (H8 _).mono ?_); rintro e w' ⟨rfl, rfl⟩) | fail)
            all_goals (go_ret; first | exact ⟨rfl, rfl⟩ | (refine ⟨congrArg (fun x => Ending.returned (Value.bool x)) (decide_eq_true ?_), rfl⟩; omega))
    · rw [tell_over f1] at H1 H2
      by_cases f3 : fitsI d
      · rw [tell_ok f3] at H3
        rw [tell_ok f3] at H5
        by_cases f6 : fitsI p
        · rw [tell_ok f6] at H6
          have e2 : IntKind.i64.wrap (a * b) = p := by rw [hp]; exact fits_wrap f6
          by_cases r0 : r = 0
          · have r6 : (r == 0) = true := by simp [r0]
            clear r0
            clear hs hd hp hb ha
            try clear f1
            try clear f3
            try clear f6
            go_enter Try.func5, Try.ntmps5
            go_wp2_with (first | (go_at_call 7; (with_reducible refine (HK _).mono ?_); rintro e w' ⟨rfl, rfl⟩) | (go_at_call 11; (with_reducible refine (H1 _).mono ?_); rintro e w' ⟨rfl, rfl⟩) | (go_at_call 11; (with_reducible refine (H2 _).mono ?_); rintro e w' ⟨rfl, rfl⟩) | (go_at_call 13; (with_reducible refine (H3 _).mono ?_); rintro e w' ⟨rfl, rfl⟩) | (go_at_call 8; (with_reducible refine (H4 _).mono ?_); rintro e w' ⟨rfl, rfl⟩) | (go_at_call 11; (with_reducible refine (H5 _).mono ?_); rintro e w' ⟨rfl, rfl⟩) | (go_at_call 15; (with_reducible refine (H6 _).mono ?_); rintro e w' ⟨rfl, rfl⟩) | (go_at_call 17; (with_reducible refine (H7 _).mono ?_); rintro e w' ⟨rfl, rfl⟩) | (go_at_call 19; (with_reducible refine (H8 _).mono ?_); rintro e w' ⟨rfl, rfl⟩) | fail)
            all_goals (go_ret; first | exact ⟨rfl, rfl⟩ | (refine ⟨congrArg (fun x => Ending.returned (Value.bool x)) (decide_eq_true ?_), rfl⟩; omega))
          · have r6 : (r == 0) = false := by simp [r0]
            have rs : (decide (0 < r) == decide (0 < a)) = true := by
              by_cases h : 0 < r
              · rw [decide_eq_true h, decide_eq_true (by omega)]; rfl
              · rw [decide_eq_false h, decide_eq_false (by omega)]; rfl
            clear r0
            clear hs hd hp hb ha
            try clear f1
            try clear f3
            try clear f6
            go_enter Try.func5, Try.ntmps5
            go_wp2_with (first | (go_at_call 7; (with_reducible refine (HK _).mono ?_); rintro e w' ⟨rfl, rfl⟩) | (go_at_call 11; (with_reducible refine (H1 _).mono ?_); rintro e w' ⟨rfl, rfl⟩) | (go_at_call 11; (with_reducible refine (H2 _).mono ?_); rintro e w' ⟨rfl, rfl⟩) | (go_at_call 13; (with_reducible refine (H3 _).mono ?_); rintro e w' ⟨rfl, rfl⟩) | (go_at_call 8; (with_reducible refine (H4 _).mono ?_); rintro e w' ⟨rfl, rfl⟩) | (go_at_call 11; (with_reducible refine (H5 _).mono ?_); rintro e w' ⟨rfl, rfl⟩) | (go_at_call 15; (with_reducible refine (H6 _).mono ?_); rintro e w' ⟨rfl, rfl⟩) | (go_at_call 17; (with_reducible refine (H7 _).mono ?_); rintro e w' ⟨rfl, rfl⟩) | (go_at_call 19; (with_reducible refine (H8 _).mono ?_); rintro e w' ⟨rfl, rfl⟩) | fail)
            all_goals (go_ret; first | exact ⟨rfl, rfl⟩ | (refine ⟨congrArg (fun x => Ending.returned (Value.bool x)) (decide_eq_true ?_), rfl⟩; omega))
        · rw [tell_over f6] at H6
          by_cases r0 : r = 0
          · have r6 : (r == 0) = true := by simp [r0]
            clear r0
            clear hs hd hp hb ha
            try clear f1
            try clear f3
            try clear f6
            go_enter Try.func5, Try.ntmps5
            go_wp2_with (first | (go_at_call 7; (with_reducible refine (HK _).mono ?_); rintro e w' ⟨rfl, rfl⟩) | (go_at_call 11; (with_reducible refine (H1 _).mono ?_); rintro e w' ⟨rfl, rfl⟩) | (go_at_call 11; (with_reducible refine (H2 _).mono ?_); rintro e w' ⟨rfl, rfl⟩) | (go_at_call 13; (with_reducible refine (H3 _).mono ?_); rintro e w' ⟨rfl, rfl⟩) | (go_at_call 8; (with_reducible refine (H4 _).mono ?_); rintro e w' ⟨rfl, rfl⟩) | (go_at_call 11; (with_reducible refine (H5 _).mono ?_); rintro e w' ⟨rfl, rfl⟩) | (go_at_call 15; (with_reducible refine (H6 _).mono ?_); rintro e w' ⟨rfl, rfl⟩) | (go_at_call 17; (with_reducible refine (H7 _).mono ?_); rintro e w' ⟨rfl, rfl⟩) | (go_at_call 19; (with_reducible refine (H8 _).mono ?_); rintro e w' ⟨rfl, rfl⟩) | fail)
            all_goals (go_ret; first | exact ⟨rfl, rfl⟩ | (refine ⟨congrArg (fun x => Ending.returned (Value.bool x)) (decide_eq_true ?_), rfl⟩; omega))
          · have r6 : (r == 0) = false := by simp [r0]
            have rs : (decide (0 < r) == decide (0 < a)) = true := by
              by_cases h : 0 < r
              · rw [decide_eq_true h, decide_eq_true (by omega)]; rfl
              · rw [decide_eq_false h, decide_eq_false (by omega)]; rfl
            clear r0
            clear hs hd hp hb ha
            try clear f1
            try clear f3
            try clear f6
            go_enter Try.func5, Try.ntmps5
            go_wp2_with (first | (go_at_call 7; (with_reducible refine (HK _).mono ?_); rintro e w' ⟨rfl, rfl⟩) | (go_at_call 11; (with_reducible refine (H1 _).mono ?_); rintro e w' ⟨rfl, rfl⟩) | (go_at_call 11; (with_reducible refine (H2 _).mono ?_); rintro e w' ⟨rfl, rfl⟩) | (go_at_call 13; (with_reducible refine (H3 _).mono ?_); rintro e w' ⟨rfl, rfl⟩) | (go_at_call 8; (with_reducible refine (H4 _).mono ?_); rintro e w' ⟨rfl, rfl⟩) | (go_at_call 11; (with_reducible refine (H5 _).mono ?_); rintro e w' ⟨rfl, rfl⟩) | (go_at_call 15; (with_reducible refine (H6 _).mono ?_); rintro e w' ⟨rfl, rfl⟩) | (go_at_call 17; (with_reducible refine (H7 _).mono ?_); rintro e w' ⟨rfl, rfl⟩) | (go_at_call 19; (with_reducible refine (H8 _).mono ?_); rintro e w' ⟨rfl, rfl⟩) | fail)
            all_goals (go_ret; first | exact ⟨rfl, rfl⟩ | (refine ⟨congrArg (fun x => Ending.returned (Value.bool x)) (decide_eq_true ?_), rfl⟩; omega))
      · rw [tell_over f3] at H3
        clear H5
        by_cases f6 : fitsI p
        · rw [tell_ok f6] at H6
          have e2 : IntKind.i64.wrap (a * b) = p := by rw [hp]; exact fits_wrap f6
          by_cases r0 : r = 0
          · have r6 : (r == 0) = true := by simp [r0]
            clear r0
            clear hs hd hp hb ha
            try clear f1
            try clear f3
            try clear f6
            go_enter Try.func5, Try.ntmps5
            go_wp2_with (first | (go_at_call 7; (with_reducible refine (HK _).mono ?_); rintro e w' ⟨rfl, rfl⟩) | (go_at_call 11; (with_reducible refine (H1 _).mono ?_); rintro e w' ⟨rfl, rfl⟩) | (go_at_call 11; (with_reducible refine (H2 _).mono ?_); rintro e w' ⟨rfl, rfl⟩) | (go_at_call 13; (with_reducible refine (H3 _).mono ?_); rintro e w' ⟨rfl, rfl⟩) | (go_at_call 8; (with_reducible refine (H4 _).mono ?_); rintro e w' ⟨rfl, rfl⟩) | (go_at_call 11; (with_reducible refine (H5 _).mono ?_); rintro e w' ⟨rfl, rfl⟩) | (go_at_call 15; (with_reducible refine (H6 _).mono ?_); rintro e w' ⟨rfl, rfl⟩) | (go_at_call 17; (with_reducible refine (H7 _).mono ?_); rintro e w' ⟨rfl, rfl⟩) | (go_at_call 19; (with_reducible refine (H8 _).mono ?_); rintro e w' ⟨rfl, rfl⟩) | fail)
            all_goals (go_ret; first | exact ⟨rfl, rfl⟩ | (refine ⟨congrArg (fun x => Ending.returned (Value.bool x)) (decide_eq_true ?_), rfl⟩; omega))
          · have r6 : (r == 0) = false := by simp [r0]
            have rs : (decide (0 < r) == decide (0 < a)) = true := by
              by_cases h : 0 < r
              · rw [decide_eq_true h, decide_eq_true (by omega)]; rfl
              · rw [decide_eq_false h, decide_eq_false (by omega)]; rfl
            clear r0
            clear hs hd hp hb ha
            try clear f1
            try clear f3
            try clear f6
            go_enter Try.func5, Try.ntmps5
            go_wp2_with (first | (go_at_call 7; (with_reducible refine (HK _).mono ?_); rintro e w' ⟨rfl, rfl⟩) | (go_at_call 11; (with_reducible refine (H1 _).mono ?_); rintro e w' ⟨rfl, rfl⟩) | (go_at_call 11; (with_reducible refine (H2 _).mono ?_); rintro e w' ⟨rfl, rfl⟩) | (go_at_call 13; (with_reducible refine (H3 _).mono ?_); rintro e w' ⟨rfl, rfl⟩) | (go_at_call 8; (with_reducible refine (H4 _).mono ?_); rintro e w' ⟨rfl, rfl⟩) | (go_at_call 11; (with_reducible refine (H5 _).mono ?_); rintro e w' ⟨rfl, rfl⟩) | (go_at_call 15; (with_reducible refine (H6 _).mono ?_); rintro e w' ⟨rfl, rfl⟩) | (go_at_call 17; (with_reducible refine (H7 _).mono ?_); rintro e w' ⟨rfl, rfl⟩) | (go_at_call 19; (with_reducible refine (H8 _).mono ?_); rintro e w' ⟨rfl, rfl⟩) | fail)
            all_goals (go_ret; first | exact ⟨rfl, rfl⟩ | (refine ⟨congrArg (fun x => Ending.returned (Value.bool x)) (decide_eq_true ?_), rfl⟩; omega))
        · rw [tell_over f6] at H6
          by_cases r0 : r = 0
          · have r6 : (r == 0) = true := by simp [r0]
            clear r0
            clear hs hd hp hb ha
            try clear f1
            try clear f3
            try clear f6
            go_enter Try.func5, Try.ntmps5
            go_wp2_with (first | (go_at_call 7; (with_reducible refine (HK _).mono ?_); rintro e w' ⟨rfl, rfl⟩) | (go_at_call 11; (with_reducible refine (H1 _).mono ?_); rintro e w' ⟨rfl, rfl⟩) | (go_at_call 11; (with_reducible refine (H2 _).mono ?_); rintro e w' ⟨rfl, rfl⟩) | (go_at_call 13; (with_reducible refine (H3 _).mono ?_); rintro e w' ⟨rfl, rfl⟩) | (go_at_call 8; (with_reducible refine (H4 _).mono ?_); rintro e w' ⟨rfl, rfl⟩) | (go_at_call 11; (with_reducible refine (H5 _).mono ?_); rintro e w' ⟨rfl, rfl⟩) | (go_at_call 15; (with_reducible refine (H6 _).mono ?_); rintro e w' ⟨rfl, rfl⟩) | (go_at_call 17; (with_reducible refine (H7 _).mono ?_); rintro e w' ⟨rfl, rfl⟩) | (go_at_call 19; (with_reducible refine (H8 _).mono ?_); rintro e w' ⟨rfl, rfl⟩) | fail)
            all_goals (go_ret; first | exact ⟨rfl, rfl⟩ | (refine ⟨congrArg (fun x => Ending.returned (Value.bool x)) (decide_eq_true ?_), rfl⟩; omega))
          · have r6 : (r == 0) = false := by simp [r0]
            have rs : (decide (0 < r) == decide (0 < a)) = true := by
              by_cases h : 0 < r
              · rw [decide_eq_true h, decide_eq_true (by omega)]; rfl
              · rw [decide_eq_false h, decide_eq_false (by omega)]; rfl
            clear r0
            clear hs hd hp hb ha
            try clear f1
            try clear f3
            try clear f6
            go_enter Try.func5, Try.ntmps5
            go_wp2_with (first | (go_at_call 7; (with_reducible refine (HK _).mono ?_); rintro e w' ⟨rfl, rfl⟩) | (go_at_call 11; (with_reducible refine (H1 _).mono ?_); rintro e w' ⟨rfl, rfl⟩) | (go_at_call 11; (with_reducible refine (H2 _).mono ?_); rintro e w' ⟨rfl, rfl⟩) | (go_at_call 13; (with_reducible refine (H3 _).mono ?_); rintro e w' ⟨rfl, rfl⟩) | (go_at_call 8; (with_reducible refine (H4 _).mono ?_); rintro e w' ⟨rfl, rfl⟩) | (go_at_call 11; (with_reducible refine (H5 _).mono ?_); rintro e w' ⟨rfl, rfl⟩) | (go_at_call 15; (with_reducible refine (H6 _).mono ?_); rintro e w' ⟨rfl, rfl⟩) | (go_at_call 17; (with_reducible refine (H7 _).mono ?_); rintro e w' ⟨rfl, rfl⟩) | (go_at_call 19; (with_reducible refine (H8 _).mono ?_); rintro e w' ⟨rfl, rfl⟩) | fail)
            all_goals (go_ret; first | exact ⟨rfl, rfl⟩ | (refine ⟨congrArg (fun x => Ending.returned (Value.bool x)) (decide_eq_true ?_), rfl⟩; omega))

theorem laws_any (a b : Int) (ha : fitsI a) (hb : fitsI b) (w : World) :
    Calls Try.prog 5 #[.int .i64 a, .int .i64 b] w fun e w' => e = .returned (.bool true) ∧ w' = w := by
  by_cases h0 : b = 0
  · subst h0; exact laws_zero a ha w
  by_cases h1 : b = -1
  · subst h1
    by_cases h2 : a = -9223372036854775808
    · subst h2; exact laws_over w
    · exact laws_minus a ha h2 w
  · exact laws_gen a b ha hb h0 h1 w
end Go.Proofs.Ytebhmbejpfmbgaa
