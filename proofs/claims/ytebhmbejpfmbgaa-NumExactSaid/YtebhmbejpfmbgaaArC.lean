/-
  Layer 7's laws, walked: NumExact, NumProducts, NumLaws.
-/
import Derived.Test.YtebhmbejpfmbgaaArB
namespace Go.Proofs.Ytebhmbejpfmbgaa
open Go Go.RowKit

theorem div_form (a b : Int) : ∃ v e : Int, divV a b = .tuple #[.int .i64 v, .int .i64 e] := by
  unfold divV
  split
  · exact ⟨_, _, rfl⟩
  · exact tell_form _
theorem rem_form (a b : Int) : ∃ v e : Int, remV a b = .tuple #[.int .i64 v, .int .i64 e] := by
  unfold remV
  repeat' split
  all_goals exact ⟨_, _, rfl⟩

set_option maxRecDepth 100000 in
set_option maxHeartbeats 4000000 in
theorem kn_any (w : World) :
    Calls Try.prog 7 #[] w fun e w' => e = .returned (.bool true) ∧ w' = w := by
  have HD : ∀ w, Calls Try.prog 17 #[.int .i64 (-7), .int .i64 2] w fun e w' => e = .returned (.tuple #[.int .i64 (-3), .int .i64 0]) ∧ w' = w := fun w => ndiv (-7) 2 (by decide) (by decide) w
  have HN : ∀ w, Calls Try.prog 8 #[.int .i64 (-9223372036854775808)] w fun e w' => e = .returned (.tuple #[.int .i64 0, .int .i64 1]) ∧ w' = w := fun w => nneg (-9223372036854775808) (by decide) w
  go_enter Try.func7, Try.ntmps7
  go_wp2_with (first | (go_at_call 17; (with_reducible refine (HD _).mono ?_); rintro e w' ⟨rfl, rfl⟩) | (go_at_call 8; (with_reducible refine (HN _).mono ?_); rintro e w' ⟨rfl, rfl⟩) | fail)
  all_goals (go_ret; exact ⟨rfl, rfl⟩)

set_option maxRecDepth 100000 in
set_option maxHeartbeats 4000000 in
theorem same_any (v w : Int) (W : World) :
    Calls Try.prog 10 #[.int .i64 v, .int .i64 w, .int .i64 v, .int .i64 w] W fun e w' => e = .returned (.bool true) ∧ w' = W := by
  go_enter Try.func10, Try.ntmps10
  go_wp2
  all_goals (go_ret; exact ⟨rfl, rfl⟩)

set_option maxRecDepth 100000 in
set_option maxHeartbeats 4000000 in
theorem exact_any (a b : Int) (ha : fitsI a) (hb : fitsI b) (w : World) :
    Calls Try.prog 3 #[.int .i64 a, .int .i64 b] w fun e w' => e = .returned (.bool true) ∧ w' = w := by
  have HK := fun w => kn_any w
  have HS := fun v e w => same_any v e w
  obtain ⟨t0, e0, k0⟩ := tell_form (-a)
  have N0 := fun w => nneg a ha w
  have R0 := fun w => rneg a ha w
  rw [k0] at N0 R0
  obtain ⟨t1, e1, k1⟩ := tell_form (a + b)
  have N1 := fun w => nadd a b ha hb w
  have R1 := fun w => radd a b ha hb w
  rw [k1] at N1 R1
  obtain ⟨t2, e2, k2⟩ := tell_form (a - b)
  have N2 := fun w => nsub a b ha hb w
  have R2 := fun w => rsub a b ha hb w
  rw [k2] at N2 R2
  obtain ⟨t3, e3, k3⟩ := tell_form (a * b)
  have N3 := fun w => nmul a b ha hb w
  have R3 := fun w => rmul a b ha hb w
  rw [k3] at N3 R3
  obtain ⟨t4, e4, k4⟩ := div_form a b
  have N4 := fun w => ndiv a b ha hb w
  have R4 := fun w => rdiv a b ha hb w
  rw [k4] at N4 R4
  obtain ⟨t5, e5, k5⟩ := rem_form a b
  have N5 := fun w => nrem a b ha hb w
  have R5 := fun w => rrem a b ha hb w
  rw [k5] at N5 R5
  clear k0 k1 k2 k3 k4 k5 ha hb
  go_enter Try.func3, Try.ntmps3
  go_wp2_with (first | (go_at_call 7; (with_reducible refine (HK _).mono ?_); rintro e w' ⟨rfl, rfl⟩) | (go_at_call 10; (with_reducible refine (HS _ _ _).mono ?_); rintro e w' ⟨rfl, rfl⟩) | (go_at_call 8; (with_reducible refine (N0 _).mono ?_); rintro e w' ⟨rfl, rfl⟩) | (go_at_call 9; (with_reducible refine (R0 _).mono ?_); rintro e w' ⟨rfl, rfl⟩) | (go_at_call 11; (with_reducible refine (N1 _).mono ?_); rintro e w' ⟨rfl, rfl⟩) | (go_at_call 12; (with_reducible refine (R1 _).mono ?_); rintro e w' ⟨rfl, rfl⟩) | (go_at_call 13; (with_reducible refine (N2 _).mono ?_); rintro e w' ⟨rfl, rfl⟩) | (go_at_call 14; (with_reducible refine (R2 _).mono ?_); rintro e w' ⟨rfl, rfl⟩) | (go_at_call 15; (with_reducible refine (N3 _).mono ?_); rintro e w' ⟨rfl, rfl⟩) | (go_at_call 16; (with_reducible refine (R3 _).mono ?_); rintro e w' ⟨rfl, rfl⟩) | (go_at_call 17; (with_reducible refine (N4 _).mono ?_); rintro e w' ⟨rfl, rfl⟩) | (go_at_call 18; (with_reducible refine (R4 _).mono ?_); rintro e w' ⟨rfl, rfl⟩) | (go_at_call 19; (with_reducible refine (N5 _).mono ?_); rintro e w' ⟨rfl, rfl⟩) | (go_at_call 20; (with_reducible refine (R5 _).mono ?_); rintro e w' ⟨rfl, rfl⟩) | fail)
  all_goals (go_ret; exact ⟨rfl, rfl⟩)

set_option maxRecDepth 100000 in
set_option maxHeartbeats 4000000 in
theorem lsize (a : Int) (ha : fitsI a) (w : World) :
    Calls Try.prog 26 #[.int .i64 a] w fun e w' => e = .returned (.int .u64 ((a.natAbs : Nat) : Int)) ∧ w' = w := by
  unfold fitsI at ha
  by_cases h : a < 0
  · have h1 : IntKind.u64.wrap a = a + 18446744073709551616 := by rw [IntKind.wrap_u64]; omega
    have h2 : IntKind.u64.wrap (-(a + 18446744073709551616)) = -a := by rw [IntKind.wrap_u64]; omega
    have h3 : ((a.natAbs : Nat) : Int) = -a := by omega
    rw [h3]; clear h3
    go_enter Try.func26, Try.ntmps26
    go_wp2
    go_ret
    exact ⟨rfl, rfl⟩
  · have h1 : IntKind.u64.wrap a = a := by rw [IntKind.wrap_u64]; omega
    have h3 : ((a.natAbs : Nat) : Int) = a := by omega
    rw [h3]; clear h3
    go_enter Try.func26, Try.ntmps26
    go_wp2
    go_ret
    exact ⟨rfl, rfl⟩

set_option maxRecDepth 100000 in
set_option maxHeartbeats 8000000 in
theorem products_any (a b : Int) (ha : fitsI a) (hb : fitsI b) (w : World) :
    Calls Try.prog 6 #[.int .i64 a, .int .i64 b] w fun e w' => e = .returned (.bool true) ∧ w' = w := by
  have HK := fun w => kn_any w
  obtain ⟨hi, lo, h1, h2, hC⟩ := halves a b w ha hb
  have hs := sides a b
  have HA := fun w => lsize a ha w
  have HB := fun w => lsize b hb w
  have HM := fun w => nmul a b ha hb w
  obtain ⟨v, hv⟩ : ∃ v, a * b = v := ⟨_, rfl⟩
  have HV := fun (h : fitsI v) w => lsize v h w
  obtain ⟨p, hp⟩ : ∃ p, a.natAbs * b.natAbs = p := ⟨_, rfl⟩
  obtain ⟨x, hx⟩ : ∃ x, ((a.natAbs : Nat) : Int) = x := ⟨_, rfl⟩
  obtain ⟨y, hy⟩ : ∃ y, ((b.natAbs : Nat) : Int) = y := ⟨_, rfl⟩
  rw [hx] at HA hC; rw [hy] at HB hC
  rw [hp] at h1 h2 hs
  rw [hv] at hs HM
  by_cases hz : 0 < hi
  · have hover : ¬ fitsI v := by
      rw [hs]
      split <;> (unfold fitsI; omega)
    rw [tell_over hover] at HM
    clear HV h1 h2 hs hp hx hy hover ha hb hv
    by_cases sa : a < 0 <;> by_cases sb : b < 0
    all_goals
      go_enter Try.func6, Try.ntmps6
      go_wp2_with (first | (go_at_call 7; (with_reducible refine (HK _).mono ?_); rintro e w' ⟨rfl, rfl⟩) | (go_at_call_of 26 (Value.int .i64 a); (with_reducible refine (HA _).mono ?_); rintro e w' ⟨rfl, rfl⟩) | (go_at_call_of 26 (Value.int .i64 b); (with_reducible refine (HB _).mono ?_); rintro e w' ⟨rfl, rfl⟩) | (go_at_call_of 26 (Value.int .i64 v); (with_reducible refine (HV _).mono ?_); rintro e w' ⟨rfl, rfl⟩) | (go_at_call 25; (with_reducible refine (hC).mono ?_); rintro e w' ⟨rfl, rfl⟩) | (go_at_call 15; (with_reducible refine (HM _).mono ?_); rintro e w' ⟨rfl, rfl⟩) | fail)
      all_goals (go_ret; exact ⟨rfl, rfl⟩)
  · have hlo : lo = p := by omega
    have hz0 : hi = 0 := by omega
    have hlo0 : 0 ≤ lo := by omega
    rw [← hlo] at hs
    clear h1 h2 hp hx hy hlo ha hb hv hz
    subst hz0
    by_cases sa : a < 0 <;> by_cases sb : b < 0
    · have hv1 : v = lo := by rw [hs]; simp [sa, sb]
      clear hs
      by_cases hf : fitsI v
      · rw [tell_ok hf] at HM
        have HV := fun w => HV hf w
        have e1 : ((v.natAbs : Nat) : Int) = lo := by omega
        rw [e1] at HV; clear e1
        have hm : ¬ 9223372036854775807 < lo := by unfold fitsI at hf; omega
        replace hm := decide_eq_false hm
        clear hf
        replace sa := decide_eq_true sa
        replace sb := decide_eq_true sb
        by_cases hl : lo = 0
        · have hl1 : (lo == 0) = true := by simp [hl]
          have sv : ¬ v < 0 := by omega
          replace sv := decide_eq_false sv
          clear hl hv1
          go_enter Try.func6, Try.ntmps6
          go_wp2_with (first | (go_at_call 7; (with_reducible refine (HK _).mono ?_); rintro e w' ⟨rfl, rfl⟩) | (go_at_call_of 26 (Value.int .i64 a); (with_reducible refine (HA _).mono ?_); rintro e w' ⟨rfl, rfl⟩) | (go_at_call_of 26 (Value.int .i64 b); (with_reducible refine (HB _).mono ?_); rintro e w' ⟨rfl, rfl⟩) | (go_at_call_of 26 (Value.int .i64 v); (with_reducible refine (HV _).mono ?_); rintro e w' ⟨rfl, rfl⟩) | (go_at_call 25; (with_reducible refine (hC).mono ?_); rintro e w' ⟨rfl, rfl⟩) | (go_at_call 15; (with_reducible refine (HM _).mono ?_); rintro e w' ⟨rfl, rfl⟩) | fail)
          all_goals (go_ret; exact ⟨rfl, rfl⟩)
        · have hl1 : (lo == 0) = false := by simp [hl]
          have sv : ¬ v < 0 := by omega
          replace sv := decide_eq_false sv
          clear hl hv1
          go_enter Try.func6, Try.ntmps6
          go_wp2_with (first | (go_at_call 7; (with_reducible refine (HK _).mono ?_); rintro e w' ⟨rfl, rfl⟩) | (go_at_call_of 26 (Value.int .i64 a); (with_reducible refine (HA _).mono ?_); rintro e w' ⟨rfl, rfl⟩) | (go_at_call_of 26 (Value.int .i64 b); (with_reducible refine (HB _).mono ?_); rintro e w' ⟨rfl, rfl⟩) | (go_at_call_of 26 (Value.int .i64 v); (with_reducible refine (HV _).mono ?_); rintro e w' ⟨rfl, rfl⟩) | (go_at_call 25; (with_reducible refine (hC).mono ?_); rintro e w' ⟨rfl, rfl⟩) | (go_at_call 15; (with_reducible refine (HM _).mono ?_); rintro e w' ⟨rfl, rfl⟩) | fail)
          all_goals (go_ret; exact ⟨rfl, rfl⟩)
      · rw [tell_over hf] at HM
        have hm : 9223372036854775807 < lo := by unfold fitsI at hf; omega
        replace hm := decide_eq_true hm
        clear HV hf hv1
        replace sa := decide_eq_true sa
        replace sb := decide_eq_true sb
        go_enter Try.func6, Try.ntmps6
        go_wp2_with (first | (go_at_call 7; (with_reducible refine (HK _).mono ?_); rintro e w' ⟨rfl, rfl⟩) | (go_at_call_of 26 (Value.int .i64 a); (with_reducible refine (HA _).mono ?_); rintro e w' ⟨rfl, rfl⟩) | (go_at_call_of 26 (Value.int .i64 b); (with_reducible refine (HB _).mono ?_); rintro e w' ⟨rfl, rfl⟩) | (go_at_call_of 26 (Value.int .i64 v); (with_reducible refine (HV _).mono ?_); rintro e w' ⟨rfl, rfl⟩) | (go_at_call 25; (with_reducible refine (hC).mono ?_); rintro e w' ⟨rfl, rfl⟩) | (go_at_call 15; (with_reducible refine (HM _).mono ?_); rintro e w' ⟨rfl, rfl⟩) | fail)
        all_goals (go_ret; exact ⟨rfl, rfl⟩)
    · have hv1 : v = -lo := by rw [hs]; simp [sa, sb]
      clear hs
      by_cases hf : fitsI v
      · rw [tell_ok hf] at HM
        have HV := fun w => HV hf w
        have e1 : ((v.natAbs : Nat) : Int) = lo := by omega
        rw [e1] at HV; clear e1
        have hm : ¬ 9223372036854775808 < lo := by unfold fitsI at hf; omega
        replace hm := decide_eq_false hm
        clear hf
        replace sa := decide_eq_true sa
        replace sb := decide_eq_false sb
        by_cases hl : lo = 0
        · have hl1 : (lo == 0) = true := by simp [hl]
          have sv : ¬ v < 0 := by omega
          replace sv := decide_eq_false sv
          clear hl hv1
          go_enter Try.func6, Try.ntmps6
          go_wp2_with (first | (go_at_call 7; (with_reducible refine (HK _).mono ?_); rintro e w' ⟨rfl, rfl⟩) | (go_at_call_of 26 (Value.int .i64 a); (with_reducible refine (HA _).mono ?_); rintro e w' ⟨rfl, rfl⟩) | (go_at_call_of 26 (Value.int .i64 b); (with_reducible refine (HB _).mono ?_); rintro e w' ⟨rfl, rfl⟩) | (go_at_call_of 26 (Value.int .i64 v); (with_reducible refine (HV _).mono ?_); rintro e w' ⟨rfl, rfl⟩) | (go_at_call 25; (with_reducible refine (hC).mono ?_); rintro e w' ⟨rfl, rfl⟩) | (go_at_call 15; (with_reducible refine (HM _).mono ?_); rintro e w' ⟨rfl, rfl⟩) | fail)
          all_goals (go_ret; exact ⟨rfl, rfl⟩)
        · have hl1 : (lo == 0) = false := by simp [hl]
          have sv : v < 0 := by omega
          replace sv := decide_eq_true sv
          clear hl hv1
          go_enter Try.func6, Try.ntmps6
          go_wp2_with (first | (go_at_call 7; (with_reducible refine (HK _).mono ?_); rintro e w' ⟨rfl, rfl⟩) | (go_at_call_of 26 (Value.int .i64 a); (with_reducible refine (HA _).mono ?_); rintro e w' ⟨rfl, rfl⟩) | (go_at_call_of 26 (Value.int .i64 b); (with_reducible refine (HB _).mono ?_); rintro e w' ⟨rfl, rfl⟩) | (go_at_call_of 26 (Value.int .i64 v); (with_reducible refine (HV _).mono ?_); rintro e w' ⟨rfl, rfl⟩) | (go_at_call 25; (with_reducible refine (hC).mono ?_); rintro e w' ⟨rfl, rfl⟩) | (go_at_call 15; (with_reducible refine (HM _).mono ?_); rintro e w' ⟨rfl, rfl⟩) | fail)
          all_goals (go_ret; exact ⟨rfl, rfl⟩)
      · rw [tell_over hf] at HM
        have hm : 9223372036854775808 < lo := by unfold fitsI at hf; omega
        replace hm := decide_eq_true hm
        clear HV hf hv1
        replace sa := decide_eq_true sa
        replace sb := decide_eq_false sb
        go_enter Try.func6, Try.ntmps6
        go_wp2_with (first | (go_at_call 7; (with_reducible refine (HK _).mono ?_); rintro e w' ⟨rfl, rfl⟩) | (go_at_call_of 26 (Value.int .i64 a); (with_reducible refine (HA _).mono ?_); rintro e w' ⟨rfl, rfl⟩) | (go_at_call_of 26 (Value.int .i64 b); (with_reducible refine (HB _).mono ?_); rintro e w' ⟨rfl, rfl⟩) | (go_at_call_of 26 (Value.int .i64 v); (with_reducible refine (HV _).mono ?_); rintro e w' ⟨rfl, rfl⟩) | (go_at_call 25; (with_reducible refine (hC).mono ?_); rintro e w' ⟨rfl, rfl⟩) | (go_at_call 15; (with_reducible refine (HM _).mono ?_); rintro e w' ⟨rfl, rfl⟩) | fail)
        all_goals (go_ret; exact ⟨rfl, rfl⟩)
    · have hv1 : v = -lo := by rw [hs]; simp [sa, sb]
      clear hs
      by_cases hf : fitsI v
      · rw [tell_ok hf] at HM
        have HV := fun w => HV hf w
        have e1 : ((v.natAbs : Nat) : Int) = lo := by omega
        rw [e1] at HV; clear e1
        have hm : ¬ 9223372036854775808 < lo := by unfold fitsI at hf; omega
        replace hm := decide_eq_false hm
        clear hf
        replace sa := decide_eq_false sa
        replace sb := decide_eq_true sb
        by_cases hl : lo = 0
        · have hl1 : (lo == 0) = true := by simp [hl]
          have sv : ¬ v < 0 := by omega
          replace sv := decide_eq_false sv
          clear hl hv1
          go_enter Try.func6, Try.ntmps6
          go_wp2_with (first | (go_at_call 7; (with_reducible refine (HK _).mono ?_); rintro e w' ⟨rfl, rfl⟩) | (go_at_call_of 26 (Value.int .i64 a); (with_reducible refine (HA _).mono ?_); rintro e w' ⟨rfl, rfl⟩) | (go_at_call_of 26 (Value.int .i64 b); (with_reducible refine (HB _).mono ?_); rintro e w' ⟨rfl, rfl⟩) | (go_at_call_of 26 (Value.int .i64 v); (with_reducible refine (HV _).mono ?_); rintro e w' ⟨rfl, rfl⟩) | (go_at_call 25; (with_reducible refine (hC).mono ?_); rintro e w' ⟨rfl, rfl⟩) | (go_at_call 15; (with_reducible refine (HM _).mono ?_); rintro e w' ⟨rfl, rfl⟩) | fail)
          all_goals (go_ret; exact ⟨rfl, rfl⟩)
        · have hl1 : (lo == 0) = false := by simp [hl]
          have sv : v < 0 := by omega
          replace sv := decide_eq_true sv
          clear hl hv1
          go_enter Try.func6, Try.ntmps6
          go_wp2_with (first | (go_at_call 7; (with_reducible refine (HK _).mono ?_); rintro e w' ⟨rfl, rfl⟩) | (go_at_call_of 26 (Value.int .i64 a); (with_reducible refine (HA _).mono ?_); rintro e w' ⟨rfl, rfl⟩) | (go_at_call_of 26 (Value.int .i64 b); (with_reducible refine (HB _).mono ?_); rintro e w' ⟨rfl, rfl⟩) | (go_at_call_of 26 (Value.int .i64 v); (with_reducible refine (HV _).mono ?_); rintro e w' ⟨rfl, rfl⟩) | (go_at_call 25; (with_reducible refine (hC).mono ?_); rintro e w' ⟨rfl, rfl⟩) | (go_at_call 15; (with_reducible refine (HM _).mono ?_); rintro e w' ⟨rfl, rfl⟩) | fail)
          all_goals (go_ret; exact ⟨rfl, rfl⟩)
      · rw [tell_over hf] at HM
        have hm : 9223372036854775808 < lo := by unfold fitsI at hf; omega
        replace hm := decide_eq_true hm
        clear HV hf hv1
        replace sa := decide_eq_false sa
        replace sb := decide_eq_true sb
        go_enter Try.func6, Try.ntmps6
        go_wp2_with (first | (go_at_call 7; (with_reducible refine (HK _).mono ?_); rintro e w' ⟨rfl, rfl⟩) | (go_at_call_of 26 (Value.int .i64 a); (with_reducible refine (HA _).mono ?_); rintro e w' ⟨rfl, rfl⟩) | (go_at_call_of 26 (Value.int .i64 b); (with_reducible refine (HB _).mono ?_); rintro e w' ⟨rfl, rfl⟩) | (go_at_call_of 26 (Value.int .i64 v); (with_reducible refine (HV _).mono ?_); rintro e w' ⟨rfl, rfl⟩) | (go_at_call 25; (with_reducible refine (hC).mono ?_); rintro e w' ⟨rfl, rfl⟩) | (go_at_call 15; (with_reducible refine (HM _).mono ?_); rintro e w' ⟨rfl, rfl⟩) | fail)
        all_goals (go_ret; exact ⟨rfl, rfl⟩)
    · have hv1 : v = lo := by rw [hs]; simp [sa, sb]
      clear hs
      by_cases hf : fitsI v
      · rw [tell_ok hf] at HM
        have HV := fun w => HV hf w
        have e1 : ((v.natAbs : Nat) : Int) = lo := by omega
        rw [e1] at HV; clear e1
        have hm : ¬ 9223372036854775807 < lo := by unfold fitsI at hf; omega
        replace hm := decide_eq_false hm
        clear hf
        replace sa := decide_eq_false sa
        replace sb := decide_eq_false sb
        by_cases hl : lo = 0
        · have hl1 : (lo == 0) = true := by simp [hl]
          have sv : ¬ v < 0 := by omega
          replace sv := decide_eq_false sv
          clear hl hv1
          go_enter Try.func6, Try.ntmps6
          go_wp2_with (first | (go_at_call 7; (with_reducible refine (HK _).mono ?_); rintro e w' ⟨rfl, rfl⟩) | (go_at_call_of 26 (Value.int .i64 a); (with_reducible refine (HA _).mono ?_); rintro e w' ⟨rfl, rfl⟩) | (go_at_call_of 26 (Value.int .i64 b); (with_reducible refine (HB _).mono ?_); rintro e w' ⟨rfl, rfl⟩) | (go_at_call_of 26 (Value.int .i64 v); (with_reducible refine (HV _).mono ?_); rintro e w' ⟨rfl, rfl⟩) | (go_at_call 25; (with_reducible refine (hC).mono ?_); rintro e w' ⟨rfl, rfl⟩) | (go_at_call 15; (with_reducible refine (HM _).mono ?_); rintro e w' ⟨rfl, rfl⟩) | fail)
          all_goals (go_ret; exact ⟨rfl, rfl⟩)
        · have hl1 : (lo == 0) = false := by simp [hl]
          have sv : ¬ v < 0 := by omega
          replace sv := decide_eq_false sv
          clear hl hv1
          go_enter Try.func6, Try.ntmps6
          go_wp2_with (first | (go_at_call 7; (with_reducible refine (HK _).mono ?_); rintro e w' ⟨rfl, rfl⟩) | (go_at_call_of 26 (Value.int .i64 a); (with_reducible refine (HA _).mono ?_); rintro e w' ⟨rfl, rfl⟩) | (go_at_call_of 26 (Value.int .i64 b); (with_reducible refine (HB _).mono ?_); rintro e w' ⟨rfl, rfl⟩) | (go_at_call_of 26 (Value.int .i64 v); (with_reducible refine (HV _).mono ?_); rintro e w' ⟨rfl, rfl⟩) | (go_at_call 25; (with_reducible refine (hC).mono ?_); rintro e w' ⟨rfl, rfl⟩) | (go_at_call 15; (with_reducible refine (HM _).mono ?_); rintro e w' ⟨rfl, rfl⟩) | fail)
          all_goals (go_ret; exact ⟨rfl, rfl⟩)
      · rw [tell_over hf] at HM
        have hm : 9223372036854775807 < lo := by unfold fitsI at hf; omega
        replace hm := decide_eq_true hm
        clear HV hf hv1
        replace sa := decide_eq_false sa
        replace sb := decide_eq_false sb
        go_enter Try.func6, Try.ntmps6
        go_wp2_with (first | (go_at_call 7; (with_reducible refine (HK _).mono ?_); rintro e w' ⟨rfl, rfl⟩) | (go_at_call_of 26 (Value.int .i64 a); (with_reducible refine (HA _).mono ?_); rintro e w' ⟨rfl, rfl⟩) | (go_at_call_of 26 (Value.int .i64 b); (with_reducible refine (HB _).mono ?_); rintro e w' ⟨rfl, rfl⟩) | (go_at_call_of 26 (Value.int .i64 v); (with_reducible refine (HV _).mono ?_); rintro e w' ⟨rfl, rfl⟩) | (go_at_call 25; (with_reducible refine (hC).mono ?_); rintro e w' ⟨rfl, rfl⟩) | (go_at_call 15; (with_reducible refine (HM _).mono ?_); rintro e w' ⟨rfl, rfl⟩) | fail)
        all_goals (go_ret; exact ⟨rfl, rfl⟩)
end Go.Proofs.Ytebhmbejpfmbgaa
