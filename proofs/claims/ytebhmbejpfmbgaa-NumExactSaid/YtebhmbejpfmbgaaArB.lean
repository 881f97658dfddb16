/-
  Layer 7's products: the contracts of num's and the document's Mul.
-/
import Derived.Test.YtebhmbejpfmbgaaArA
import Derived.Deep.RegionWith
namespace Go.Proofs.Ytebhmbejpfmbgaa
open Go Go.RowKit

set_option maxRecDepth 100000 in
set_option maxHeartbeats 4000000 in
theorem nsize (a : Int) (ha : fitsI a) (w : World) :
    Calls Try.prog 27 #[.int .i64 a] w fun e w' => e = .returned (.int .u64 ((a.natAbs : Nat) : Int)) ∧ w' = w := by
  unfold fitsI at ha
  by_cases h : a < 0
  · have h1 : IntKind.u64.wrap a = a + 18446744073709551616 := by rw [IntKind.wrap_u64]; omega
    have h2 : IntKind.u64.wrap (-(a + 18446744073709551616)) = -a := by rw [IntKind.wrap_u64]; omega
    have h3 : ((a.natAbs : Nat) : Int) = -a := by omega
    rw [h3]; clear h3
    go_enter Try.func27, Try.ntmps27
    go_wp2
    go_ret
    exact ⟨rfl, rfl⟩
  · have h1 : IntKind.u64.wrap a = a := by rw [IntKind.wrap_u64]; omega
    have h3 : ((a.natAbs : Nat) : Int) = a := by omega
    rw [h3]; clear h3
    go_enter Try.func27, Try.ntmps27
    go_wp2
    go_ret
    exact ⟨rfl, rfl⟩

set_option maxRecDepth 100000 in
set_option maxHeartbeats 4000000 in
theorem nsigned (x : Int) (h0 : 0 ≤ x) (hx : x < 18446744073709551616) (c : Bool) (w : World) :
    Calls Try.prog 28 #[.int .u64 x, .bool c] w fun e w' => e = .returned (tellV (if c then -x else x)) ∧ w' = w := by
  cases c with
  | true =>
    rw [if_pos rfl]
    by_cases h : x ≤ 9223372036854775808
    · have h3 : IntKind.i64.wrap (IntKind.u64.wrap (-x)) = -x := by rw [IntKind.wrap_u64, IntKind.wrap_i64]; omega
      rw [tell_ok (show fitsI (-x) by unfold fitsI; omega)]
      go_enter Try.func28, Try.ntmps28
      go_wp2
      go_ret2
      exact ⟨rfl, rfl⟩
    · rw [tell_over (show ¬ fitsI (-x) by unfold fitsI; omega)]
      go_enter Try.func28, Try.ntmps28
      go_wp2
      go_ret2
      exact ⟨rfl, rfl⟩
  | false =>
    rw [if_neg (by decide)]
    by_cases h : x ≤ 9223372036854775807
    · have h3 : IntKind.i64.wrap x = x := by rw [IntKind.wrap_i64]; omega
      rw [tell_ok (show fitsI x by unfold fitsI; omega)]
      go_enter Try.func28, Try.ntmps28
      go_wp2
      go_ret2
      exact ⟨rfl, rfl⟩
    · rw [tell_over (show ¬ fitsI x by unfold fitsI; omega)]
      go_enter Try.func28, Try.ntmps28
      go_wp2
      go_ret2
      exact ⟨rfl, rfl⟩

theorem tell_form (x : Int) : ∃ v e : Int, tellV x = .tuple #[.int .i64 v, .int .i64 e] := by
  unfold tellV
  split <;> exact ⟨_, _, rfl⟩
theorem sides (a b : Int) : a * b = if (decide (a < 0) != decide (b < 0)) = true then -(((a.natAbs * b.natAbs : Nat)) : Int) else ((a.natAbs * b.natAbs : Nat) : Int) := by
  rw [Int.natCast_mul]
  by_cases ha : a < 0 <;> by_cases hb : b < 0
  · have h1 : (a.natAbs : Int) = -a := by omega
    have h2 : (b.natAbs : Int) = -b := by omega
    rw [h1, h2]; simp [ha, hb, Int.neg_mul, Int.mul_neg]
  · have h1 : (a.natAbs : Int) = -a := by omega
    have h2 : (b.natAbs : Int) = b := by omega
    rw [h1, h2]; simp [ha, hb, Int.neg_mul]
  · have h1 : (a.natAbs : Int) = a := by omega
    have h2 : (b.natAbs : Int) = -b := by omega
    rw [h1, h2]; simp [ha, hb, Int.mul_neg]
  · have h1 : (a.natAbs : Int) = a := by omega
    have h2 : (b.natAbs : Int) = b := by omega
    rw [h1, h2]; simp [ha, hb]
/-- The two halves of the product of two sizes. -/
theorem halves (a b : Int) (w : World) (ha : fitsI a) (hb : fitsI b) :
    ∃ hi lo : Int, hi = ((a.natAbs * b.natAbs / 18446744073709551616 : Nat) : Int) ∧ lo = ((a.natAbs * b.natAbs % 18446744073709551616 : Nat) : Int) ∧
      Calls Try.prog 25 #[.int .u64 ((a.natAbs : Nat) : Int), .int .u64 ((b.natAbs : Nat) : Int)] w fun e w' => e = .returned (.tuple #[.int .u64 hi, .int .u64 lo]) ∧ w' = w := by
  unfold fitsI at ha hb
  exact ⟨_, _, rfl, rfl, Try.bits_Mul64 a.natAbs b.natAbs (by omega) (by omega) w⟩

set_option maxRecDepth 100000 in
set_option maxHeartbeats 4000000 in
theorem nmul (a b : Int) (ha : fitsI a) (hb : fitsI b) (w : World) :
    Calls Try.prog 15 #[.int .i64 a, .int .i64 b] w fun e w' => e = .returned (tellV (a * b)) ∧ w' = w := by
  obtain ⟨hi, lo, h1, h2, hC⟩ := halves a b w ha hb
  have hs := sides a b
  have HA := fun w => nsize a ha w
  have HB := fun w => nsize b hb w
  obtain ⟨p, hp⟩ : ∃ p, a.natAbs * b.natAbs = p := ⟨_, rfl⟩
  obtain ⟨x, hx⟩ : ∃ x, ((a.natAbs : Nat) : Int) = x := ⟨_, rfl⟩
  obtain ⟨y, hy⟩ : ∃ y, ((b.natAbs : Nat) : Int) = y := ⟨_, rfl⟩
  rw [hx] at HA hC; rw [hy] at HB hC
  rw [hp] at h1 h2 hs
  by_cases hz : hi = 0
  · have hlo : lo = p := by omega
    have HS := fun w => nsigned lo (by omega) (by omega) (decide (a < 0) != decide (b < 0)) w
    rw [hlo, ← hs] at HS
    rw [← hlo] at HS
    obtain ⟨T, E, hT⟩ := tell_form (a * b)
    rw [hT] at HS ⊢
    rw [show (decide (a < 0) != decide (b < 0)) = (!(decide (a < 0) == decide (b < 0))) from rfl] at HS
    clear h1 h2 hs hp hx hy hlo
    go_enter Try.func15, Try.ntmps15
    go_wp2_with (first | (go_at_call_of 27 (Value.int .i64 a); (with_reducible refine (HA _).mono ?_); rintro e w' ⟨rfl, rfl⟩) | (go_at_call_of 27 (Value.int .i64 b); (with_reducible refine (HB _).mono ?_); rintro e w' ⟨rfl, rfl⟩) | (go_at_call 25; (with_reducible refine hC.mono ?_); rintro e w' ⟨rfl, rfl⟩) | (go_at_call 28; (with_reducible refine (HS _).mono ?_); rintro e w' ⟨rfl, rfl⟩) | fail)
    all_goals (go_ret2; exact ⟨rfl, rfl⟩)
  · have hover : ¬ fitsI (a * b) := by
      rw [hs]
      split <;> (unfold fitsI; omega)
    rw [tell_over hover]
    clear h1 h2 hs hp hx hy hover
    go_enter Try.func15, Try.ntmps15
    go_wp2_with (first | (go_at_call_of 27 (Value.int .i64 a); (with_reducible refine (HA _).mono ?_); rintro e w' ⟨rfl, rfl⟩) | (go_at_call_of 27 (Value.int .i64 b); (with_reducible refine (HB _).mono ?_); rintro e w' ⟨rfl, rfl⟩) | (go_at_call 25; (with_reducible refine hC.mono ?_); rintro e w' ⟨rfl, rfl⟩) | (go_at_call 28; (with_reducible refine (HS _).mono ?_); rintro e w' ⟨rfl, rfl⟩) | fail)
    all_goals (go_ret2; exact ⟨rfl, rfl⟩)

set_option maxRecDepth 100000 in
set_option maxHeartbeats 4000000 in
theorem rmul (a b : Int) (ha : fitsI a) (hb : fitsI b) (w : World) :
    Calls Try.prog 16 #[.int .i64 a, .int .i64 b] w fun e w' => e = .returned (tellV (a * b)) ∧ w' = w := by
  have HA := fun w => rneg a ha w
  have HB := fun w => rneg b hb w
  by_cases h1 : a = 0
  · have e : a * b = 0 := by rw [h1, Int.zero_mul]
    rw [e, tell_ok (show fitsI 0 by decide)]
    clear e HA HB
    go_enter Try.func16, Try.ntmps16
    go_wp2
    go_ret2
    exact ⟨rfl, rfl⟩
  by_cases h2 : b = 0
  · have e : a * b = 0 := by rw [h2, Int.mul_zero]
    rw [e, tell_ok (show fitsI 0 by decide)]
    clear e HA HB
    go_enter Try.func16, Try.ntmps16
    go_wp2
    go_ret2
    exact ⟨rfl, rfl⟩
  by_cases h3 : a = -1
  · have e : a * b = -b := by rw [h3]; omega
    rw [e]
    obtain ⟨T, E, hT⟩ := tell_form (-b)
    rw [hT] at HB ⊢
    clear e HA hT
    go_enter Try.func16, Try.ntmps16
    go_wp2_with (first | (go_at_call 9; (with_reducible refine (HB _).mono ?_); rintro e w' ⟨rfl, rfl⟩) | fail)
    all_goals (go_ret2; exact ⟨rfl, rfl⟩)
  by_cases h4 : b = -1
  · have e : a * b = -a := by rw [h4]; omega
    rw [e]
    obtain ⟨T, E, hT⟩ := tell_form (-a)
    rw [hT] at HA ⊢
    clear e HB hT
    go_enter Try.func16, Try.ntmps16
    go_wp2_with (first | (go_at_call 9; (with_reducible refine (HA _).mono ?_); rintro e w' ⟨rfl, rfl⟩) | fail)
    all_goals (go_ret2; exact ⟨rfl, rfl⟩)
  clear HA HB
  obtain ⟨c, hc⟩ : ∃ c, IntKind.i64.wrap (a * b) = c := ⟨_, rfl⟩
  have hcf : fitsI c := by rw [← hc, IntKind.wrap_i64]; unfold fitsI; omega
  have hq : IntKind.i64.wrap (c.tdiv b) = c.tdiv b := fits_wrap (tdiv_fits hcf h2 (fun h => h4 h.2))
  have ta : IntKind.i64.wrap a = a := fits_wrap ha
  have t1 : (a == 0) = false := by simp [h1]
  have t2 : (b == 0) = false := by simp [h2]
  have t3 : (a == -1) = false := by simp [h3]
  have t4 : (b == -1) = false := by simp [h4]
  by_cases hf : fitsI (a * b)
  · rw [tell_ok hf]
    have he := fits_wrap hf
    rw [hc] at he
    have hd : c.tdiv b = a := by rw [he]; exact Int.mul_tdiv_cancel a h2
    rw [← he]
    have t5 : (c.tdiv b != a) = false := by simp [hd]
    clear hcf hf he ha hb hd h1 h3 h4
    go_enter Try.func16, Try.ntmps16
    go_wp2
    all_goals (go_ret2; exact ⟨rfl, rfl⟩)
  · rw [tell_over hf]
    have hd : ¬ c.tdiv b = a := fun h => hf (mul_back h2 hb (by rw [← IntKind.wrap_i64]; exact hc) h)
    have t5 : (c.tdiv b != a) = true := by simp [hd]
    clear hcf hf ha hb hd h1 h3 h4
    go_enter Try.func16, Try.ntmps16
    go_wp2
    all_goals (go_ret2; exact ⟨rfl, rfl⟩)
end Go.Proofs.Ytebhmbejpfmbgaa
