/-
  Package dbm: numbers in two words: widened, minus, above.
-/
import Derived.Test.YthnefcafhpioaaaDbF
import Derived.Shelf.Spec.BitsCarry
namespace Go.Proofs.Ythnefcafhpioaaa
open Go Go.RowKit Go.Shelf

def hiW (x : Int) : Int := x / 18446744073709551616 % 18446744073709551616
def loW (x : Int) : Int := x % 18446744073709551616
abbrev wV (x : Int) : Value := .agg #[.int .u64 (hiW x), .int .u64 (loW x)]
def lays26_ren : Go.Shelf.Ren := ⟨fun | 26 => 71 | n => n, fun | 22 => 90 | n => n, fun | n => n⟩
theorem lays26 : Go.Proofs.Lays7.n26 Try.prog lays26_ren := {
  mixed := by kernel_rfl
  f26 := Try.func71.trans (congrArg some (by kernel_rfl))
  t22 := Try.underlying90
  a22 := Try.isAgg90
  z22 := Try.sizeOf90
  v22 := Try.zeroValue90
  i22 := by kernel_rfl }
def boW (x y : Int) : Int := if loW x < loW y then 1 else 0
theorem sub_lo (x y : Int) (w : World) : (callFunc 71 #[.int .u64 (loW x), .int .u64 (loW y), .int .u64 0]).run Try.prog w = .ok (.value (.tuple #[.int .u64 (loW (x - y)), .int .u64 (boW x y)])) w := by
  have h := Any7.bits_Sub64 lays26 (loW x).toNat (loW y).toNat 0 (by omega) w
  have e1 : (((loW x).toNat : Nat) : Int) = loW x := by unfold loW; omega
  have e2 : (((loW y).toNat : Nat) : Int) = loW y := by unfold loW; omega
  have e3 : ((((loW x).toNat + 18446744073709551616 - (loW y).toNat - 0) % 18446744073709551616 : Nat) : Int) = loW (x - y) := by unfold loW; omega
  have e4 : ((if (loW x).toNat < (loW y).toNat + 0 then 1 else 0 : Nat) : Int) = boW x y := by
    unfold boW
    by_cases h : loW x < loW y
    · rw [if_pos h, if_pos (by omega)]; rfl
    · rw [if_neg h, if_neg (by omega)]; rfl
  rw [e1, e2, e3, e4] at h
  exact h
theorem sub_hi (x y : Int) (w : World) : ∃ b, (callFunc 71 #[.int .u64 (hiW x), .int .u64 (hiW y), .int .u64 (boW x y)]).run Try.prog w = .ok (.value (.tuple #[.int .u64 (hiW (x - y)), .int .u64 b])) w := by
  have hbo : (boW x y).toNat ≤ 1 := by unfold boW; split <;> decide
  have h := Any7.bits_Sub64 lays26 (hiW x).toNat (hiW y).toNat (boW x y).toNat hbo w
  have e1 : (((hiW x).toNat : Nat) : Int) = hiW x := by unfold hiW; omega
  have e2 : (((hiW y).toNat : Nat) : Int) = hiW y := by unfold hiW; omega
  have e0 : (((boW x y).toNat : Nat) : Int) = boW x y := by unfold boW; split <;> rfl
  have e3 : ((((hiW x).toNat + 18446744073709551616 - (hiW y).toNat - (boW x y).toNat) % 18446744073709551616 : Nat) : Int) = hiW (x - y) := by
    unfold boW hiW loW
    split <;> omega
  rw [e1, e2, e0, e3] at h
  exact ⟨_, h⟩
theorem wrap_u64 (x : Int) : IntKind.u64.wrap x = x % 18446744073709551616 := by simp [IntKind.wrap, IntKind.bits, IntKind.signed]
set_option maxRecDepth 100000 in
set_option maxHeartbeats 4000000 in
theorem widened_any (a : Int) (ha : isI a) (w : World) : Calls Try.prog 64 #[.int .i64 a] w fun e w' => e = .returned (wV a) ∧ Below w.heap.size w w' := by
  have w1 : IntKind.u64.wrap (a / 9223372036854775808) = hiW a := by rw [wrap_u64]; unfold hiW; unfold isI at ha; omega
  have w2 : IntKind.u64.wrap a = loW a := by rw [wrap_u64]; rfl
  obtain ⟨h, hh⟩ : ∃ h, hiW a = h := ⟨_, rfl⟩
  obtain ⟨l, hl⟩ : ∃ l, loW a = l := ⟨_, rfl⟩
  show Calls _ _ _ w fun e w' => e = .returned (.agg #[.int .u64 (hiW a), .int .u64 (loW a)]) ∧ _
  rw [hh] at w1 ⊢
  rw [hl] at w2 ⊢
  clear hh hl
  go_enter Try.func64, Try.ntmps64
  go_wp2
  exact bodyPost_ret (v := .agg #[.int .u64 h, .int .u64 l]) (by simp [results, Try.results64, go_sem]) rfl ⟨rfl, (Below.refl _ _).alloc (Nat.le_refl _) _⟩
set_option maxRecDepth 100000 in
set_option maxHeartbeats 4000000 in
theorem minus_any (x y : Int) (w : World) : Calls Try.prog 65 #[wV x, wV y] w fun e w' => e = .returned (wV (x - y)) ∧ Below w.heap.size w w' := by
  have s1 := fun w => sub_lo x y w
  have s2 := fun w => sub_hi x y w
  obtain ⟨h1, e1⟩ : ∃ h, hiW x = h := ⟨_, rfl⟩
  obtain ⟨h2, e2⟩ : ∃ h, hiW y = h := ⟨_, rfl⟩
  obtain ⟨l1, e3⟩ : ∃ h, loW x = h := ⟨_, rfl⟩
  obtain ⟨l2, e4⟩ : ∃ h, loW y = h := ⟨_, rfl⟩
  obtain ⟨h3, e5⟩ : ∃ h, hiW (x - y) = h := ⟨_, rfl⟩
  obtain ⟨l3, e6⟩ : ∃ h, loW (x - y) = h := ⟨_, rfl⟩
  obtain ⟨bo, e7⟩ : ∃ h, boW x y = h := ⟨_, rfl⟩
  show Calls _ _ #[.agg #[.int .u64 (hiW x), .int .u64 (loW x)], .agg #[.int .u64 (hiW y), .int .u64 (loW y)]] w fun e w' => e = .returned (.agg #[.int .u64 (hiW (x - y)), .int .u64 (loW (x - y))]) ∧ _
  rw [e1, e2, e5, e7] at s2
  rw [e3, e4, e6, e7] at s1
  rw [e1, e2, e3, e4, e5, e6]
  clear e1 e2 e3 e4 e5 e6 e7
  go_enter Try.func65, Try.ntmps65
  go_upto_region 2 with fail
  obtain ⟨b, s3⟩ := s2 (((w.alloc (.cells #[.int .u64 h1, .int .u64 l1] 92)).alloc (.cells #[.int .u64 h2, .int .u64 l2] 92)).alloc (.cells #[.int .u64 0, .int .u64 0] 92))
  go_wp2_with fail
  exact bodyPost_ret (v := .agg #[.int .u64 h3, .int .u64 l3]) (by simp [results, Try.results65, go_sem]) rfl ⟨rfl, (((Below.refl _ _).alloc (Nat.le_refl _) _).alloc (by simp) _).alloc (by simp; omega) _⟩
set_option maxRecDepth 100000 in
set_option maxHeartbeats 4000000 in
theorem above_any (x : Int) (h1 : -73786976294838206464 ≤ x) (h2 : x ≤ 73786976294838206464) (w : World) : Calls Try.prog 67 #[wV x] w fun e w' => e = .returned (.int .i64 (nearV x)) ∧ Below w.heap.size w w' := by
  have c1 : IntKind.i64.wrap (hiW x) = x / 18446744073709551616 := by rw [IntKind.wrap_i64]; unfold hiW; omega
  have c2 : -9223372036854775808 ≤ x → x ≤ 9223372036854775807 → IntKind.i64.wrap (loW x) = x := fun _ _ => by rw [IntKind.wrap_i64]; unfold loW; omega
  have hlo : 0 ≤ loW x ∧ loW x < 18446744073709551616 ∧ x = 18446744073709551616 * (x / 18446744073709551616) + loW x := by unfold loW; omega
  obtain ⟨h, hh⟩ : ∃ h, hiW x = h := ⟨_, rfl⟩
  obtain ⟨l, hl⟩ : ∃ l, loW x = l := ⟨_, rfl⟩
  obtain ⟨q, hq⟩ : ∃ q, x / 18446744073709551616 = q := ⟨_, rfl⟩
  show Calls _ _ #[.agg #[.int .u64 (hiW x), .int .u64 (loW x)]] w _
  rw [hh] at c1 ⊢
  rw [hl] at c2 hlo ⊢
  rw [hq] at c1 hlo
  clear hh hl hq
  obtain ⟨l0, l1, lx⟩ := hlo
  obtain ⟨v, hv⟩ : ∃ v, nearV x = v := ⟨_, rfl⟩
  rw [hv]
  unfold nearV at hv
  by_cases q1 : 0 < q
  · have e : v = 9223372036854775807 := by rw [← hv, if_pos (by omega)]
    subst e
    clear hv c2 l0 l1 lx h1 h2
    have k1 : (q == 0) = false := by simp; omega
    go_enter Try.func67, Try.ntmps67
    go_wp2
    all_goals (go_ret; refine ⟨?_, (Below.refl _ _).alloc (Nat.le_refl _) _⟩; first | rfl | exact congrArg (fun x => Ending.returned (Value.int .i64 x)) (by first | assumption | (symm; assumption) | omega))
  · by_cases q2 : q = 0
    · subst q2
      by_cases l2 : 4611686018427387904 < l
      · have e : v = 9223372036854775807 := by rw [← hv, if_pos (by omega)]
        subst e
        clear hv c2 l0 l1 lx h1 h2
        go_enter Try.func67, Try.ntmps67
        go_wp2
        all_goals (go_ret; refine ⟨?_, (Below.refl _ _).alloc (Nat.le_refl _) _⟩; first | rfl | exact congrArg (fun x => Ending.returned (Value.int .i64 x)) (by first | assumption | (symm; assumption) | omega))
      · have e : v = x := by rw [← hv, if_neg (by omega), if_neg (by omega)]
        have c3 := c2 (by omega) (by omega)
        subst e
        have l3 : l ≤ 4611686018427387904 := by omega
        clear hv c2 l0 l1 lx h1 h2 l2
        go_enter Try.func67, Try.ntmps67
        go_wp2
        all_goals (go_ret; refine ⟨?_, (Below.refl _ _).alloc (Nat.le_refl _) _⟩; first | rfl | exact congrArg (fun x => Ending.returned (Value.int .i64 x)) (by first | assumption | (symm; assumption) | omega))
    · have k1 : (q == 0) = false := by simp; omega
      have k2 : q ≤ 0 := by omega
      by_cases q3 : q = -1
      · subst q3
        by_cases l2 : l < 13835058055282163712
        · have e : v = -4611686018427387904 := by rw [← hv, if_neg (by omega), if_pos (by omega)]
          subst e
          clear hv c2 l0 l1 lx h1 h2
          go_enter Try.func67, Try.ntmps67
          go_wp2
          all_goals (go_ret; refine ⟨?_, (Below.refl _ _).alloc (Nat.le_refl _) _⟩; first | rfl | exact congrArg (fun x => Ending.returned (Value.int .i64 x)) (by first | assumption | (symm; assumption) | omega))
        · have e : v = x := by rw [← hv, if_neg (by omega), if_neg (by omega)]
          have c3 := c2 (by omega) (by omega)
          subst e
          have l3 : 13835058055282163712 ≤ l := by omega
          clear hv c2 l0 l1 lx h1 h2 l2
          go_enter Try.func67, Try.ntmps67
          go_wp2
          all_goals (go_ret; refine ⟨?_, (Below.refl _ _).alloc (Nat.le_refl _) _⟩; first | rfl | exact congrArg (fun x => Ending.returned (Value.int .i64 x)) (by first | assumption | (symm; assumption) | omega))
      · have e : v = -4611686018427387904 := by rw [← hv, if_neg (by omega), if_pos (by omega)]
        have k3 : q < -1 := by omega
        have k4 : (q == -1) = false := by simp; omega
        subst e
        clear hv c2 l0 l1 lx h1 h2
        go_enter Try.func67, Try.ntmps67
        go_wp2
        all_goals (go_ret; refine ⟨?_, (Below.refl _ _).alloc (Nat.le_refl _) _⟩; first | rfl | exact congrArg (fun x => Ending.returned (Value.int .i64 x)) (by first | assumption | (symm; assumption) | omega))
end Go.Proofs.Ythnefcafhpioaaa
