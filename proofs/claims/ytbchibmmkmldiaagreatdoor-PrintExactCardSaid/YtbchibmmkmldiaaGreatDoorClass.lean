/-
  The contracts of text.Class and of the document's Class: proved is that each answers 'cls r' for every number r, and leaves the world as it was.
-/
import Derived.Test.YtbchibmmkmldiaaGreatDoorProg
import Derived.WalkKit
import Derived.Outline
import Derived.Lib.Hide
import Derived.Deep.QuietTactic
import Derived.BigQuiet
namespace Go.Proofs.YtbchibmmkmldiaaGreatDoor
open Go Go.RowKit

theorem ret_bool {a b : Bool} (h : a = b) : Ending.returned (.bool a) = .returned (.bool b) := by rw [h]
theorem ret_int {k : IntKind} {a b : Int} (h : a = b) : Ending.returned (.int k a) = .returned (.int k b) := by rw [h]

/-- A letter, by its number. -/
def letB (r : Int) : Bool :=
  decide (r ≠ 215 ∧ r ≠ 247 ∧ r ≠ 930 ∧ (r = 95 ∨ (97 ≤ r ∧ r ≤ 122) ∨ (65 ≤ r ∧ r ≤ 90) ∨ (192 ≤ r ∧ r ≤ 591) ∨ (913 ≤ r ∧ r ≤ 969) ∨ (1040 ≤ r ∧ r ≤ 1103)))
theorem let_t {r : Int} (h : r ≠ 215 ∧ r ≠ 247 ∧ r ≠ 930 ∧ (r = 95 ∨ (97 ≤ r ∧ r ≤ 122) ∨ (65 ≤ r ∧ r ≤ 90) ∨ (192 ≤ r ∧ r ≤ 591) ∨ (913 ≤ r ∧ r ≤ 969) ∨ (1040 ≤ r ∧ r ≤ 1103))) : true = letB r := (decide_eq_true h).symm
theorem let_f {r : Int} (h : ¬ (r ≠ 215 ∧ r ≠ 247 ∧ r ≠ 930 ∧ (r = 95 ∨ (97 ≤ r ∧ r ≤ 122) ∨ (65 ≤ r ∧ r ≤ 90) ∨ (192 ≤ r ∧ r ≤ 591) ∨ (913 ≤ r ∧ r ≤ 969) ∨ (1040 ≤ r ∧ r ≤ 1103)))) : false = letB r := (decide_eq_false h).symm

set_option maxHeartbeats 1000000 in
theorem letter_any (r : Int) (w : World) : Calls Tryz.prog 103 #[.int .i32 r] w fun e w' => e = .returned (.bool (letB r)) ∧ w = w' := by
  go_enter Tryz.func103, Tryz.ntmps103
  go_wp2
  all_goals
    go_ret
    refine ⟨ret_bool ?_, rfl⟩
    simp only [beq_eq_false_iff_ne, ne_eq, beq_iff_eq] at *
    first | exact let_t (by omega) | exact let_f (by omega)

/-- A sign, by its number. -/
def isSign (r : Int) : Prop := r = 59 ∨ r = 44 ∨ r = 123 ∨ r = 125 ∨ r = 40 ∨ r = 41 ∨ r = 91 ∨ r = 93 ∨ r = 61 ∨ r = 33 ∨ r = 60 ∨ r = 62 ∨ r = 43 ∨ r = 45 ∨ r = 42 ∨ r = 47 ∨ r = 37 ∨ r = 38 ∨ r = 124
instance (r : Int) : Decidable (isSign r) := by unfold isSign; infer_instance

/-- The class of a number. -/
def cls (r : Int) : Int :=
  if r = 32 ∨ r = 9 ∨ r = 13 then 1 else if r = 10 then 2 else if 48 ≤ r ∧ r ≤ 57 then 4 else if letB r = true then 3 else if isSign r then 5 else 6

theorem cls1 {r : Int} (h : r = 32 ∨ r = 9 ∨ r = 13) : 1 = cls r := by unfold cls; rw [if_pos h]
theorem cls2 {r : Int} (h : r = 10) : 2 = cls r := by subst h; rfl
theorem cls4 {r : Int} (h : 48 ≤ r ∧ r ≤ 57) : 4 = cls r := by unfold cls; rw [if_neg (by omega), if_neg (by omega), if_pos h]
theorem cls5 {r : Int} (h : isSign r) : 5 = cls r := by
  have hl : letB r = false := (let_f (by unfold isSign at h; omega)).symm
  unfold cls
  rw [if_neg (by unfold isSign at h; omega), if_neg (by unfold isSign at h; omega), if_neg (by unfold isSign at h; omega), if_neg (by rw [hl]; simp), if_pos h]
theorem cls3 {r : Int} (h : letB r = true) : 3 = cls r := by
  have h' := of_decide_eq_true h
  unfold cls
  rw [if_neg (by omega), if_neg (by omega), if_neg (by omega), if_pos h]
theorem cls6 {r : Int} (h0 : r ≠ 32 ∧ r ≠ 9 ∧ r ≠ 13 ∧ r ≠ 10 ∧ ¬ (48 ≤ r ∧ r ≤ 57)) (h : ¬ isSign r) (hl : letB r = false) : 6 = cls r := by
  unfold cls
  rw [if_neg (by omega), if_neg (by omega), if_neg (by omega), if_neg (by rw [hl]; simp), if_neg h]

set_option maxRecDepth 100000 in
set_option maxHeartbeats 4000000 in
theorem class_t (r : Int) (w : World) (hl : letB r = true) : Calls Tryz.prog 96 #[.int .i32 r] w fun e w' => e = .returned (.int .i64 (cls r)) ∧ w = w' := by
  have HL := Lib.hid hl; clear hl
  go_enter Tryz.func96, Tryz.ntmps96
  go_wp2_with (go_at_call 103; refine (letter_any _ _).mono ?_; rintro e w' ⟨rfl, rfl⟩; have hlq := HL.out)
  all_goals
    go_ret
    refine ⟨ret_int ?_, rfl⟩
    simp only [beq_eq_false_iff_ne, ne_eq, beq_iff_eq] at *
    first | exact cls3 HL.out | exact cls1 (by omega) | exact cls2 (by omega) | exact cls4 (by omega) | exact cls5 (by unfold isSign; omega)

set_option maxRecDepth 100000 in
set_option maxHeartbeats 4000000 in
theorem class_f (r : Int) (w : World) (hl : letB r = false) : Calls Tryz.prog 96 #[.int .i32 r] w fun e w' => e = .returned (.int .i64 (cls r)) ∧ w = w' := by
  have HL := Lib.hid hl; clear hl
  go_enter Tryz.func96, Tryz.ntmps96
  go_wp2_with (go_at_call 103; refine (letter_any _ _).mono ?_; rintro e w' ⟨rfl, rfl⟩; have hlq := HL.out)
  all_goals
    go_ret
    refine ⟨ret_int ?_, rfl⟩
    simp only [beq_eq_false_iff_ne, ne_eq, beq_iff_eq] at *
    first | exact cls1 (by omega) | exact cls2 (by omega) | exact cls4 (by omega) | exact cls5 (by unfold isSign; omega) | exact cls6 (by omega) (by unfold isSign; omega) HL.out

theorem class_any (r : Int) (w : World) : Calls Tryz.prog 96 #[.int .i32 r] w fun e w' => e = .returned (.int .i64 (cls r)) ∧ w = w' := by
  cases h : letB r with
  | true => exact class_t r w h
  | false => exact class_f r w h

/-! ### The document's Class -/
def btw (x lo hi : Int) : Bool := decide (lo ≤ x ∧ x ≤ hi)
theorem between_any (x lo hi : Int) (w : World) : Calls Tryz.prog 89 #[.int .i64 x, .int .i64 lo, .int .i64 hi] w fun e w' => e = .returned (.bool (btw x lo hi)) ∧ w = w' := by
  go_enter Tryz.func89, Tryz.ntmps89
  go_wp2
  all_goals
    go_ret
    refine ⟨ret_bool ?_, rfl⟩
    unfold btw
    first | (rw [decide_eq_decide]; omega) | exact (decide_eq_false (by omega)).symm

set_option maxHeartbeats 4000000 in
theorem refclass_hi (r : Int) (w : World) (h : (r = 32 ∨ r = 9 ∨ r = 13) ∨ r = 10 ∨ (48 ≤ r ∧ r ≤ 57) ∨ letB r = true) : Calls Tryz.prog 78 #[.int .i64 r] w fun e w' => e = .returned (.int .i64 (cls r)) ∧ w = w' := by
  have H := Lib.hid h; clear h
  go_enter Tryz.func78, Tryz.ntmps78
  go_wp2_with (go_at_call 89; refine (between_any _ _ _ _).mono ?_; rintro e w' ⟨rfl, rfl⟩)
  all_goals
    replace H := H.out
    simp only [letB, btw, beq_eq_false_iff_ne, ne_eq, beq_iff_eq, decide_eq_true_eq, decide_eq_false_iff_not] at *
    first
      | (exfalso; omega)
      | (go_ret
         refine ⟨ret_int ?_, rfl⟩
         first | exact cls1 (by omega) | exact cls2 (by omega) | exact cls4 (by omega) | exact cls3 (decide_eq_true (by omega)))

def signs : ByteArray := { data := #[59, 44, 123, 125, 40, 41, 91, 93, 61, 33, 60, 62, 43, 45, 42, 47, 37, 38, 124] }
def sgn (k : Nat) : Int := ([59, 44, 123, 125, 40, 41, 91, 93, 61, 33, 60, 62, 43, 45, 42, 47, 37, 38, 124].getD k 0 : Int)
theorem sgn_all : ∀ k : Fin 19, wrap64 ((signs[k.1]'k.2).toNat : Int) = sgn k.1 := by decide +kernel
theorem sgn_at (k : Nat) (h : k < signs.size) : wrap64 ((signs[k]'h).toNat : Int) = sgn k := sgn_all ⟨k, h⟩
theorem sgn_sign (k : Nat) (h : k < 19) : isSign (sgn k) := by
  have : ∀ k, k < 19 → isSign (sgn k) := by decide
  exact this k h
theorem sign_sgn {r : Int} (h : isSign r) : ∃ k, k < 19 ∧ r = sgn k := by
  unfold isSign at h
  rcases h with h | h | h | h | h | h | h | h | h | h | h | h | h | h | h | h | h | h | h
  · exact ⟨0, by omega, h⟩
  · exact ⟨1, by omega, h⟩
  · exact ⟨2, by omega, h⟩
  · exact ⟨3, by omega, h⟩
  · exact ⟨4, by omega, h⟩
  · exact ⟨5, by omega, h⟩
  · exact ⟨6, by omega, h⟩
  · exact ⟨7, by omega, h⟩
  · exact ⟨8, by omega, h⟩
  · exact ⟨9, by omega, h⟩
  · exact ⟨10, by omega, h⟩
  · exact ⟨11, by omega, h⟩
  · exact ⟨12, by omega, h⟩
  · exact ⟨13, by omega, h⟩
  · exact ⟨14, by omega, h⟩
  · exact ⟨15, by omega, h⟩
  · exact ⟨16, by omega, h⟩
  · exact ⟨17, by omega, h⟩
  · exact ⟨18, by omega, h⟩
theorem sgn_hit {r : Int} {k : Nat} (h : k < signs.size) (hb : (r == wrap64 ((signs[k]'h).toNat : Int)) = true) : 5 = cls r := by
  rw [sgn_at k h, beq_iff_eq] at hb
  exact cls5 (hb ▸ sgn_sign k h)
theorem sgn_miss {r q : Int} {k : Nat} (hq : r = q) (h : k < signs.size) (hn : ∀ j, j < k → r ≠ sgn j) (hb : (q == wrap64 ((signs[k]'h).toNat : Int)) = false) : ∀ j, j < k + 1 → r ≠ sgn j := by
  rw [sgn_at k h, beq_eq_false_iff_ne] at hb
  intro j hj
  by_cases e : j = k
  · subst e; rw [hq]; exact hb
  · exact hn j (by omega)
theorem sgn_none {r : Int} (hn : ∀ j, j < 19 → r ≠ sgn j) : ¬ isSign r := fun h => by
  obtain ⟨k, hk, e⟩ := sign_sgn h
  exact hn k hk e

set_option maxRecDepth 100000 in
set_option maxHeartbeats 4000000 in
theorem refclass_lo (r : Int) (w : World) (h : ¬ ((r = 32 ∨ r = 9 ∨ r = 13) ∨ r = 10 ∨ (48 ≤ r ∧ r ≤ 57) ∨ letB r = true)) : Calls Tryz.prog 78 #[.int .i64 r] w fun e w' => e = .returned (.int .i64 (cls r)) ∧ w = w' := by
  have H := Lib.hid h; clear h
  go_enter Tryz.func78, Tryz.ntmps78
  go_wp2_with (go_at_call 89; refine (between_any _ _ _ _).mono ?_; rintro e w' ⟨rfl, rfl⟩)
  all_goals try (
    exfalso
    replace H := H.out
    simp only [letB, btw, beq_eq_false_iff_ne, ne_eq, beq_iff_eq, decide_eq_true_eq, decide_eq_false_iff_not] at *
    omega)
  all_goals
    go_loop [4] (fun i => ∃ k : Nat, k ≤ 19 ∧ i = .int .i64 k ∧ ∀ j, j < k → r ≠ sgn j) (fun i => 19 - (intOf i).toNat)
    case atStart => exact ⟨0, by omega, rfl, fun j hj => by omega⟩
    case round =>
      obtain ⟨k, hk, rfl, hn⟩ := hrel
      have HN := Lib.hid hn; clear hn
      by_cases hlt : k < 19
      · go_wp2
        · go_ret
          exact ⟨ret_int (sgn_hit hlt ‹(_ == wrap64 _) = true›), rfl⟩
        · go_round
          case rel => exact ⟨k + 1, by omega, by go_num, by first | exact sgn_miss rfl hlt HN.out ‹(_ == wrap64 _) = false› | exact sgn_miss ‹r = 215› hlt HN.out ‹(_ == wrap64 _) = false› | exact sgn_miss ‹r = 247› hlt HN.out ‹(_ == wrap64 _) = false› | exact sgn_miss ‹r = 930› hlt HN.out ‹(_ == wrap64 _) = false›⟩
          case measure => simp [intOf]; omega
      · go_wp2
        go_ret
        refine ⟨ret_int ?_, rfl⟩
        first
          | rfl
          | (have hs := sgn_none (r := r) (fun j hj => HN.out j (by omega))
             replace H := H.out
             refine cls6 (by omega) hs ?_
             cases e : letB r
             · rfl
             · exact absurd e (fun e => H (by simp [e])))

theorem refclass_any (r : Int) (w : World) : Calls Tryz.prog 78 #[.int .i64 r] w fun e w' => e = .returned (.int .i64 (cls r)) ∧ w = w' := by
  by_cases h : (r = 32 ∨ r = 9 ∨ r = 13) ∨ r = 10 ∨ (48 ≤ r ∧ r ≤ 57) ∨ letB r = true
  · exact refclass_hi r w h
  · exact refclass_lo r w h
end Go.Proofs.YtbchibmmkmldiaaGreatDoor
