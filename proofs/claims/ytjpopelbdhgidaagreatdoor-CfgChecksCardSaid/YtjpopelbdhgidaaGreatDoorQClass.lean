/-
  The contracts of text.Class and of the document's Class: proved is that each answers 'cls r' for every number r, and leaves the world as it was.
-/
import Derived.Lib.DecodeN
import Derived.Shelf.Unicode.DecodeSlow
import Derived.Test.YtjpopelbdhgidaaGreatDoorProg
import Derived.WalkKit
import Derived.Outline
import Derived.Lib.Hide
import Derived.Deep.QuietTactic
import Derived.BigQuiet
/-
  Plain facts on UTF-8 as the model decodes it (no walk): proved is how wide a rune is, that a text from a byte on is decoded as the whole text at that byte, the list of a text's runes with their places, and what Check and At answer as functions of that list.
-/
namespace Go.Proofs.YtjpopelbdhgidaaGreatDoor
open Go

/-- The rune at byte i, and how many bytes it has. -/
def rn (s : ByteArray) (i : Nat) : Nat := (Utf8.decode s i).1
def wd (s : ByteArray) (i : Nat) : Nat := (Utf8.decode s i).2
set_option maxRecDepth 100000 in
theorem decN_facts (n b0 b1 b2 b3 : Nat) (hn : 1 ≤ n) (h0 : b0 < 256) (h1 : b1 < 256) (_h2 : b2 < 256) (_h3 : b3 < 256) :
    1 ≤ (Lib.decodeN n b0 b1 b2 b3).2 ∧ (Lib.decodeN n b0 b1 b2 b3).2 ≤ n ∧ (Lib.decodeN n b0 b1 b2 b3).2 ≤ 4 ∧ (Lib.decodeN n b0 b1 b2 b3).1 ≤ 1114111 := by
  unfold Lib.decodeN
  repeat' split
  all_goals (simp only; omega)

theorem dec_facts (s : ByteArray) (i : Nat) (h : i < s.size) : 1 ≤ wd s i ∧ i + wd s i ≤ s.size ∧ wd s i ≤ 4 ∧ rn s i ≤ 1114111 := by
  have := decN_facts (s.size - i) (s.get! i).toNat (s.get! (i + 1)).toNat (s.get! (i + 2)).toNat (s.get! (i + 3)).toNat (by omega) (UInt8.toNat_lt _) (UInt8.toNat_lt _) (UInt8.toNat_lt _) (UInt8.toNat_lt _)
  rw [← Lib.decode_at] at this
  unfold wd rn
  omega

/-- A rune where it stands: the number of its first byte, its place, the rune. -/
structure Spot where
  pos : Nat
  line : Int
  col : Int
  r : Nat

/-- The place behind a rune. -/
def nxt (x : Spot) : Int × Int := if x.r = 10 then (x.line + 1, 1) else (x.line, x.col + 1)

/-- The runes from byte pos on, which stands at a place. -/
def spl (s : ByteArray) : Nat → Nat → Int × Int → List Spot
  | 0, _, _ => []
  | f + 1, pos, p => if pos < s.size then ⟨pos, p.1, p.2, rn s pos⟩ :: spl s f (pos + wd s pos) (nxt ⟨pos, p.1, p.2, rn s pos⟩) else []
theorem spl_end (s : ByteArray) (b pos : Nat) (p : Int × Int) (h : ¬ pos < s.size) : spl s b pos p = [] := by
  cases b with
  | zero => rfl
  | succ b => simp [spl, h]
/-- All runes of a text. -/
def spots (s : ByteArray) : List Spot := spl s s.size 0 (1, 1)

/-- The place of byte n, p being the place where the list begins. -/
def atL (n : Int) (p : Int × Int) : List Spot → Int × Int
  | [] => p
  | x :: t => if (x.pos : Int) < n then atL n (nxt x) t else p
/-- What At answers. -/
def atV (s : ByteArray) (n : Int) : Int × Int := atL n (1, 1) (spots s)

/-- What is left of At's way from byte pos on, which stands at (l, c). -/
def AtRel (s : ByteArray) (n : Int) (pos b : Nat) (p : Int × Int) : Prop := atL n p (spl s b pos p) = atV s n ∧ s.size ≤ pos + b
theorem AtRel.done {s : ByteArray} {n : Int} {pos b : Nat} {p : Int × Int} (h : AtRel s n pos b p) (hp : ¬ (pos < s.size ∧ (pos : Int) < n)) : atV s n = p := by
  obtain ⟨h1, h2⟩ := h
  rw [← h1]
  by_cases hs : pos < s.size
  · cases b with
    | zero => omega
    | succ b =>
      have hn : ¬ (pos : Int) < n := fun hn => hp ⟨hs, hn⟩
      simp [spl, hs, atL, hn]
  · rw [spl_end s b pos p hs]; rfl

end Go.Proofs.YtjpopelbdhgidaaGreatDoor

/-
  The contracts of text.Class and of the document's Class: proved is that each answers 'cls r' for every number r, and leaves the world as it was.
-/
namespace Go.Proofs.YtjpopelbdhgidaaGreatDoor
open Go Go.RowKit

theorem ret_bool {a b : Bool} (h : a = b) : Ending.returned (.bool a) = .returned (.bool b) := by rw [h]
theorem ret_int {k : IntKind} {a b : Int} (h : a = b) : Ending.returned (.int k a) = .returned (.int k b) := by rw [h]

/-- A letter, by its number. -/
def letB (r : Int) : Bool :=
  decide (r ≠ 215 ∧ r ≠ 247 ∧ r ≠ 930 ∧ (r = 95 ∨ (97 ≤ r ∧ r ≤ 122) ∨ (65 ≤ r ∧ r ≤ 90) ∨ (192 ≤ r ∧ r ≤ 591) ∨ (913 ≤ r ∧ r ≤ 969) ∨ (1040 ≤ r ∧ r ≤ 1103)))
theorem let_t {r : Int} (h : r ≠ 215 ∧ r ≠ 247 ∧ r ≠ 930 ∧ (r = 95 ∨ (97 ≤ r ∧ r ≤ 122) ∨ (65 ≤ r ∧ r ≤ 90) ∨ (192 ≤ r ∧ r ≤ 591) ∨ (913 ≤ r ∧ r ≤ 969) ∨ (1040 ≤ r ∧ r ≤ 1103))) : true = letB r := (decide_eq_true h).symm
theorem let_f {r : Int} (h : ¬ (r ≠ 215 ∧ r ≠ 247 ∧ r ≠ 930 ∧ (r = 95 ∨ (97 ≤ r ∧ r ≤ 122) ∨ (65 ≤ r ∧ r ≤ 90) ∨ (192 ≤ r ∧ r ≤ 591) ∨ (913 ≤ r ∧ r ≤ 969) ∨ (1040 ≤ r ∧ r ≤ 1103)))) : false = letB r := (decide_eq_false h).symm

set_option maxHeartbeats 1000000 in
theorem letter_any (r : Int) (w : World) : Calls Tryz.prog 229 #[.int .i32 r] w fun e w' => e = .returned (.bool (letB r)) ∧ w = w' := by
  go_enter Tryz.func229, Tryz.ntmps229
  go_wp2
  all_goals
    go_ret
    refine ⟨ret_bool ?_, rfl⟩
    simp only [beq_eq_false_iff_ne, ne_eq, beq_iff_eq] at *
    first | exact let_t (by omega) | exact let_f (by omega)

/-- A sign, by its number. -/
def isSign (r : Int) : Prop := r = 59 ∨ r = 44 ∨ r = 123 ∨ r = 125 ∨ r = 40 ∨ r = 41 ∨ r = 91 ∨ r = 93 ∨ r = 61 ∨ r = 33 ∨ r = 60 ∨ r = 62 ∨ r = 43 ∨ r = 45 ∨ r = 42 ∨ r = 47 ∨ r = 37 ∨ r = 38 ∨ r = 124
instance (r : Int) : Decidable (isSign r) := by unfold isSign; infer_instance

/-- The class of a number. -/
def cls (r : Int) : Int :=
  if r = 32 ∨ r = 9 ∨ r = 13 then 1 else if r = 10 then 2 else if 48 ≤ r ∧ r ≤ 57 then 4 else if letB r = true then 3 else if isSign r then 5 else 6

theorem cls1 {r : Int} (h : r = 32 ∨ r = 9 ∨ r = 13) : 1 = cls r := by unfold cls; rw [if_pos h]
theorem cls2 {r : Int} (h : r = 10) : 2 = cls r := by subst h; rfl
theorem cls4 {r : Int} (h : 48 ≤ r ∧ r ≤ 57) : 4 = cls r := by unfold cls; rw [if_neg (by omega), if_neg (by omega), if_pos h]
theorem cls5 {r : Int} (h : isSign r) : 5 = cls r := by
  have hl : letB r = false := (let_f (by unfold isSign at h; omega)).symm
  unfold cls
  rw [if_neg (by unfold isSign at h; omega), if_neg (by unfold isSign at h; omega), if_neg (by unfold isSign at h; omega), if_neg (by rw [hl]; simp), if_pos h]
theorem cls3 {r : Int} (h : letB r = true) : 3 = cls r := by
  have h' := of_decide_eq_true h
  unfold cls
  rw [if_neg (by omega), if_neg (by omega), if_neg (by omega), if_pos h]
theorem cls6 {r : Int} (h0 : r ≠ 32 ∧ r ≠ 9 ∧ r ≠ 13 ∧ r ≠ 10 ∧ ¬ (48 ≤ r ∧ r ≤ 57)) (h : ¬ isSign r) (hl : letB r = false) : 6 = cls r := by
  unfold cls
  rw [if_neg (by omega), if_neg (by omega), if_neg (by omega), if_neg (by rw [hl]; simp), if_neg h]

set_option maxRecDepth 100000 in
set_option maxHeartbeats 4000000 in
theorem class_t (r : Int) (w : World) (hl : letB r = true) : Calls Tryz.prog 228 #[.int .i32 r] w fun e w' => e = .returned (.int .i64 (cls r)) ∧ w = w' := by
  have HL := Lib.hid hl; clear hl
  go_enter Tryz.func228, Tryz.ntmps228
  go_wp2_with (go_at_call 229; refine (letter_any _ _).mono ?_; rintro e w' ⟨rfl, rfl⟩; have hlq := HL.out)
  all_goals
    go_ret
    refine ⟨ret_int ?_, rfl⟩
    simp only [beq_eq_false_iff_ne, ne_eq, beq_iff_eq] at *
    first | exact cls3 HL.out | exact cls1 (by omega) | exact cls2 (by omega) | exact cls4 (by omega) | exact cls5 (by unfold isSign; omega)

set_option maxRecDepth 100000 in
set_option maxHeartbeats 4000000 in
theorem class_f (r : Int) (w : World) (hl : letB r = false) : Calls Tryz.prog 228 #[.int .i32 r] w fun e w' => e = .returned (.int .i64 (cls r)) ∧ w = w' := by
  have HL := Lib.hid hl; clear hl
  go_enter Tryz.func228, Tryz.ntmps228
  go_wp2_with (go_at_call 229; refine (letter_any _ _).mono ?_; rintro e w' ⟨rfl, rfl⟩; have hlq := HL.out)
  all_goals
    go_ret
    refine ⟨ret_int ?_, rfl⟩
    simp only [beq_eq_false_iff_ne, ne_eq, beq_iff_eq] at *
    first | exact cls1 (by omega) | exact cls2 (by omega) | exact cls4 (by omega) | exact cls5 (by unfold isSign; omega) | exact cls6 (by omega) (by unfold isSign; omega) HL.out

theorem class_any (r : Int) (w : World) : Calls Tryz.prog 228 #[.int .i32 r] w fun e w' => e = .returned (.int .i64 (cls r)) ∧ w = w' := by
  cases h : letB r with
  | true => exact class_t r w h
  | false => exact class_f r w h

/-! ### The document's Class -/
end Go.Proofs.YtjpopelbdhgidaaGreatDoor
