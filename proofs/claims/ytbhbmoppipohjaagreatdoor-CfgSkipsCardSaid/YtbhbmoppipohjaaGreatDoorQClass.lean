/-
  The contracts of text.Class and of the document's Class: proved is that each answers 'cls r' for every number r, and leaves the world as it was.
-/
import Derived.Lib.DecodeN
import Derived.Shelf.Unicode.DecodeSlow
import Derived.Test.YtbhbmoppipohjaaGreatDoorProg
import Derived.WalkKit
import Derived.Outline
import Derived.Lib.Hide
import Derived.Deep.QuietTactic
import Derived.BigQuiet
/-
  Plain facts on UTF-8 as the model decodes it (no walk): proved is how wide a rune is, that a text from a byte on is decoded as the whole text at that byte, the list of a text's runes with their places, and what Check and At answer as functions of that list.
-/
namespace Go.Proofs.YtbhbmoppipohjaaGreatDoor
open Go

/-- The rune at byte i, and how many bytes it has. -/
def rn (s : ByteArray) (i : Nat) : Nat := (Utf8.decode s i).1
def wd (s : ByteArray) (i : Nat) : Nat := (Utf8.decode s i).2
theorem decode_eq (s : ByteArray) (i : Nat) : Utf8.decode s i = (rn s i, wd s i) := rfl

set_option maxRecDepth 100000 in
theorem decN_facts (n b0 b1 b2 b3 : Nat) (hn : 1 ≤ n) (h0 : b0 < 256) (h1 : b1 < 256) (_h2 : b2 < 256) (_h3 : b3 < 256) :
    1 ≤ (Lib.decodeN n b0 b1 b2 b3).2 ∧ (Lib.decodeN n b0 b1 b2 b3).2 ≤ n ∧ (Lib.decodeN n b0 b1 b2 b3).2 ≤ 4 ∧ (Lib.decodeN n b0 b1 b2 b3).1 ≤ 1114111 := by
  unfold Lib.decodeN
  repeat' split
  all_goals (simp only; omega)

theorem dec_facts (s : ByteArray) (i : Nat) (h : i < s.size) : 1 ≤ wd s i ∧ i + wd s i ≤ s.size ∧ wd s i ≤ 4 ∧ rn s i ≤ 1114111 := by
  have := decN_facts (s.size - i) (s.get! i).toNat (s.get! (i + 1)).toNat (s.get! (i + 2)).toNat (s.get! (i + 3)).toNat (by omega) (UInt8.toNat_lt _) (UInt8.toNat_lt _) (UInt8.toNat_lt _) (UInt8.toNat_lt _)
  rw [← Lib.decode_at] at this
  unfold wd rn
  omega

/-- At byte i no rune is coded. -/
def badB (s : ByteArray) (i : Nat) : Bool := rn s i == 65533 && wd s i == 1

theorem get!_list (s : ByteArray) (i : Nat) : s.get! i = s.data.toList.getD i 0 := by
  cases s with
  | mk d =>
    show d[i]! = _
    by_cases h : i < d.size
    · simp [getElem!_pos, h]
    · rw [getElem!_neg d i h]
      simp [List.getD, h]
      rfl
theorem toList_extract (s : ByteArray) (n : Nat) : (s.extract n s.size).data.toList = s.data.toList.drop n := by
  simp only [ByteArray.data_extract, Array.toList_extract, List.extract_eq_take_drop]
  exact List.take_of_length_le (by simp)
theorem get!_extract (s : ByteArray) (n j : Nat) : (s.extract n s.size).get! j = s.get! (n + j) := by
  rw [get!_list, get!_list, toList_extract]
  simp [List.getD]

theorem decode_from (s : ByteArray) (n : Nat) (h : n < s.size) : Lib.decodeGo (s.extract n s.size) = Utf8.decode s n := by
  have hs : (s.extract n s.size).size = s.size - n := by simp
  unfold Lib.decodeGo
  rw [if_neg (by omega), Lib.decode_at, Lib.decode_at, hs, Nat.sub_zero]
  simp only [get!_extract s n, Nat.add_zero, Nat.zero_add]

/-- What Check answers from byte pos on, going through at most so many runes. -/
def chk (s : ByteArray) : Nat → Nat → Int × Int
  | 0, _ => (0, 0)
  | f + 1, pos => if pos < s.size then (if badB s pos = true then ((pos : Int), 11) else chk s f (pos + wd s pos)) else (0, 0)
theorem chk_end (s : ByteArray) (b pos : Nat) (h : ¬ pos < s.size) : chk s b pos = (0, 0) := by
  cases b with
  | zero => rfl
  | succ b => simp [chk, h]
/-- What Check answers. -/
def chkAll (s : ByteArray) : Int × Int := if 65536 < s.size then (0, 10) else chk s s.size 0

theorem chk_step (s : ByteArray) (b pos : Nat) (h : pos < s.size) (hb : badB s pos = false) : chk s (b + 1) pos = chk s b (pos + wd s pos) := by
  simp [chk, h, hb]
theorem chk_bad (s : ByteArray) (b pos : Nat) (h : pos < s.size) (hb : badB s pos = true) : chk s (b + 1) pos = ((pos : Int), 11) := by
  simp [chk, h, hb]

def ChkRel (s : ByteArray) (pos b : Nat) : Prop := chk s b pos = chk s s.size 0 ∧ s.size ≤ pos + b

theorem chkAll_of (s : ByteArray) (hs : ¬ 65536 < s.size) : chkAll s = chk s s.size 0 := by unfold chkAll; rw [if_neg hs]

/-- A rune where it stands: the number of its first byte, its place, the rune. -/
structure Spot where
  pos : Nat
  line : Int
  col : Int
  r : Nat

/-- The place behind a rune. -/
def nxt (x : Spot) : Int × Int := if x.r = 10 then (x.line + 1, 1) else (x.line, x.col + 1)

/-- The runes from byte pos on, which stands at a place. -/
def spl (s : ByteArray) : Nat → Nat → Int × Int → List Spot
  | 0, _, _ => []
  | f + 1, pos, p => if pos < s.size then ⟨pos, p.1, p.2, rn s pos⟩ :: spl s f (pos + wd s pos) (nxt ⟨pos, p.1, p.2, rn s pos⟩) else []
theorem spl_end (s : ByteArray) (b pos : Nat) (p : Int × Int) (h : ¬ pos < s.size) : spl s b pos p = [] := by
  cases b with
  | zero => rfl
  | succ b => simp [spl, h]
/-- All runes of a text. -/
def spots (s : ByteArray) : List Spot := spl s s.size 0 (1, 1)

/-- The place of byte n, p being the place where the list begins. -/
def atL (n : Int) (p : Int × Int) : List Spot → Int × Int
  | [] => p
  | x :: t => if (x.pos : Int) < n then atL n (nxt x) t else p
/-- What At answers. -/
def atV (s : ByteArray) (n : Int) : Int × Int := atL n (1, 1) (spots s)

/-- The place behind the runes of a list that begins at p. -/
def behindL (p : Int × Int) : List Spot → Int × Int
  | [] => p
  | x :: t => behindL (nxt x) t
theorem behindL_snoc (p : Int × Int) (l : List Spot) (x : Spot) : behindL p (l ++ [x]) = nxt x := by
  induction l generalizing p with
  | nil => rfl
  | cons y t ih => exact ih (nxt y)
theorem atL_all (n : Int) : ∀ (p : Int × Int) (l : List Spot), (∀ x ∈ l, (x.pos : Int) < n) → atL n p l = behindL p l
  | _, [], _ => rfl
  | p, x :: t, h => by
    simp only [atL, behindL, h x (.head _), if_true]
    exact atL_all n _ t (fun y hy => h y (.tail _ hy))
theorem atL_stop (n : Int) : ∀ (p : Int × Int) (l : List Spot) (x : Spot) (t : List Spot), (∀ y ∈ l, (y.pos : Int) < n) → ¬ (x.pos : Int) < n → atL n p (l ++ x :: t) = behindL p l
  | p, [], x, t, _, hx => by simp [atL, behindL, hx]
  | p, y :: l, x, t, h, hx => by
    simp only [List.cons_append, atL, behindL, h y (.head _), if_true]
    exact atL_stop n _ l x t (fun z hz => h z (.tail _ hz)) hx

/-- What is left of At's way from byte pos on, which stands at (l, c). -/
def AtRel (s : ByteArray) (n : Int) (pos b : Nat) (p : Int × Int) : Prop := atL n p (spl s b pos p) = atV s n ∧ s.size ≤ pos + b
theorem AtRel.step {s : ByteArray} {n : Int} {pos b : Nat} {p : Int × Int} (h : AtRel s n pos b p) (hp : pos < s.size) (hn : (pos : Int) < n) : ∃ b', AtRel s n (pos + wd s pos) b' (nxt ⟨pos, p.1, p.2, rn s pos⟩) := by
  obtain ⟨h1, h2⟩ := h
  have hd := dec_facts s pos hp
  cases b with
  | zero => omega
  | succ b =>
    refine ⟨b, ?_, by omega⟩
    rw [← h1]
    simp [spl, hp, atL, hn]
theorem AtRel.done {s : ByteArray} {n : Int} {pos b : Nat} {p : Int × Int} (h : AtRel s n pos b p) (hp : ¬ (pos < s.size ∧ (pos : Int) < n)) : atV s n = p := by
  obtain ⟨h1, h2⟩ := h
  rw [← h1]
  by_cases hs : pos < s.size
  · cases b with
    | zero => omega
    | succ b =>
      have hn : ¬ (pos : Int) < n := fun hn => hp ⟨hs, hn⟩
      simp [spl, hs, atL, hn]
  · rw [spl_end s b pos p hs]; rfl

/-- Bounds of all that a list of runes holds: from pos on, places that are small. -/
theorem spl_bounds (s : ByteArray) : ∀ (f pos : Nat) (p : Int × Int), 1 ≤ p.1 → 1 ≤ p.2 → p.1 ≤ pos + 1 → p.2 ≤ pos + 1 → ∀ x ∈ spl s f pos p, pos ≤ x.pos ∧ x.pos < s.size ∧ 1 ≤ x.line ∧ 1 ≤ x.col ∧ x.line ≤ x.pos + 1 ∧ x.col ≤ x.pos + 1 ∧ x.r = rn s x.pos ∧ x.r ≤ 1114111
  | 0, _, _, _, _, _, _, x, hx => by simp [spl] at hx
  | f + 1, pos, p, h1, h2, h3, h4, x, hx => by
    unfold spl at hx
    split at hx
    · rename_i hp
      have hd := dec_facts s pos hp
      rcases List.mem_cons.1 hx with rfl | hx
      · exact ⟨Nat.le_refl _, hp, h1, h2, h3, h4, rfl, hd.2.2.2⟩
      · have hn : 1 ≤ (nxt ⟨pos, p.1, p.2, rn s pos⟩).1 ∧ 1 ≤ (nxt ⟨pos, p.1, p.2, rn s pos⟩).2 ∧ (nxt ⟨pos, p.1, p.2, rn s pos⟩).1 ≤ (pos + wd s pos : Nat) + 1 ∧ (nxt ⟨pos, p.1, p.2, rn s pos⟩).2 ≤ (pos + wd s pos : Nat) + 1 := by
          unfold nxt
          simp only
          split <;> (simp only; omega)
        have := spl_bounds s f (pos + wd s pos) _ hn.1 hn.2.1 hn.2.2.1 hn.2.2.2 x hx
        omega
    · simp at hx
theorem spots_bounds (s : ByteArray) (x : Spot) (hx : x ∈ spots s) : x.pos < s.size ∧ 1 ≤ x.line ∧ 1 ≤ x.col ∧ x.line ≤ x.pos + 1 ∧ x.col ≤ x.pos + 1 ∧ x.r = rn s x.pos ∧ x.r ≤ 1114111 := by
  have := spl_bounds s s.size 0 (1, 1) (by simp) (by simp) (by simp) (by simp) x hx
  omega
end Go.Proofs.YtbhbmoppipohjaaGreatDoor

/-
  The contracts of text.Class and of the document's Class: proved is that each answers 'cls r' for every number r, and leaves the world as it was.
-/
namespace Go.Proofs.YtbhbmoppipohjaaGreatDoor
open Go Go.RowKit

theorem ret_bool {a b : Bool} (h : a = b) : Ending.returned (.bool a) = .returned (.bool b) := by rw [h]
theorem ret_int {k : IntKind} {a b : Int} (h : a = b) : Ending.returned (.int k a) = .returned (.int k b) := by rw [h]

/-- A letter, by its number. -/
def letB (r : Int) : Bool :=
  decide (r ≠ 215 ∧ r ≠ 247 ∧ r ≠ 930 ∧ (r = 95 ∨ (97 ≤ r ∧ r ≤ 122) ∨ (65 ≤ r ∧ r ≤ 90) ∨ (192 ≤ r ∧ r ≤ 591) ∨ (913 ≤ r ∧ r ≤ 969) ∨ (1040 ≤ r ∧ r ≤ 1103)))
theorem let_t {r : Int} (h : r ≠ 215 ∧ r ≠ 247 ∧ r ≠ 930 ∧ (r = 95 ∨ (97 ≤ r ∧ r ≤ 122) ∨ (65 ≤ r ∧ r ≤ 90) ∨ (192 ≤ r ∧ r ≤ 591) ∨ (913 ≤ r ∧ r ≤ 969) ∨ (1040 ≤ r ∧ r ≤ 1103))) : true = letB r := (decide_eq_true h).symm
theorem let_f {r : Int} (h : ¬ (r ≠ 215 ∧ r ≠ 247 ∧ r ≠ 930 ∧ (r = 95 ∨ (97 ≤ r ∧ r ≤ 122) ∨ (65 ≤ r ∧ r ≤ 90) ∨ (192 ≤ r ∧ r ≤ 591) ∨ (913 ≤ r ∧ r ≤ 969) ∨ (1040 ≤ r ∧ r ≤ 1103)))) : false = letB r := (decide_eq_false h).symm

set_option maxHeartbeats 1000000 in
theorem letter_any (r : Int) (w : World) : Calls Tryz.prog 166 #[.int .i32 r] w fun e w' => e = .returned (.bool (letB r)) ∧ w = w' := by
  go_enter Tryz.func166, Tryz.ntmps166
  go_wp2
  all_goals
    go_ret
    refine ⟨ret_bool ?_, rfl⟩
    simp only [beq_eq_false_iff_ne, ne_eq, beq_iff_eq] at *
    first | exact let_t (by omega) | exact let_f (by omega)

/-- A sign, by its number. -/
def isSign (r : Int) : Prop := r = 59 ∨ r = 44 ∨ r = 123 ∨ r = 125 ∨ r = 40 ∨ r = 41 ∨ r = 91 ∨ r = 93 ∨ r = 61 ∨ r = 33 ∨ r = 60 ∨ r = 62 ∨ r = 43 ∨ r = 45 ∨ r = 42 ∨ r = 47 ∨ r = 37 ∨ r = 38 ∨ r = 124
instance (r : Int) : Decidable (isSign r) := by unfold isSign; infer_instance

/-- The class of a number. -/
def cls (r : Int) : Int :=
  if r = 32 ∨ r = 9 ∨ r = 13 then 1 else if r = 10 then 2 else if 48 ≤ r ∧ r ≤ 57 then 4 else if letB r = true then 3 else if isSign r then 5 else 6

theorem cls1 {r : Int} (h : r = 32 ∨ r = 9 ∨ r = 13) : 1 = cls r := by unfold cls; rw [if_pos h]
theorem cls2 {r : Int} (h : r = 10) : 2 = cls r := by subst h; rfl
theorem cls4 {r : Int} (h : 48 ≤ r ∧ r ≤ 57) : 4 = cls r := by unfold cls; rw [if_neg (by omega), if_neg (by omega), if_pos h]
theorem cls5 {r : Int} (h : isSign r) : 5 = cls r := by
  have hl : letB r = false := (let_f (by unfold isSign at h; omega)).symm
  unfold cls
  rw [if_neg (by unfold isSign at h; omega), if_neg (by unfold isSign at h; omega), if_neg (by unfold isSign at h; omega), if_neg (by rw [hl]; simp), if_pos h]
theorem cls3 {r : Int} (h : letB r = true) : 3 = cls r := by
  have h' := of_decide_eq_true h
  unfold cls
  rw [if_neg (by omega), if_neg (by omega), if_neg (by omega), if_pos h]
theorem cls6 {r : Int} (h0 : r ≠ 32 ∧ r ≠ 9 ∧ r ≠ 13 ∧ r ≠ 10 ∧ ¬ (48 ≤ r ∧ r ≤ 57)) (h : ¬ isSign r) (hl : letB r = false) : 6 = cls r := by
  unfold cls
  rw [if_neg (by omega), if_neg (by omega), if_neg (by omega), if_neg (by rw [hl]; simp), if_neg h]

set_option maxRecDepth 100000 in
set_option maxHeartbeats 4000000 in
theorem class_t (r : Int) (w : World) (hl : letB r = true) : Calls Tryz.prog 165 #[.int .i32 r] w fun e w' => e = .returned (.int .i64 (cls r)) ∧ w = w' := by
  have HL := Lib.hid hl; clear hl
  go_enter Tryz.func165, Tryz.ntmps165
  go_wp2_with (go_at_call 166; refine (letter_any _ _).mono ?_; rintro e w' ⟨rfl, rfl⟩; have hlq := HL.out)
  all_goals
    go_ret
    refine ⟨ret_int ?_, rfl⟩
    simp only [beq_eq_false_iff_ne, ne_eq, beq_iff_eq] at *
    first | exact cls3 HL.out | exact cls1 (by omega) | exact cls2 (by omega) | exact cls4 (by omega) | exact cls5 (by unfold isSign; omega)

set_option maxRecDepth 100000 in
set_option maxHeartbeats 4000000 in
theorem class_f (r : Int) (w : World) (hl : letB r = false) : Calls Tryz.prog 165 #[.int .i32 r] w fun e w' => e = .returned (.int .i64 (cls r)) ∧ w = w' := by
  have HL := Lib.hid hl; clear hl
  go_enter Tryz.func165, Tryz.ntmps165
  go_wp2_with (go_at_call 166; refine (letter_any _ _).mono ?_; rintro e w' ⟨rfl, rfl⟩; have hlq := HL.out)
  all_goals
    go_ret
    refine ⟨ret_int ?_, rfl⟩
    simp only [beq_eq_false_iff_ne, ne_eq, beq_iff_eq] at *
    first | exact cls1 (by omega) | exact cls2 (by omega) | exact cls4 (by omega) | exact cls5 (by unfold isSign; omega) | exact cls6 (by omega) (by unfold isSign; omega) HL.out

theorem class_any (r : Int) (w : World) : Calls Tryz.prog 165 #[.int .i32 r] w fun e w' => e = .returned (.int .i64 (cls r)) ∧ w = w' := by
  cases h : letB r with
  | true => exact class_t r w h
  | false => exact class_f r w h

/-! ### The document's Class -/
def btw (x lo hi : Int) : Bool := decide (lo ≤ x ∧ x ≤ hi)
theorem between_any (x lo hi : Int) (w : World) : Calls Tryz.prog 151 #[.int .i64 x, .int .i64 lo, .int .i64 hi] w fun e w' => e = .returned (.bool (btw x lo hi)) ∧ w = w' := by
  go_enter Tryz.func151, Tryz.ntmps151
  go_wp2
  all_goals
    go_ret
    refine ⟨ret_bool ?_, rfl⟩
    unfold btw
    first | (rw [decide_eq_decide]; omega) | exact (decide_eq_false (by omega)).symm

set_option maxHeartbeats 4000000 in
theorem refclass_hi (r : Int) (w : World) (h : (r = 32 ∨ r = 9 ∨ r = 13) ∨ r = 10 ∨ (48 ≤ r ∧ r ≤ 57) ∨ letB r = true) : Calls Tryz.prog 138 #[.int .i64 r] w fun e w' => e = .returned (.int .i64 (cls r)) ∧ w = w' := by
  have H := Lib.hid h; clear h
  go_enter Tryz.func138, Tryz.ntmps138
  go_wp2_with (go_at_call 151; refine (between_any _ _ _ _).mono ?_; rintro e w' ⟨rfl, rfl⟩)
  all_goals
    replace H := H.out
    simp only [letB, btw, beq_eq_false_iff_ne, ne_eq, beq_iff_eq, decide_eq_true_eq, decide_eq_false_iff_not] at *
    first
      | (exfalso; omega)
      | (go_ret
         refine ⟨ret_int ?_, rfl⟩
         first | exact cls1 (by omega) | exact cls2 (by omega) | exact cls4 (by omega) | exact cls3 (decide_eq_true (by omega)))

def signs : ByteArray := { data := #[59, 44, 123, 125, 40, 41, 91, 93, 61, 33, 60, 62, 43, 45, 42, 47, 37, 38, 124] }
def sgn (k : Nat) : Int := ([59, 44, 123, 125, 40, 41, 91, 93, 61, 33, 60, 62, 43, 45, 42, 47, 37, 38, 124].getD k 0 : Int)
theorem sgn_all : ∀ k : Fin 19, wrap64 ((signs[k.1]'k.2).toNat : Int) = sgn k.1 := by decide +kernel
theorem sgn_at (k : Nat) (h : k < signs.size) : wrap64 ((signs[k]'h).toNat : Int) = sgn k := sgn_all ⟨k, h⟩
theorem sgn_sign (k : Nat) (h : k < 19) : isSign (sgn k) := by
  have : ∀ k, k < 19 → isSign (sgn k) := by decide
  exact this k h
theorem sign_sgn {r : Int} (h : isSign r) : ∃ k, k < 19 ∧ r = sgn k := by
  unfold isSign at h
  rcases h with h | h | h | h | h | h | h | h | h | h | h | h | h | h | h | h | h | h | h
  · exact ⟨0, by omega, h⟩
  · exact ⟨1, by omega, h⟩
  · exact ⟨2, by omega, h⟩
  · exact ⟨3, by omega, h⟩
  · exact ⟨4, by omega, h⟩
  · exact ⟨5, by omega, h⟩
  · exact ⟨6, by omega, h⟩
  · exact ⟨7, by omega, h⟩
  · exact ⟨8, by omega, h⟩
  · exact ⟨9, by omega, h⟩
  · exact ⟨10, by omega, h⟩
  · exact ⟨11, by omega, h⟩
  · exact ⟨12, by omega, h⟩
  · exact ⟨13, by omega, h⟩
  · exact ⟨14, by omega, h⟩
  · exact ⟨15, by omega, h⟩
  · exact ⟨16, by omega, h⟩
  · exact ⟨17, by omega, h⟩
  · exact ⟨18, by omega, h⟩
theorem sgn_hit {r : Int} {k : Nat} (h : k < signs.size) (hb : (r == wrap64 ((signs[k]'h).toNat : Int)) = true) : 5 = cls r := by
  rw [sgn_at k h, beq_iff_eq] at hb
  exact cls5 (hb ▸ sgn_sign k h)
theorem sgn_miss {r q : Int} {k : Nat} (hq : r = q) (h : k < signs.size) (hn : ∀ j, j < k → r ≠ sgn j) (hb : (q == wrap64 ((signs[k]'h).toNat : Int)) = false) : ∀ j, j < k + 1 → r ≠ sgn j := by
  rw [sgn_at k h, beq_eq_false_iff_ne] at hb
  intro j hj
  by_cases e : j = k
  · subst e; rw [hq]; exact hb
  · exact hn j (by omega)
theorem sgn_none {r : Int} (hn : ∀ j, j < 19 → r ≠ sgn j) : ¬ isSign r := fun h => by
  obtain ⟨k, hk, e⟩ := sign_sgn h
  exact hn k hk e

set_option maxRecDepth 100000 in
set_option maxHeartbeats 4000000 in
theorem refclass_lo (r : Int) (w : World) (h : ¬ ((r = 32 ∨ r = 9 ∨ r = 13) ∨ r = 10 ∨ (48 ≤ r ∧ r ≤ 57) ∨ letB r = true)) : Calls Tryz.prog 138 #[.int .i64 r] w fun e w' => e = .returned (.int .i64 (cls r)) ∧ w = w' := by
  have H := Lib.hid h; clear h
  go_enter Tryz.func138, Tryz.ntmps138
  go_wp2_with (go_at_call 151; refine (between_any _ _ _ _).mono ?_; rintro e w' ⟨rfl, rfl⟩)
  all_goals try (
    exfalso
    replace H := H.out
    simp only [letB, btw, beq_eq_false_iff_ne, ne_eq, beq_iff_eq, decide_eq_true_eq, decide_eq_false_iff_not] at *
    omega)
  all_goals
    go_loop [4] (fun i => ∃ k : Nat, k ≤ 19 ∧ i = .int .i64 k ∧ ∀ j, j < k → r ≠ sgn j) (fun i => 19 - (intOf i).toNat)
    case atStart => exact ⟨0, by omega, rfl, fun j hj => by omega⟩
    case round =>
      obtain ⟨k, hk, rfl, hn⟩ := hrel
      have HN := Lib.hid hn; clear hn
      by_cases hlt : k < 19
      · go_wp2
        · go_ret
          exact ⟨ret_int (sgn_hit hlt ‹(_ == wrap64 _) = true›), rfl⟩
        · go_round
          case rel => exact ⟨k + 1, by omega, by go_num, by first | exact sgn_miss rfl hlt HN.out ‹(_ == wrap64 _) = false› | exact sgn_miss ‹r = 215› hlt HN.out ‹(_ == wrap64 _) = false› | exact sgn_miss ‹r = 247› hlt HN.out ‹(_ == wrap64 _) = false› | exact sgn_miss ‹r = 930› hlt HN.out ‹(_ == wrap64 _) = false›⟩
          case measure => simp [intOf]; omega
      · go_wp2
        go_ret
        refine ⟨ret_int ?_, rfl⟩
        first
          | rfl
          | (have hs := sgn_none (r := r) (fun j hj => HN.out j (by omega))
             replace H := H.out
             refine cls6 (by omega) hs ?_
             cases e : letB r
             · rfl
             · exact absurd e (fun e => H (by simp [e])))

theorem refclass_any (r : Int) (w : World) : Calls Tryz.prog 138 #[.int .i64 r] w fun e w' => e = .returned (.int .i64 (cls r)) ∧ w = w' := by
  by_cases h : (r = 32 ∨ r = 9 ∨ r = 13) ∨ r = 10 ∨ (48 ≤ r ∧ r ≤ 57) ∨ letB r = true
  · exact refclass_hi r w h
  · exact refclass_lo r w h
end Go.Proofs.YtbhbmoppipohjaaGreatDoor
