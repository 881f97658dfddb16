/-
  The contracts of the document's Rune, Check and At: proved is what each answers at every text and byte.
  Condition: the text has at most 2^52 bytes; Rune's byte lies within the text.
-/
import Derived.Test.YtbchibmmkmldiaaGreatDoorRune2
import Derived.Test.YtbchibmmkmldiaaGreatDoorRune3
import Derived.Test.YtbchibmmkmldiaaGreatDoorRune4
namespace Go.Proofs.YtbchibmmkmldiaaGreatDoor
open Go Go.RowKit

theorem one_byte (s : ByteArray) (i : Nat) (h : byt s i < 128) : rn s i = byt s i ∧ wd s i = 1 := by
  refine decN_pair ?_
  unfold Lib.decodeN
  rw [if_pos h]
theorem no_byte (s : ByteArray) (i : Nat) (h : 128 ≤ byt s i) (h2 : byt s i < 194 ∨ 245 ≤ byt s i) : Bad s i := by
  refine decN_pair ?_
  have b0 := byt_lt s i
  have b1 := byt_lt s (i + 1)
  have b2 := byt_lt s (i + 2)
  have b3 := byt_lt s (i + 3)
  unfold Lib.decodeN
  repeat' split
  all_goals first | rfl | (exfalso; omega)

set_option maxRecDepth 100000 in
set_option maxHeartbeats 4000000 in
theorem rune1 (s : ByteArray) (i : Nat) (w : World) (_hs : s.size ≤ 4503599627370496) (hi : i < s.size) (h1 : (s[i].toNat : Int) < 128) :
    Calls Tryz.prog 77 #[.string s, .int .i64 i] w fun e w' => e = .returned (.tuple #[.int .i64 (rn s i), .int .i64 (wd s i), .bool (!badB s i)]) ∧ w = w' := by
  have HB := Lib.hid (byt_at s i hi)
  go_enter Tryz.func77, Tryz.ntmps77
  go_wp2
  go_ret3
  have hb := HB.out
  have h2 := one_byte s i (by omega)
  refine ⟨?_, rfl⟩
  rw [h2.1, h2.2, hb]
  have : badB s i = false := by
    have : ¬ rn s i = 65533 := by omega
    simp [badB, this]
  rw [this]
  rfl

set_option maxRecDepth 100000 in
set_option maxHeartbeats 4000000 in
theorem runeX (s : ByteArray) (i : Nat) (w : World) (_hs : s.size ≤ 4503599627370496) (hi : i < s.size) (h1 : 128 ≤ (s[i].toNat : Int)) (h2 : (s[i].toNat : Int) < 194 ∨ 245 ≤ (s[i].toNat : Int)) :
    Calls Tryz.prog 77 #[.string s, .int .i64 i] w fun e w' => e = .returned (.tuple #[.int .i64 (rn s i), .int .i64 (wd s i), .bool (!badB s i)]) ∧ w = w' := by
  have hbad : Bad s i := by have hb := byt_at s i hi; exact no_byte s i (by omega) (by omega)
  have HB := Lib.hid hbad; clear hbad
  rcases h2 with h2 | h2
  · go_enter Tryz.func77, Tryz.ntmps77
    go_wp2
    go_ret3
    exact ⟨ret_bad HB.out, rfl⟩
  · have h3 : 194 ≤ (s[i].toNat : Int) := by omega
    have h6 : (s[i].toNat : Int) < 256 := by have := UInt8.toNat_lt s[i]; omega
    have h4 : 224 ≤ (s[i].toNat : Int) := by omega
    have h5 : 240 ≤ (s[i].toNat : Int) := by omega
    go_enter Tryz.func77, Tryz.ntmps77
    go_wp2
    go_ret3
    exact ⟨ret_bad HB.out, rfl⟩

theorem rune_any (s : ByteArray) (i : Nat) (w : World) (hs : s.size ≤ 4503599627370496) (hi : i < s.size) :
    Calls Tryz.prog 77 #[.string s, .int .i64 i] w fun e w' => e = .returned (.tuple #[.int .i64 (rn s i), .int .i64 (wd s i), .bool (!badB s i)]) ∧ w = w' := by
  by_cases h1 : (s[i].toNat : Int) < 128
  · exact rune1 s i w hs hi h1
  by_cases h2 : (s[i].toNat : Int) < 194 ∨ 245 ≤ (s[i].toNat : Int)
  · exact runeX s i w hs hi (by omega) h2
  by_cases h3 : (s[i].toNat : Int) < 224
  · exact rune2 s i w hs hi (by omega) h3
  by_cases h4 : (s[i].toNat : Int) < 240
  · exact rune3 s i w hs hi (by omega) h4
  · exact rune4 s i w hs hi (by omega) (by omega)
end Go.Proofs.YtbchibmmkmldiaaGreatDoor
