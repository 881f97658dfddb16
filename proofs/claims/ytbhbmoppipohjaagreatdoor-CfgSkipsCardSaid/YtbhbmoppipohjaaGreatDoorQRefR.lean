/-
  The contracts of the document's Rune, Check and At: proved is what each answers at every text and byte.
  Condition: the text has at most 2^52 bytes; Rune's byte lies within the text.
-/
import Derived.Test.YtbhbmoppipohjaaGreatDoorQClass
/-
  The contract of the document's Rune: proved is that at every byte of every text it answers the rune that the model decodes there, how many bytes it has and whether it is coded.
-/
namespace Go.Proofs.YtbhbmoppipohjaaGreatDoor
open Go Go.RowKit

def byt (s : ByteArray) (j : Nat) : Nat := (s.get! j).toNat
theorem byt_at (s : ByteArray) (j : Nat) (h : j < s.size) : (s[j]'h).toNat = byt s j := by
  unfold byt
  rw [get!_list]
  simp [List.getD, h]
  rfl
theorem byt_lt (s : ByteArray) (j : Nat) : byt s j < 256 := UInt8.toNat_lt _
theorem dec_byt (s : ByteArray) (i : Nat) : (rn s i, wd s i) = Lib.decodeN (s.size - i) (byt s i) (byt s (i + 1)) (byt s (i + 2)) (byt s (i + 3)) := Lib.decode_at s i

/-- The bytes ahead of the k-th are there and go on a rune. -/
def Conts (s : ByteArray) (i k : Nat) : Prop := ∀ j, 1 ≤ j → j < k → i + j < s.size ∧ 128 ≤ byt s (i + j) ∧ byt s (i + j) < 192
theorem Conts.succ {s : ByteArray} {i k : Nat} (h : Conts s i k) (h1 : i + k < s.size) (h2 : 128 ≤ byt s (i + k)) (h3 : byt s (i + k) < 192) : Conts s i (k + 1) := fun j hj1 hj2 => by
  by_cases e : j = k
  · subst e; exact ⟨h1, h2, h3⟩
  · exact h j hj1 (by omega)
/-- The number that the bytes ahead of the k-th make. -/
def val (s : ByteArray) (i : Nat) (v0 : Int) : Nat → Int
  | 0 => v0
  | 1 => v0
  | k + 2 => 64 * val s i v0 (k + 1) + (byt s (i + (k + 1)) : Int) - 128
theorem val_succ (s : ByteArray) (i : Nat) (v0 : Int) (k : Nat) (h : 1 ≤ k) : val s i v0 (k + 1) = 64 * val s i v0 k + (byt s (i + k) : Int) - 128 := by
  obtain ⟨k, rfl⟩ : ∃ m, k = m + 1 := ⟨k - 1, by omega⟩
  rfl
/-- Where the k-th byte fails. -/
def Fails (s : ByteArray) (i k : Nat) : Prop := s.size ≤ i + k ∨ byt s (i + k) < 128 ∨ 192 ≤ byt s (i + k)
def Bad (s : ByteArray) (i : Nat) : Prop := rn s i = 65533 ∧ wd s i = 1

theorem ret_bad {s : ByteArray} {i : Nat} (h : Bad s i) : Ending.returned (.tuple #[.int .i64 65533, .int .i64 1, .bool false]) = .returned (.tuple #[.int .i64 (rn s i), .int .i64 (wd s i), .bool (!badB s i)]) := by
  obtain ⟨h1, h2⟩ := h
  simp [badB, h1, h2]
theorem ret_good {s : ByteArray} {i n : Nat} {V : Int} (h : (rn s i : Int) = V ∧ wd s i = n) (hn : 2 ≤ n) : Ending.returned (.tuple #[.int .i64 V, .int .i64 n, .bool true]) = .returned (.tuple #[.int .i64 (rn s i), .int .i64 (wd s i), .bool (!badB s i)]) := by
  obtain ⟨h1, h2⟩ := h
  have hb : badB s i = false := by
    have : ¬ wd s i = 1 := by omega
    simp [badB, this]
  rw [hb, h1, h2]
  rfl

theorem decN_pair {s : ByteArray} {i : Nat} {a b : Nat} (h : Lib.decodeN (s.size - i) (byt s i) (byt s (i + 1)) (byt s (i + 2)) (byt s (i + 3)) = (a, b)) : rn s i = a ∧ wd s i = b := by
  rw [← dec_byt] at h
  exact Prod.mk.inj h

structure RR (s : ByteArray) (i k : Nat) (v0 V : Int) : Prop where
  conts : Conts s i k
  eq : V = val s i v0 k

set_option maxRecDepth 100000 in
set_option maxHeartbeats 4000000 in
theorem bad2 (s : ByteArray) (i k : Nat) (hi : i < s.size) (h1 : 194 ≤ byt s i) (h2 : byt s i < 224) (hk1 : 1 ≤ k) (hk : k < 2) (hc : Conts s i k) (hf : Fails s i k) : Bad s i := by
  refine decN_pair ?_
  unfold Fails at hf
  have c1 := hc 1
  have c2 := hc 2
  have b0 := byt_lt s i
  have b1 := byt_lt s (i + 1)
  have b2 := byt_lt s (i + 2)
  have b3 := byt_lt s (i + 3)
  have hk' : k = 1 ∨ k = 2 ∨ k = 3 := by omega
  unfold Lib.decodeN
  rcases hk' with rfl | rfl | rfl <;> (repeat' split) <;> first | rfl | (exfalso; omega)
set_option maxRecDepth 100000 in
set_option maxHeartbeats 4000000 in
theorem end2 (s : ByteArray) (i : Nat) (V : Int) (_hi : i < s.size) (h1 : 194 ≤ byt s i) (h2 : byt s i < 224) (hr : RR s i 2 ((byt s i : Int) - 192) V) :
    0 ≤ V ∧ ((V < 128 ∨ 1114111 < V ∨ (55296 ≤ V ∧ V < 57344)) → Bad s i) ∧ (¬ (V < 128 ∨ 1114111 < V ∨ (55296 ≤ V ∧ V < 57344)) → (rn s i : Int) = V ∧ wd s i = 2) := by
  obtain ⟨hc, hv⟩ := hr
  have c1 := hc 1 (by omega) (by omega)
  have c2 : 2 < 2 → _ := fun h => hc 2 (by omega) h
  have c3 : 3 < 2 → _ := fun h => hc 3 (by omega) h
  simp only [val, Nat.reduceAdd] at hv
  have b0 := byt_lt s i
  have hd := dec_byt s i
  have hrn : rn s i = (Lib.decodeN (s.size - i) (byt s i) (byt s (i + 1)) (byt s (i + 2)) (byt s (i + 3))).1 := by rw [← hd]
  have hwd : wd s i = (Lib.decodeN (s.size - i) (byt s i) (byt s (i + 1)) (byt s (i + 2)) (byt s (i + 3))).2 := by rw [← hd]
  unfold Bad
  rw [hrn, hwd]
  refine ⟨by omega, ?_⟩
  unfold Lib.decodeN
  repeat' split
  all_goals
    refine ⟨fun h => ?_, fun h => ?_⟩
    all_goals first | (exfalso; omega) | exact ⟨rfl, rfl⟩ | (refine ⟨?_, rfl⟩; simp only; omega)

set_option maxRecDepth 100000 in
set_option maxHeartbeats 4000000 in
theorem bad3 (s : ByteArray) (i k : Nat) (hi : i < s.size) (h1 : 224 ≤ byt s i) (h2 : byt s i < 240) (hk1 : 1 ≤ k) (hk : k < 3) (hc : Conts s i k) (hf : Fails s i k) : Bad s i := by
  refine decN_pair ?_
  unfold Fails at hf
  have c1 := hc 1
  have c2 := hc 2
  have b0 := byt_lt s i
  have b1 := byt_lt s (i + 1)
  have b2 := byt_lt s (i + 2)
  have b3 := byt_lt s (i + 3)
  have hk' : k = 1 ∨ k = 2 ∨ k = 3 := by omega
  unfold Lib.decodeN
  rcases hk' with rfl | rfl | rfl <;> (repeat' split) <;> first | rfl | (exfalso; omega)
set_option maxRecDepth 100000 in
set_option maxHeartbeats 4000000 in
theorem end3 (s : ByteArray) (i : Nat) (V : Int) (_hi : i < s.size) (h1 : 224 ≤ byt s i) (h2 : byt s i < 240) (hr : RR s i 3 ((byt s i : Int) - 224) V) :
    0 ≤ V ∧ ((V < 2048 ∨ 1114111 < V ∨ (55296 ≤ V ∧ V < 57344)) → Bad s i) ∧ (¬ (V < 2048 ∨ 1114111 < V ∨ (55296 ≤ V ∧ V < 57344)) → (rn s i : Int) = V ∧ wd s i = 3) := by
  obtain ⟨hc, hv⟩ := hr
  have c1 := hc 1 (by omega) (by omega)
  have c2 : 2 < 3 → _ := fun h => hc 2 (by omega) h
  have c3 : 3 < 3 → _ := fun h => hc 3 (by omega) h
  simp only [val, Nat.reduceAdd] at hv
  have b0 := byt_lt s i
  have hd := dec_byt s i
  have hrn : rn s i = (Lib.decodeN (s.size - i) (byt s i) (byt s (i + 1)) (byt s (i + 2)) (byt s (i + 3))).1 := by rw [← hd]
  have hwd : wd s i = (Lib.decodeN (s.size - i) (byt s i) (byt s (i + 1)) (byt s (i + 2)) (byt s (i + 3))).2 := by rw [← hd]
  unfold Bad
  rw [hrn, hwd]
  refine ⟨by omega, ?_⟩
  unfold Lib.decodeN
  repeat' split
  all_goals
    refine ⟨fun h => ?_, fun h => ?_⟩
    all_goals first | (exfalso; omega) | exact ⟨rfl, rfl⟩ | (refine ⟨?_, rfl⟩; simp only; omega)

set_option maxRecDepth 100000 in
set_option maxHeartbeats 4000000 in
theorem bad4 (s : ByteArray) (i k : Nat) (hi : i < s.size) (h1 : 240 ≤ byt s i) (h2 : byt s i < 245) (hk1 : 1 ≤ k) (hk : k < 4) (hc : Conts s i k) (hf : Fails s i k) : Bad s i := by
  refine decN_pair ?_
  unfold Fails at hf
  have c1 := hc 1
  have c2 := hc 2
  have b0 := byt_lt s i
  have b1 := byt_lt s (i + 1)
  have b2 := byt_lt s (i + 2)
  have b3 := byt_lt s (i + 3)
  have hk' : k = 1 ∨ k = 2 ∨ k = 3 := by omega
  unfold Lib.decodeN
  rcases hk' with rfl | rfl | rfl <;> (repeat' split) <;> first | rfl | (exfalso; omega)
set_option maxRecDepth 100000 in
set_option maxHeartbeats 4000000 in
theorem end4 (s : ByteArray) (i : Nat) (V : Int) (_hi : i < s.size) (h1 : 240 ≤ byt s i) (h2 : byt s i < 245) (hr : RR s i 4 ((byt s i : Int) - 240) V) :
    0 ≤ V ∧ ((V < 65536 ∨ 1114111 < V ∨ (55296 ≤ V ∧ V < 57344)) → Bad s i) ∧ (¬ (V < 65536 ∨ 1114111 < V ∨ (55296 ≤ V ∧ V < 57344)) → (rn s i : Int) = V ∧ wd s i = 4) := by
  obtain ⟨hc, hv⟩ := hr
  have c1 := hc 1 (by omega) (by omega)
  have c2 : 2 < 4 → _ := fun h => hc 2 (by omega) h
  have c3 : 3 < 4 → _ := fun h => hc 3 (by omega) h
  simp only [val, Nat.reduceAdd] at hv
  have b0 := byt_lt s i
  have hd := dec_byt s i
  have hrn : rn s i = (Lib.decodeN (s.size - i) (byt s i) (byt s (i + 1)) (byt s (i + 2)) (byt s (i + 3))).1 := by rw [← hd]
  have hwd : wd s i = (Lib.decodeN (s.size - i) (byt s i) (byt s (i + 1)) (byt s (i + 2)) (byt s (i + 3))).2 := by rw [← hd]
  unfold Bad
  rw [hrn, hwd]
  refine ⟨by omega, ?_⟩
  unfold Lib.decodeN
  repeat' split
  all_goals
    refine ⟨fun h => ?_, fun h => ?_⟩
    all_goals first | (exfalso; omega) | exact ⟨rfl, rfl⟩ | (refine ⟨?_, rfl⟩; simp only; omega)
end Go.Proofs.YtbhbmoppipohjaaGreatDoor

/-
  The document's Rune at a first byte of a rune of 2 bytes: proved is that it answers what the model decodes.
-/
namespace Go.Proofs.YtbhbmoppipohjaaGreatDoor
open Go Go.RowKit

set_option maxRecDepth 100000 in
set_option maxHeartbeats 4000000 in
theorem rune2 (s : ByteArray) (i : Nat) (w : World) (hs : s.size ≤ 4503599627370496) (hi : i < s.size) (h1 : 194 ≤ (s[i].toNat : Int)) (h2 : (s[i].toNat : Int) < 224) :
    Calls Tryz.prog 137 #[.string s, .int .i64 i] w fun e w' => e = .returned (.tuple #[.int .i64 (rn s i), .int .i64 (wd s i), .bool (!badB s i)]) ∧ w = w' := by
  have hb : s[i].toNat = byt s i := byt_at s i hi
  have HB := Lib.hid hb; clear hb
  have g1 : 194 ≤ byt s i := by have := HB.out; omega
  have g2 : byt s i < 224 := by have := HB.out; omega
  go_enter Tryz.func137, Tryz.ntmps137
  go_wp2
  go_loop [10, 11] (fun v x => ∃ (k : Nat) (V : Int), 1 ≤ k ∧ k ≤ 2 ∧ x = .int .i64 k ∧ v = .int .i64 V ∧ 0 ≤ V ∧ V < 16777216 ∧ (k < 4 → V < 262144) ∧ (k < 3 → V < 4096) ∧ (k < 2 → V < 64) ∧ RR s i k ((byt s i : Int) - 192) V) (fun _ x => 2 - (intOf x).toNat)
  case atStart => exact ⟨1, (s[i].toNat : Int) - 192, by omega, by omega, rfl, rfl, by omega, by omega, by omega, by omega, by omega, fun j _ _ => by omega, by rw [HB.out]; rfl⟩
  case round =>
    obtain ⟨k, V, hk1, hk2, rfl, rfl, hV0, hV1, hV2, hV3, hV4, hrr⟩ := hrel
    by_cases hlt : k < 2
    · have hV5 : V < 262144 := hV2 (by omega)
      by_cases hin : i + k < s.size
      · have HK := Lib.hid (byt_at s (i + k) hin)
        go_wp2
        all_goals first
          | (go_ret3
             exact ⟨ret_bad (bad2 s i k hi g1 g2 hk1 hlt hrr.conts (by unfold Fails; rw [← HK.out]; omega)), rfl⟩)
          | (go_round
             case rel => exact ⟨k + 1, _, by omega, by omega, by go_num, rfl, by omega, by omega, by omega, by omega, by omega, hrr.conts.succ hin (by rw [← HK.out]; omega) (by rw [← HK.out]; omega), by rw [val_succ s i _ k hk1, ← hrr.eq, HK.out]⟩
             case measure => simp [intOf]; omega)
      · go_wp2
        go_ret3
        exact ⟨ret_bad (bad2 s i k hi g1 g2 hk1 hlt hrr.conts (by unfold Fails; omega)), rfl⟩
    · obtain rfl : k = 2 := by omega
      have he := end2 s i V hi g1 g2 hrr
      have HE := Lib.hid he; clear he
      go_wp2
      all_goals go_ret3
      all_goals first | exact ⟨ret_bad (HE.out.2.1 (by omega)), rfl⟩ | exact ⟨ret_good (n := 2) (HE.out.2.2 (by omega)) (by omega), rfl⟩
end Go.Proofs.YtbhbmoppipohjaaGreatDoor

/-
  The document's Rune at a first byte of a rune of 3 bytes: proved is that it answers what the model decodes.
-/
namespace Go.Proofs.YtbhbmoppipohjaaGreatDoor
open Go Go.RowKit

set_option maxRecDepth 100000 in
set_option maxHeartbeats 4000000 in
theorem rune3 (s : ByteArray) (i : Nat) (w : World) (hs : s.size ≤ 4503599627370496) (hi : i < s.size) (h1 : 224 ≤ (s[i].toNat : Int)) (h2 : (s[i].toNat : Int) < 240) :
    Calls Tryz.prog 137 #[.string s, .int .i64 i] w fun e w' => e = .returned (.tuple #[.int .i64 (rn s i), .int .i64 (wd s i), .bool (!badB s i)]) ∧ w = w' := by
  have hb : s[i].toNat = byt s i := byt_at s i hi
  have HB := Lib.hid hb; clear hb
  have g1 : 224 ≤ byt s i := by have := HB.out; omega
  have g2 : byt s i < 240 := by have := HB.out; omega
  go_enter Tryz.func137, Tryz.ntmps137
  go_wp2
  go_loop [10, 11] (fun v x => ∃ (k : Nat) (V : Int), 1 ≤ k ∧ k ≤ 3 ∧ x = .int .i64 k ∧ v = .int .i64 V ∧ 0 ≤ V ∧ V < 16777216 ∧ (k < 4 → V < 262144) ∧ (k < 3 → V < 4096) ∧ (k < 2 → V < 64) ∧ RR s i k ((byt s i : Int) - 224) V) (fun _ x => 3 - (intOf x).toNat)
  case atStart => exact ⟨1, (s[i].toNat : Int) - 224, by omega, by omega, rfl, rfl, by omega, by omega, by omega, by omega, by omega, fun j _ _ => by omega, by rw [HB.out]; rfl⟩
  case round =>
    obtain ⟨k, V, hk1, hk2, rfl, rfl, hV0, hV1, hV2, hV3, hV4, hrr⟩ := hrel
    by_cases hlt : k < 3
    · have hV5 : V < 262144 := hV2 (by omega)
      by_cases hin : i + k < s.size
      · have HK := Lib.hid (byt_at s (i + k) hin)
        go_wp2
        all_goals first
          | (go_ret3
             exact ⟨ret_bad (bad3 s i k hi g1 g2 hk1 hlt hrr.conts (by unfold Fails; rw [← HK.out]; omega)), rfl⟩)
          | (go_round
             case rel => exact ⟨k + 1, _, by omega, by omega, by go_num, rfl, by omega, by omega, by omega, by omega, by omega, hrr.conts.succ hin (by rw [← HK.out]; omega) (by rw [← HK.out]; omega), by rw [val_succ s i _ k hk1, ← hrr.eq, HK.out]⟩
             case measure => simp [intOf]; omega)
      · go_wp2
        go_ret3
        exact ⟨ret_bad (bad3 s i k hi g1 g2 hk1 hlt hrr.conts (by unfold Fails; omega)), rfl⟩
    · obtain rfl : k = 3 := by omega
      have he := end3 s i V hi g1 g2 hrr
      have HE := Lib.hid he; clear he
      go_wp2
      all_goals go_ret3
      all_goals first | exact ⟨ret_bad (HE.out.2.1 (by omega)), rfl⟩ | exact ⟨ret_good (n := 3) (HE.out.2.2 (by omega)) (by omega), rfl⟩
end Go.Proofs.YtbhbmoppipohjaaGreatDoor

/-
  The document's Rune at a first byte of a rune of 4 bytes: proved is that it answers what the model decodes.
-/
namespace Go.Proofs.YtbhbmoppipohjaaGreatDoor
open Go Go.RowKit

set_option maxRecDepth 100000 in
set_option maxHeartbeats 4000000 in
theorem rune4 (s : ByteArray) (i : Nat) (w : World) (hs : s.size ≤ 4503599627370496) (hi : i < s.size) (h1 : 240 ≤ (s[i].toNat : Int)) (h2 : (s[i].toNat : Int) < 245) :
    Calls Tryz.prog 137 #[.string s, .int .i64 i] w fun e w' => e = .returned (.tuple #[.int .i64 (rn s i), .int .i64 (wd s i), .bool (!badB s i)]) ∧ w = w' := by
  have hb : s[i].toNat = byt s i := byt_at s i hi
  have HB := Lib.hid hb; clear hb
  have g1 : 240 ≤ byt s i := by have := HB.out; omega
  have g2 : byt s i < 245 := by have := HB.out; omega
  go_enter Tryz.func137, Tryz.ntmps137
  go_wp2
  go_loop [10, 11] (fun v x => ∃ (k : Nat) (V : Int), 1 ≤ k ∧ k ≤ 4 ∧ x = .int .i64 k ∧ v = .int .i64 V ∧ 0 ≤ V ∧ V < 16777216 ∧ (k < 4 → V < 262144) ∧ (k < 3 → V < 4096) ∧ (k < 2 → V < 64) ∧ RR s i k ((byt s i : Int) - 240) V) (fun _ x => 4 - (intOf x).toNat)
  case atStart => exact ⟨1, (s[i].toNat : Int) - 240, by omega, by omega, rfl, rfl, by omega, by omega, by omega, by omega, by omega, fun j _ _ => by omega, by rw [HB.out]; rfl⟩
  case round =>
    obtain ⟨k, V, hk1, hk2, rfl, rfl, hV0, hV1, hV2, hV3, hV4, hrr⟩ := hrel
    by_cases hlt : k < 4
    · have hV5 : V < 262144 := hV2 (by omega)
      by_cases hin : i + k < s.size
      · have HK := Lib.hid (byt_at s (i + k) hin)
        go_wp2
        all_goals first
          | (go_ret3
             exact ⟨ret_bad (bad4 s i k hi g1 g2 hk1 hlt hrr.conts (by unfold Fails; rw [← HK.out]; omega)), rfl⟩)
          | (go_round
             case rel => exact ⟨k + 1, _, by omega, by omega, by go_num, rfl, by omega, by omega, by omega, by omega, by omega, hrr.conts.succ hin (by rw [← HK.out]; omega) (by rw [← HK.out]; omega), by rw [val_succ s i _ k hk1, ← hrr.eq, HK.out]⟩
             case measure => simp [intOf]; omega)
      · go_wp2
        go_ret3
        exact ⟨ret_bad (bad4 s i k hi g1 g2 hk1 hlt hrr.conts (by unfold Fails; omega)), rfl⟩
    · obtain rfl : k = 4 := by omega
      have he := end4 s i V hi g1 g2 hrr
      have HE := Lib.hid he; clear he
      go_wp2
      all_goals go_ret3
      all_goals first | exact ⟨ret_bad (HE.out.2.1 (by omega)), rfl⟩ | exact ⟨ret_good (n := 4) (HE.out.2.2 (by omega)) (by omega), rfl⟩
end Go.Proofs.YtbhbmoppipohjaaGreatDoor

/-
  The contracts of the document's Rune, Check and At: proved is what each answers at every text and byte.
  Condition: the text has at most 2^52 bytes; Rune's byte lies within the text.
-/
namespace Go.Proofs.YtbhbmoppipohjaaGreatDoor
open Go Go.RowKit

theorem one_byte (s : ByteArray) (i : Nat) (h : byt s i < 128) : rn s i = byt s i ∧ wd s i = 1 := by
  refine decN_pair ?_
  unfold Lib.decodeN
  rw [if_pos h]
theorem no_byte (s : ByteArray) (i : Nat) (h : 128 ≤ byt s i) (h2 : byt s i < 194 ∨ 245 ≤ byt s i) : Bad s i := by
  refine decN_pair ?_
  have b0 := byt_lt s i
  have b1 := byt_lt s (i + 1)
  have b2 := byt_lt s (i + 2)
  have b3 := byt_lt s (i + 3)
  unfold Lib.decodeN
  repeat' split
  all_goals first | rfl | (exfalso; omega)

set_option maxRecDepth 100000 in
set_option maxHeartbeats 4000000 in
theorem rune1 (s : ByteArray) (i : Nat) (w : World) (_hs : s.size ≤ 4503599627370496) (hi : i < s.size) (h1 : (s[i].toNat : Int) < 128) :
    Calls Tryz.prog 137 #[.string s, .int .i64 i] w fun e w' => e = .returned (.tuple #[.int .i64 (rn s i), .int .i64 (wd s i), .bool (!badB s i)]) ∧ w = w' := by
  have HB := Lib.hid (byt_at s i hi)
  go_enter Tryz.func137, Tryz.ntmps137
  go_wp2
  go_ret3
  have hb := HB.out
  have h2 := one_byte s i (by omega)
  refine ⟨?_, rfl⟩
  rw [h2.1, h2.2, hb]
  have : badB s i = false := by
    have : ¬ rn s i = 65533 := by omega
    simp [badB, this]
  rw [this]
  rfl

set_option maxRecDepth 100000 in
set_option maxHeartbeats 4000000 in
theorem runeX (s : ByteArray) (i : Nat) (w : World) (_hs : s.size ≤ 4503599627370496) (hi : i < s.size) (h1 : 128 ≤ (s[i].toNat : Int)) (h2 : (s[i].toNat : Int) < 194 ∨ 245 ≤ (s[i].toNat : Int)) :
    Calls Tryz.prog 137 #[.string s, .int .i64 i] w fun e w' => e = .returned (.tuple #[.int .i64 (rn s i), .int .i64 (wd s i), .bool (!badB s i)]) ∧ w = w' := by
  have hbad : Bad s i := by have hb := byt_at s i hi; exact no_byte s i (by omega) (by omega)
  have HB := Lib.hid hbad; clear hbad
  rcases h2 with h2 | h2
  · go_enter Tryz.func137, Tryz.ntmps137
    go_wp2
    go_ret3
    exact ⟨ret_bad HB.out, rfl⟩
  · have h3 : 194 ≤ (s[i].toNat : Int) := by omega
    have h6 : (s[i].toNat : Int) < 256 := by have := UInt8.toNat_lt s[i]; omega
    have h4 : 224 ≤ (s[i].toNat : Int) := by omega
    have h5 : 240 ≤ (s[i].toNat : Int) := by omega
    go_enter Tryz.func137, Tryz.ntmps137
    go_wp2
    go_ret3
    exact ⟨ret_bad HB.out, rfl⟩

theorem rune_any (s : ByteArray) (i : Nat) (w : World) (hs : s.size ≤ 4503599627370496) (hi : i < s.size) :
    Calls Tryz.prog 137 #[.string s, .int .i64 i] w fun e w' => e = .returned (.tuple #[.int .i64 (rn s i), .int .i64 (wd s i), .bool (!badB s i)]) ∧ w = w' := by
  by_cases h1 : (s[i].toNat : Int) < 128
  · exact rune1 s i w hs hi h1
  by_cases h2 : (s[i].toNat : Int) < 194 ∨ 245 ≤ (s[i].toNat : Int)
  · exact runeX s i w hs hi (by omega) h2
  by_cases h3 : (s[i].toNat : Int) < 224
  · exact rune2 s i w hs hi (by omega) h3
  by_cases h4 : (s[i].toNat : Int) < 240
  · exact rune3 s i w hs hi (by omega) h4
  · exact rune4 s i w hs hi (by omega) (by omega)
end Go.Proofs.YtbhbmoppipohjaaGreatDoor
