/-
  The document's Rune at a first byte of a rune of 2 bytes: proved is that it answers what the model decodes.
-/
import Derived.Test.YtbchibmmkmldiaaGreatDoorRune
namespace Go.Proofs.YtbchibmmkmldiaaGreatDoor
open Go Go.RowKit

set_option maxRecDepth 100000 in
set_option maxHeartbeats 4000000 in
theorem rune2 (s : ByteArray) (i : Nat) (w : World) (hs : s.size ≤ 4503599627370496) (hi : i < s.size) (h1 : 194 ≤ (s[i].toNat : Int)) (h2 : (s[i].toNat : Int) < 224) :
    Calls Tryz.prog 77 #[.string s, .int .i64 i] w fun e w' => e = .returned (.tuple #[.int .i64 (rn s i), .int .i64 (wd s i), .bool (!badB s i)]) ∧ w = w' := by
  have hb : s[i].toNat = byt s i := byt_at s i hi
  have HB := Lib.hid hb; clear hb
  have g1 : 194 ≤ byt s i := by have := HB.out; omega
  have g2 : byt s i < 224 := by have := HB.out; omega
  go_enter Tryz.func77, Tryz.ntmps77
  go_wp2
  go_loop [10, 11] (fun v x => ∃ (k : Nat) (V : Int), 1 ≤ k ∧ k ≤ 2 ∧ x = .int .i64 k ∧ v = .int .i64 V ∧ 0 ≤ V ∧ V < 16777216 ∧ (k < 4 → V < 262144) ∧ (k < 3 → V < 4096) ∧ (k < 2 → V < 64) ∧ RR s i k ((byt s i : Int) - 192) V) (fun _ x => 2 - (intOf x).toNat)
  case atStart => exact ⟨1, (s[i].toNat : Int) - 192, by omega, by omega, rfl, rfl, by omega, by omega, by omega, by omega, by omega, fun j _ _ => by omega, by rw [HB.out]; rfl⟩
  case round =>
    obtain ⟨k, V, hk1, hk2, rfl, rfl, hV0, hV1, hV2, hV3, hV4, hrr⟩ := hrel
    by_cases hlt : k < 2
    · have hV5 : V < 262144 := hV2 (by omega)
      by_cases hin : i + k < s.size
      · have HK := Lib.hid (byt_at s (i + k) hin)
        go_wp2
        all_goals first
          | (go_ret3
             exact ⟨ret_bad (bad2 s i k hi g1 g2 hk1 hlt hrr.conts (by unfold Fails; rw [← HK.out]; omega)), rfl⟩)
          | (go_round
             case rel => exact ⟨k + 1, _, by omega, by omega, by go_num, rfl, by omega, by omega, by omega, by omega, by omega, hrr.conts.succ hin (by rw [← HK.out]; omega) (by rw [← HK.out]; omega), by rw [val_succ s i _ k hk1, ← hrr.eq, HK.out]⟩
             case measure => simp [intOf]; omega)
      · go_wp2
        go_ret3
        exact ⟨ret_bad (bad2 s i k hi g1 g2 hk1 hlt hrr.conts (by unfold Fails; omega)), rfl⟩
    · obtain rfl : k = 2 := by omega
      have he := end2 s i V hi g1 g2 hrr
      have HE := Lib.hid he; clear he
      go_wp2
      all_goals go_ret3
      all_goals first | exact ⟨ret_bad (HE.out.2.1 (by omega)), rfl⟩ | exact ⟨ret_good (n := 2) (HE.out.2.2 (by omega)) (by omega), rfl⟩
end Go.Proofs.YtbchibmmkmldiaaGreatDoor
