/-
  The document's text of a number (gnomonref5's Digits): proved is that it is the project's.
-/
import Derived.Test.YtbchibmmkmldiaaGreatDoorPrintF
namespace Go.Proofs.YtbchibmmkmldiaaGreatDoor
open Go Go.RowKit Go.Shelf

set_option maxRecDepth 100000 in
set_option maxHeartbeats 4000000 in
theorem rdig_any (n : Int) (h0 : 0 ≤ n) (h1 : n ≤ 9223372036854775807) (w : World) :
    Calls Tryz.prog 14 #[.int .i64 n] w (fun e w' => e = .returned (.string ⟨(Lib.itoa n).toArray⟩) ∧ Below w.heap.size w w') := by
  obtain ⟨u, rfl⟩ : ∃ u : Nat, n = (u : Int) := ⟨n.toNat, by omega⟩
  obtain ⟨POST, hPOST⟩ : ∃ p, Lib.itoa (u : Int) = p := ⟨_, rfl⟩
  rw [hPOST]
  have hp : Lib.decDigits u = POST := by rw [← hPOST]; unfold Lib.itoa; rw [if_neg (by omega)]; simp
  have hpl : POST.length ≤ 24 := by rw [← hPOST]; exact itoa_len (by unfold i64ok; simp [Lit.wf]; exact ⟨by show (-9223372036854775808 : Int) ≤ _; omega, by show _ ≤ (9223372036854775807 : Int); omega⟩)
  have HP := Lib.hid hp; clear hp hPOST
  have hlt : decide ((u : Int) < 0) = false := by simp
  go_enter Tryz.func14, Tryz.ntmps14
  go_wp2_with fail
  go_loopw [0, 3] (fun x y wr => ∃ (m : Nat) (s : List UInt8), x = .int .i64 m ∧ y = .string ⟨s.toArray⟩ ∧ m ≤ u ∧ Lib.decDigits m ++ s = POST ∧ Below w.heap.size w wr) (fun x _ _ => (intOf x).toNat)
  case atStart => exact ⟨u, [], rfl, rfl, Nat.le_refl _, by rw [List.append_nil]; exact HP.out, Below.refl _ _⟩
  case round =>
    obtain ⟨m, s, rfl, rfl, hm, hP, hB⟩ := hrel
    have hr0 : (0 : Int) ≤ (m : Int) % 10 := by omega
    have hr1 : (m : Int) % 10 ≤ 9 := by omega
    have hsl : 1 + s.length ≤ 9223372036854775807 := by have := congrArg List.length hP; rw [List.length_append] at this; omega
    have HPP := Lib.hid hP; clear hP HP
    have HB := Lib.hid hB; clear hB
    obtain ⟨c, hc⟩ : ∃ c : UInt8, (c.toNat : Int) = 48 + (m : Int) % 10 := ⟨UInt8.ofNat (48 + m % 10), by rw [UInt8.toNat_ofNat']; omega⟩
    have hcn : c = UInt8.ofNat (48 + m % 10) := by
      apply UInt8.toNat_inj.1
      rw [UInt8.toNat_ofNat']
      omega
    have hcv : (convert 39 9 (.slice (some ⟨wr.heap.size, 0, none⟩) 1 1)).run Tryz.prog (wr.alloc (.cells #[.int .u8 (48 + (m : Int) % 10)] 5)) = .ok (.string ⟨[c].toArray⟩) (wr.alloc (.cells #[.int .u8 (48 + (m : Int) % 10)] 5)) := by
      refine run_convert_bytes_back (wr.alloc (.cells #[.int .u8 (48 + (m : Int) % 10)] 5)) 39 9 5 ⟨wr.heap.size, 0, none⟩ 1 [c] Tryz.underlying39 (by kernel_rfl) Tryz.underlying9 ?_
      intro j hj
      obtain rfl : j = 0 := by simpa using hj
      rw [← hc, add_none]
      exact (Blk.new wr _ _).cell 0
    have HC := Lib.hid hcn; clear hcn hc
    by_cases h10 : m < 10
    · have hq : ((m : Int) / 10 == 0) = true := by simp; omega
      have hfin : (⟨[c].toArray⟩ : ByteArray) ++ ⟨s.toArray⟩ = ⟨POST.toArray⟩ := by
        have h := HPP.out
        rw [Lib.decDigits, dif_pos h10] at h
        rw [← h, HC.out, show m % 10 = m by omega]
        apply ByteArray.ext
        rw [ByteArray.data_append]
        simp
      have HF := Lib.hid hfin; clear hfin HPP HC h10
      go_wp2_with fail
      go_ret
      exact ⟨by rw [← HF.out]; rfl, HB.out.alloc HB.out.size _⟩
    · have hq : ((m : Int) / 10 == 0) = false := by simp; omega
      have hfin : (⟨[c].toArray⟩ : ByteArray) ++ ⟨s.toArray⟩ = ⟨(c :: s).toArray⟩ := by
        apply ByteArray.ext
        rw [ByteArray.data_append]
        simp
      have hnx : Lib.decDigits (m / 10) ++ (c :: s) = POST := by
        have h := HPP.out
        rw [Lib.decDigits, dif_neg h10] at h
        rw [← h, HC.out]
        simp
      have HF := Lib.hid hfin; clear hfin
      have HN := Lib.hid hnx; clear hnx HPP HC
      have hm0 : m / 10 < m := by omega
      go_wp2_with fail
      go_roundw
      case rel => exact ⟨m / 10, c :: s, by go_num, by rw [← HF.out], by omega, HN.out, HB.out.alloc HB.out.size _⟩
      case measure => simp [intOf]; omega
end Go.Proofs.YtbchibmmkmldiaaGreatDoor
