/-
  gnomonref5.Digits of a number that isn't below 0: proved is that it answers the number's digits.
-/
import Derived.Test.YtifgmkenfmmelaaDoorNumA
import Derived.Test.YtifgmkenfmmelaaDoorLexN
import Derived.Laws.IdiomStrings
namespace Go.Proofs.YtifgmkenfmmelaaDoor
open Go Go.RowKit

theorem cat_list (a b : List UInt8) : ((⟨⟨a⟩⟩ : ByteArray) ++ ⟨⟨b⟩⟩) = ⟨⟨a ++ b⟩⟩ := by
  apply ByteArray.ext
  rw [ByteArray.data_append]
  simp

theorem conv_one (w : World) (n : Nat) (hn : n < 256) : (convert 56 9 (.slice (some ⟨w.heap.size, 0, none⟩) 1 1)).run Tryd.prog (w.alloc (.cells #[.int .u8 (n : Nat)] 5)) = .ok (.string ⟨⟨[UInt8.ofNat n]⟩⟩) (w.alloc (.cells #[.int .u8 (n : Nat)] 5)) := by
  exact run_convert_bytes_back (P := Tryd.prog) (w.alloc (.cells #[.int .u8 (n : Nat)] 5)) 56 9 5 ⟨w.heap.size, 0, none⟩ 1 [UInt8.ofNat n] Tryd.underlying56 Tryd.underlying5 Tryd.underlying9 (fun j hj => by
    have hj0 : j = 0 := by simpa using hj
    subst hj0
    have h := (Blk.new w #[.int .u8 (n : Nat)] 5).cell 0
    simp only [Addr.add, List.getElem_cons_zero]
    rw [show (UInt8.ofNat n).toNat = n by rw [UInt8.toNat_ofNat']; omega]
    exact h)

set_option maxRecDepth 100000 in
set_option maxHeartbeats 4000000 in
theorem digits5_any (n : Nat) (w : World) (hn : n ≤ 9223372036854775807) :
    Calls Tryd.prog 16 #[.int .i64 n] w fun e w' => e = .returned (.string ⟨⟨digs n⟩⟩) ∧ Below w.heap.size w w' := by
  have hm : ¬ (n : Int) < 0 := by omega
  go_enter Tryd.func16, Tryd.ntmps16
  go_wp2
  go_loopw [0, 3] (fun x y wr => ∃ (m : Nat) (acc : List UInt8), x = .int .i64 m ∧ y = .string ⟨⟨acc⟩⟩ ∧ digs m ++ acc = digs n ∧ m ≤ n ∧ Below w.heap.size w wr) (fun x _ _ => (intOf x).toNat)
  case atStart => exact ⟨n, [], rfl, rfl, by simp, by omega, Below.refl _ _⟩
  case round =>
    obtain ⟨m, acc, rfl, rfl, hd, hmn, hb⟩ := hrel
    have hal : acc.length ≤ 19 := by
      have h1 := (digs_len 18 n (by omega)).2
      rw [← hd, List.length_append] at h1
      omega
    have HD := Lib.hid hd; clear hd
    have hcv := conv_one wr (48 + m % 10) (by omega)
    have hby : ((48 + m % 10 : Nat) : Int) = 48 + (m : Int) % 10 := by omega
    rw [hby] at hcv
    clear hby
    obtain ⟨c, hc⟩ : ∃ c, UInt8.ofNat (48 + m % 10) = c := ⟨_, rfl⟩
    rw [hc] at hcv
    have HC := Lib.hid hc; clear hc
    by_cases h10 : m < 10
    · have hq : (m : Int) / 10 = 0 := by omega
      have HR := Lib.hid (show c :: acc = digs n by rw [← HD.out, digs_lt h10, ← HC.out, Nat.mod_eq_of_lt h10]; rfl)
      go_wp2
      go_ret
      rw [cat_list]
      exact ⟨by rw [← HR.out]; rfl, hb.alloc hb.size _⟩
    · have hq : ((m : Int) / 10 == 0) = false := by rw [beq_eq_false_iff_ne]; omega
      have HR := Lib.hid (show digs (m / 10) ++ c :: acc = digs n by rw [← HD.out, digs_ge h10, ← HC.out, List.append_assoc]; rfl)
      go_wp2
      go_roundw
      case rel => exact ⟨m / 10, c :: acc, by go_num, by rw [cat_list]; rfl, HR.out, by omega, hb.alloc hb.size _⟩
      case measure => simp [intOf]; omega
end Go.Proofs.YtifgmkenfmmelaaDoor
