/-
  The contract of text.Check: proved is that it answers 'chkAll s' for every text, and turns nothing that lay.
  Condition: Go's tables of package unicode/utf8 hold what its text lays.
-/
import Derived.Test.YtifgmkenfmmelaaDoorShelf
import Derived.Test.YtifgmkenfmmelaaDoorTextM
import Derived.Test.YtifgmkenfmmelaaDoorClass
import Derived.Lib.OthersKept
import Derived.WalkSmall
namespace Go.Proofs.YtifgmkenfmmelaaDoor
open Go Go.RowKit

def cdB (s : ByteArray) : Bool := decide (1 < (Lib.decodeGo s).2)
theorem coded_any (s : ByteArray) (w : World) (hT : Lib.Utf8Tabs 0 1 w) : Calls Tryd.prog 31 #[.string s] w fun e w' => e = .returned (.bool (cdB s)) ∧ Below w.heap.size w w' := by
  go_enter Tryd.func31, Tryd.ntmps31
  go_wp2_with (go_at_call 47; refine (Tryd.utf8_DecodeRuneInString _ _ hT).mono ?_; rintro e w' ⟨rfl, hb⟩)
  go_ret
  exact ⟨ret_bool (by unfold cdB; rw [decide_eq_decide]; omega), hb⟩

theorem cd_bad (s : ByteArray) (pos : Nat) (h : pos < s.size) (hr : ((rn s pos : Int) == 65533) = true) : badB s pos = !cdB (s.extract pos s.size) := by
  have hd := dec_facts s pos h
  unfold cdB badB
  rw [decode_from s pos h]
  have : rn s pos = 65533 := by have := beq_iff_eq.1 hr; omega
  show (rn s pos == 65533 && wd s pos == 1) = !decide (1 < wd s pos)
  rw [this]
  by_cases e : wd s pos = 1
  · simp [e]
  · have : 1 < wd s pos := by omega
    simp [e, this]
theorem notbad (s : ByteArray) (pos : Nat) (hr : ((rn s pos : Int) == 65533) = false) : badB s pos = false := by
  have : ¬ rn s pos = 65533 := by
    intro e
    rw [e] at hr
    exact absurd hr (by decide)
  simp [badB, this]
set_option maxHeartbeats 2000000 in
theorem check_any (s : ByteArray) (w : World) (hs : s.size ≤ maxLen) (hT : Lib.Utf8Tabs 0 1 w) :
    Calls Tryd.prog 17 #[.string s] w fun e w' => e = .returned (.tuple #[.int .i64 (chkAll s).1, .int .i64 (chkAll s).2]) ∧ Below w.heap.size w w' := by
  unfold maxLen at hs
  by_cases hl : 65536 < s.size
  · have hc : chkAll s = (0, 10) := by unfold chkAll; rw [if_pos hl]
    rw [hc]
    clear hc
    go_enter Tryd.func17, Tryd.ntmps17
    go_wp2
    go_ret2
    exact ⟨rfl, Below.refl _ _⟩
  · rw [chkAll_of s hl]
    go_enter Tryd.func17, Tryd.ntmps17
    go_wp2
    go_loopw [4] (fun _ wr => ∃ pos b : Nat, wr.heap[w.heap.size]? = some (.stringIter s pos) ∧ Below w.heap.size w wr ∧ ChkRel s pos b) (fun _ wr => s.size - wr.iterPos w.heap.size)
    case atStart => exact ⟨0, s.size, World.iter_heap w s 0, (Below.refl _ _).alloc (Nat.le_refl _) _, rfl, by omega⟩
    case round =>
      obtain ⟨pos, b, hit, hB, hrel⟩ := hrel
      have HR := Lib.hid hrel; clear hrel
      have HI := Lib.hid hit
      by_cases hp : pos < s.size
      · have hnx : ∀ ty, (Instr.next (.pointer (some ⟨w.heap.size, 0, none⟩)) true ty).run Tryd.prog wr = .ok (.tuple #[.bool true, .int .i64 pos, .int .i32 (rn s pos)]) (wr.iterAt w.heap.size s (pos + wd s pos)) := fun ty => Lib.run_next_any_at wr w.heap.size s pos ty hit hp
        have hd := dec_facts s pos hp
        have HN := Lib.hid (Lib.iterAt_heap wr w.heap.size s pos (pos + wd s pos) hit)
        have hB1 := Lib.below_iterAt hB (Nat.le_refl _) s (pos + wd s pos)
        have hB2 := hB1.size
        have hz : w.heap.size < (wr.iterAt w.heap.size s (pos + wd s pos)).heap.size := by rw [Lib.iterAt_size]; exact (Array.getElem?_eq_some_iff.1 hit).1
        clear hit
        have stepOk : badB s pos = false → ∃ b', ChkRel s (pos + wd s pos) b' := fun hb => by
          obtain ⟨h1, h2⟩ := HR.out
          cases b with
          | zero => omega
          | succ b => exact ⟨b, by rw [← h1, chk_step s b pos hp hb], by omega⟩
        have HS := Lib.hid stepOk; clear stepOk
        have stepBad : badB s pos = true → chk s s.size 0 = ((pos : Int), 11) := fun hb => by
          obtain ⟨h1, h2⟩ := HR.out
          cases b with
          | zero => omega
          | succ b => rw [← h1, chk_bad s b pos hp hb]
        have HX := Lib.hid stepBad; clear stepBad
        cases hr : ((rn s pos : Int) == 65533) with
        | false =>
          have hq := Lib.hid (HS.out (notbad s pos hr))
          have hi : (wr.iterAt w.heap.size s (pos + wd s pos)).iterPos w.heap.size = pos + wd s pos := iterPos_of HN.out
          have hj : wr.iterPos w.heap.size = pos := iterPos_of HI.out
          have HI1 := Lib.hid hi; have HJ1 := Lib.hid hj; clear hi hj
          go_wp2
          go_roundw
          case rel => obtain ⟨b', hb'⟩ := hq.out; exact ⟨pos + wd s pos, b', HN.out, hB1, hb'⟩
          case measure => rw [HI1.out, HJ1.out]; omega
        | true =>
          have hcd := cd_bad s pos hp hr
          have hle : pos ≤ s.size := by omega
          have hTw := Utf8Tabs_below hT hB1
          cases hc : cdB (s.extract pos s.size) with
          | true =>
            rw [hc] at hcd
            have hq := Lib.hid (HS.out hcd); clear hcd
            have HJ1 := Lib.hid (show wr.iterPos w.heap.size = pos from iterPos_of HI.out)
            go_wp2_with (go_at_call 31; refine (coded_any _ _ hTw).mono ?_; rintro e w' ⟨rfl, hbw⟩)
            go_roundw
            case rel => obtain ⟨b', hb'⟩ := hq.out; exact ⟨pos + wd s pos, b', (hbw.block _ hz).trans HN.out, hB1.trans (hbw.mono hB2), hb'⟩
            case measure => rw [iterPos_of ((hbw.block _ hz).trans HN.out), HJ1.out]; omega
          | false =>
            rw [hc] at hcd
            have hq := Lib.hid (HX.out hcd); clear hcd
            go_wp2_with (go_at_call 31; refine (coded_any _ _ hTw).mono ?_; rintro e w' ⟨rfl, hbw⟩)
            go_ret2
            rw [hq.out]
            exact ⟨rfl, hB1.trans (hbw.mono hB2)⟩
      · have hnx : ∀ ty, (Instr.next (.pointer (some ⟨w.heap.size, 0, none⟩)) true ty).run Tryd.prog wr = _ := fun ty => Lib.run_next_end_at wr w.heap.size s pos ty hit hp
        clear hit
        go_wp2
        go_ret2
        obtain ⟨h1, _⟩ := HR.out
        rw [chk_end s b pos hp] at h1
        rw [← h1]
        exact ⟨rfl, hB⟩
end Go.Proofs.YtifgmkenfmmelaaDoor
