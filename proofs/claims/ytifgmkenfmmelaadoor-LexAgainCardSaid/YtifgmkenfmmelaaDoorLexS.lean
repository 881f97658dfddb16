/-
  Walks of package lex's scanners: proved is what span answers (for the two kinds that are asked), and parting, at every text.
-/
import Derived.Test.YtifgmkenfmmelaaDoorLexM
namespace Go.Proofs.YtifgmkenfmmelaaDoor
open Go Go.RowKit

/-- What is left of a scan from byte pos on. -/
def SpRel (told : Int → Bool) (s : ByteArray) (pos b : Nat) : Prop := spE told s b pos = spE told s s.size 0 ∧ s.size ≤ pos + b ∧ pos ≤ s.size

set_option maxHeartbeats 2000000 in
theorem span_name (s : ByteArray) (w : World) (hs : s.size ≤ maxLen) :
    Calls Tryd.prog 56 #[.string s, .func (.func 27) #[] #[]] w fun e w' => e = .returned (.int .i64 (spE inNm s s.size 0 : Nat)) ∧ Below w.heap.size w w' := by
  unfold maxLen at hs
  go_enter Tryd.func56, Tryd.ntmps56
  go_wp2
  go_loopw [5] (fun _ wr => ∃ pos b : Nat, wr.heap[w.heap.size]? = some (.stringIter s pos) ∧ Below w.heap.size w wr ∧ SpRel inNm s pos b) (fun _ wr => s.size - wr.iterPos w.heap.size)
  case atStart => exact ⟨0, s.size, World.iter_heap w s 0, (Below.refl _ _).alloc (Nat.le_refl _) _, rfl, by omega, by omega⟩
  case round =>
    obtain ⟨pos, b, hit, hB, hrel⟩ := hrel
    have HR := Lib.hid hrel; clear hrel
    have HI := Lib.hid hit
    by_cases hp : pos < s.size
    · have hnx : ∀ ty, (Instr.next (.pointer (some ⟨w.heap.size, 0, none⟩)) true ty).run Tryd.prog wr = .ok (.tuple #[.bool true, .int .i64 pos, .int .i32 (rn s pos)]) (wr.iterAt w.heap.size s (pos + wd s pos)) := fun ty => Lib.run_next_any_at wr w.heap.size s pos ty hit hp
      have hd := dec_facts s pos hp
      have HN := Lib.hid (Lib.iterAt_heap wr w.heap.size s pos (pos + wd s pos) hit)
      have hB1 := Lib.below_iterAt hB (Nat.le_refl _) s (pos + wd s pos)
      clear hit
      have HI1 := Lib.hid (show (wr.iterAt w.heap.size s (pos + wd s pos)).iterPos w.heap.size = pos + wd s pos from iterPos_of HN.out)
      have HJ1 := Lib.hid (show wr.iterPos w.heap.size = pos from iterPos_of HI.out)
      cases ht : inNm (rn s pos) with
      | true =>
        have HT := Lib.hid ht; clear ht
        go_wp2_with (go_at_call 27; refine (inName_any _ _).mono ?_; rintro e w' ⟨rfl, rfl⟩; have ht := HT.out)
        go_roundw
        case rel =>
          obtain ⟨h1, h2, h3⟩ := HR.out
          cases b with
          | zero => omega
          | succ b => exact ⟨pos + wd s pos, b, HN.out, hB1, by rw [← h1, spE_go hp HT.out], by omega, by omega⟩
        case measure => rw [HI1.out, HJ1.out]; omega
      | false =>
        have HT := Lib.hid ht; clear ht
        go_wp2_with (go_at_call 27; refine (inName_any _ _).mono ?_; rintro e w' ⟨rfl, rfl⟩; have ht := HT.out)
        go_ret
        obtain ⟨h1, h2, h3⟩ := HR.out
        exact ⟨ret_int (by rw [← h1, spE_stop HT.out]), hB1⟩
    · have hnx : ∀ ty, (Instr.next (.pointer (some ⟨w.heap.size, 0, none⟩)) true ty).run Tryd.prog wr = _ := fun ty => Lib.run_next_end_at wr w.heap.size s pos ty hit hp
      clear hit
      go_wp2
      go_ret
      obtain ⟨h1, h2, h3⟩ := HR.out
      exact ⟨ret_int (by rw [← h1, spE_end hp]; omega), hB⟩

set_option maxHeartbeats 2000000 in
theorem span_digit (s : ByteArray) (w : World) (hs : s.size ≤ maxLen) :
    Calls Tryd.prog 56 #[.string s, .func (.func 44) #[] #[]] w fun e w' => e = .returned (.int .i64 (spE isDig s s.size 0 : Nat)) ∧ Below w.heap.size w w' := by
  unfold maxLen at hs
  go_enter Tryd.func56, Tryd.ntmps56
  go_wp2
  go_loopw [5] (fun _ wr => ∃ pos b : Nat, wr.heap[w.heap.size]? = some (.stringIter s pos) ∧ Below w.heap.size w wr ∧ SpRel isDig s pos b) (fun _ wr => s.size - wr.iterPos w.heap.size)
  case atStart => exact ⟨0, s.size, World.iter_heap w s 0, (Below.refl _ _).alloc (Nat.le_refl _) _, rfl, by omega, by omega⟩
  case round =>
    obtain ⟨pos, b, hit, hB, hrel⟩ := hrel
    have HR := Lib.hid hrel; clear hrel
    have HI := Lib.hid hit
    by_cases hp : pos < s.size
    · have hnx : ∀ ty, (Instr.next (.pointer (some ⟨w.heap.size, 0, none⟩)) true ty).run Tryd.prog wr = .ok (.tuple #[.bool true, .int .i64 pos, .int .i32 (rn s pos)]) (wr.iterAt w.heap.size s (pos + wd s pos)) := fun ty => Lib.run_next_any_at wr w.heap.size s pos ty hit hp
      have hd := dec_facts s pos hp
      have HN := Lib.hid (Lib.iterAt_heap wr w.heap.size s pos (pos + wd s pos) hit)
      have hB1 := Lib.below_iterAt hB (Nat.le_refl _) s (pos + wd s pos)
      clear hit
      have HI1 := Lib.hid (show (wr.iterAt w.heap.size s (pos + wd s pos)).iterPos w.heap.size = pos + wd s pos from iterPos_of HN.out)
      have HJ1 := Lib.hid (show wr.iterPos w.heap.size = pos from iterPos_of HI.out)
      cases ht : isDig (rn s pos) with
      | true =>
        have HT := Lib.hid ht; clear ht
        go_wp2_with (go_at_call 44; refine (isDigit_any _ _).mono ?_; rintro e w' ⟨rfl, rfl⟩; have ht := HT.out)
        go_roundw
        case rel =>
          obtain ⟨h1, h2, h3⟩ := HR.out
          cases b with
          | zero => omega
          | succ b => exact ⟨pos + wd s pos, b, HN.out, hB1, by rw [← h1, spE_go hp HT.out], by omega, by omega⟩
        case measure => rw [HI1.out, HJ1.out]; omega
      | false =>
        have HT := Lib.hid ht; clear ht
        go_wp2_with (go_at_call 44; refine (isDigit_any _ _).mono ?_; rintro e w' ⟨rfl, rfl⟩; have ht := HT.out)
        go_ret
        obtain ⟨h1, h2, h3⟩ := HR.out
        exact ⟨ret_int (by rw [← h1, spE_stop HT.out]), hB1⟩
    · have hnx : ∀ ty, (Instr.next (.pointer (some ⟨w.heap.size, 0, none⟩)) true ty).run Tryd.prog wr = _ := fun ty => Lib.run_next_end_at wr w.heap.size s pos ty hit hp
      clear hit
      go_wp2
      go_ret
      obtain ⟨h1, h2, h3⟩ := HR.out
      exact ⟨ret_int (by rw [← h1, spE_end hp]; omega), hB⟩

def PtRel (s : ByteArray) (pos b : Nat) (c : Bool) : Prop := ptE s b pos c = ptE s s.size 0 false ∧ s.size ≤ pos + b ∧ pos ≤ s.size

set_option maxHeartbeats 4000000 in
theorem parting_any (s : ByteArray) (w : World) (hs : s.size ≤ maxLen) :
    Calls Tryd.prog 36 #[.string s] w fun e w' => e = .returned (.int .i64 (ptE s s.size 0 false : Nat)) ∧ Below w.heap.size w w' := by
  unfold maxLen at hs
  go_enter Tryd.func36, Tryd.ntmps36
  go_wp2
  go_loopw [3, 4] (fun cv _ wr => ∃ (pos b : Nat) (c : Bool), cv = .bool c ∧ wr.heap[w.heap.size]? = some (.stringIter s pos) ∧ Below w.heap.size w wr ∧ PtRel s pos b c) (fun _ _ wr => s.size - wr.iterPos w.heap.size)
  case atStart => exact ⟨0, s.size, false, rfl, World.iter_heap w s 0, (Below.refl _ _).alloc (Nat.le_refl _) _, rfl, by omega, by omega⟩
  case round =>
    obtain ⟨pos, b, c, rfl, hit, hB, hrel⟩ := hrel
    have HR := Lib.hid hrel; clear hrel
    have HI := Lib.hid hit
    by_cases hp : pos < s.size
    · have hnx : ∀ ty, (Instr.next (.pointer (some ⟨w.heap.size, 0, none⟩)) true ty).run Tryd.prog wr = .ok (.tuple #[.bool true, .int .i64 pos, .int .i32 (rn s pos)]) (wr.iterAt w.heap.size s (pos + wd s pos)) := fun ty => Lib.run_next_any_at wr w.heap.size s pos ty hit hp
      have hd := dec_facts s pos hp
      have HN := Lib.hid (Lib.iterAt_heap wr w.heap.size s pos (pos + wd s pos) hit)
      have hB1 := Lib.below_iterAt hB (Nat.le_refl _) s (pos + wd s pos)
      clear hit
      have HI1 := Lib.hid (show (wr.iterAt w.heap.size s (pos + wd s pos)).iterPos w.heap.size = pos + wd s pos from iterPos_of HN.out)
      have HJ1 := Lib.hid (show wr.iterPos w.heap.size = pos from iterPos_of HI.out)
      obtain ⟨K, hK⟩ : ∃ K, cls (rn s pos) = K := ⟨_, rfl⟩
      have hcl := fun w => class_any (rn s pos) w
      rw [hK] at hcl
      have HK := Lib.hid hK; clear hK
      have HC := Lib.hid hcl; clear hcl
      by_cases h2 : K = 2
      · subst h2
        go_wp2_with (go_at_call 45; refine (HC.out _).mono ?_; rintro e w' ⟨rfl, rfl⟩)
        go_roundw
        case rel =>
          obtain ⟨h1, h2, h3⟩ := HR.out
          cases b with
          | zero => omega
          | succ b => exact ⟨pos + wd s pos, b, false, rfl, HN.out, hB1, by rw [← h1, ptE_line hp HK.out], by omega, by omega⟩
        case measure => rw [HI1.out, HJ1.out]; omega
      · by_cases h1 : K = 1
        · subst h1
          go_wp2_with (go_at_call 45; refine (HC.out _).mono ?_; rintro e w' ⟨rfl, rfl⟩)
          go_roundw
          case rel =>
            obtain ⟨h1, h2, h3⟩ := HR.out
            cases b with
            | zero => omega
            | succ b => exact ⟨pos + wd s pos, b, c, rfl, HN.out, hB1, by rw [← h1, ptE_space hp HK.out], by omega, by omega⟩
          case measure => rw [HI1.out, HJ1.out]; omega
        · have n2 : (K == 2) = false := by simpa using h2
          have n1 : (K == 1) = false := by simpa using h1
          have H1 := Lib.hid h1; have H2 := Lib.hid h2; clear h1 h2
          have on : (c = true ∨ rn s pos = 35) → ∃ b, PtRel s (pos + wd s pos) b true := fun hc => by
            obtain ⟨h1, h2, h3⟩ := HR.out
            cases b with
            | zero => omega
            | succ b => exact ⟨b, by rw [← h1, ptE_on hp (by rw [HK.out]; exact H1.out) (by rw [HK.out]; exact H2.out) hc], by omega, by omega⟩
          have HO := Lib.hid on; clear on
          cases c with
          | true =>
            go_wp2_with (go_at_call 45; refine (HC.out _).mono ?_; rintro e w' ⟨rfl, rfl⟩)
            go_roundw
            case rel =>
              obtain ⟨b', hb'⟩ := HO.out (.inl (by first | rfl | trivial))
              exact ⟨pos + wd s pos, b', true, rfl, HN.out, hB1, hb'⟩
            case measure => rw [HI1.out, HJ1.out]; omega
          | false =>
            cases hr : ((rn s pos : Int) == 35) with
            | true =>
              go_wp2_with (go_at_call 45; refine (HC.out _).mono ?_; rintro e w' ⟨rfl, rfl⟩)
              go_roundw
              case rel =>
                obtain ⟨b', hb'⟩ := HO.out (.inr (by have := beq_iff_eq.1 hr; omega))
                exact ⟨pos + wd s pos, b', true, rfl, HN.out, hB1, hb'⟩
              case measure => rw [HI1.out, HJ1.out]; omega
            | false =>
              go_wp2_with (go_at_call 45; refine (HC.out _).mono ?_; rintro e w' ⟨rfl, rfl⟩)
              go_ret
              obtain ⟨h1, h2, h3⟩ := HR.out
              have hn : ¬ ((false : Bool) = true ∨ rn s pos = 35) := by
                rintro (h | h)
                · cases h
                · rw [h] at hr; exact absurd hr (by decide)
              exact ⟨ret_int (by rw [← h1, ptE_stop (by rw [HK.out]; exact H1.out) (by rw [HK.out]; exact H2.out) hn]), hB1⟩
    · have hnx : ∀ ty, (Instr.next (.pointer (some ⟨w.heap.size, 0, none⟩)) true ty).run Tryd.prog wr = _ := fun ty => Lib.run_next_end_at wr w.heap.size s pos ty hit hp
      clear hit
      go_wp2
      go_ret
      obtain ⟨h1, h2, h3⟩ := HR.out
      exact ⟨ret_int (by rw [← h1, ptE_end hp]; omega), hB⟩
end Go.Proofs.YtifgmkenfmmelaaDoor
