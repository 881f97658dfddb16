/-
  The contracts of the document's Rune, Check and At: proved is what each answers at every text and byte.
  Condition: the text has at most 2^52 bytes; Rune's byte lies within the text.
-/
import Derived.Test.YtifgmkenfmmelaaDoorRune2
import Derived.Test.YtifgmkenfmmelaaDoorRune3
import Derived.Test.YtifgmkenfmmelaaDoorRune4
namespace Go.Proofs.YtifgmkenfmmelaaDoor
open Go Go.RowKit

theorem one_byte (s : ByteArray) (i : Nat) (h : byt s i < 128) : rn s i = byt s i ∧ wd s i = 1 := by
  refine decN_pair ?_
  unfold Lib.decodeN
  rw [if_pos h]
theorem no_byte (s : ByteArray) (i : Nat) (h : 128 ≤ byt s i) (h2 : byt s i < 194 ∨ 245 ≤ byt s i) : Bad s i := by
  refine decN_pair ?_
  have b0 := byt_lt s i
  have b1 := byt_lt s (i + 1)
  have b2 := byt_lt s (i + 2)
  have b3 := byt_lt s (i + 3)
  unfold Lib.decodeN
  repeat' split
  all_goals first | rfl | (exfalso; omega)

set_option maxRecDepth 100000 in
set_option maxHeartbeats 4000000 in
theorem rune1 (s : ByteArray) (i : Nat) (w : World) (_hs : s.size ≤ 4503599627370496) (hi : i < s.size) (h1 : (s[i].toNat : Int) < 128) :
    Calls Tryd.prog 29 #[.string s, .int .i64 i] w fun e w' => e = .returned (.tuple #[.int .i64 (rn s i), .int .i64 (wd s i), .bool (!badB s i)]) ∧ w = w' := by
  have HB := Lib.hid (byt_at s i hi)
  go_enter Tryd.func29, Tryd.ntmps29
  go_wp2
  go_ret3
  have hb := HB.out
  have h2 := one_byte s i (by omega)
  refine ⟨?_, rfl⟩
  rw [h2.1, h2.2, hb]
  have : badB s i = false := by
    have : ¬ rn s i = 65533 := by omega
    simp [badB, this]
  rw [this]
  rfl

set_option maxRecDepth 100000 in
set_option maxHeartbeats 4000000 in
theorem runeX (s : ByteArray) (i : Nat) (w : World) (_hs : s.size ≤ 4503599627370496) (hi : i < s.size) (h1 : 128 ≤ (s[i].toNat : Int)) (h2 : (s[i].toNat : Int) < 194 ∨ 245 ≤ (s[i].toNat : Int)) :
    Calls Tryd.prog 29 #[.string s, .int .i64 i] w fun e w' => e = .returned (.tuple #[.int .i64 (rn s i), .int .i64 (wd s i), .bool (!badB s i)]) ∧ w = w' := by
  have hbad : Bad s i := by have hb := byt_at s i hi; exact no_byte s i (by omega) (by omega)
  have HB := Lib.hid hbad; clear hbad
  rcases h2 with h2 | h2
  · go_enter Tryd.func29, Tryd.ntmps29
    go_wp2
    go_ret3
    exact ⟨ret_bad HB.out, rfl⟩
  · have h3 : 194 ≤ (s[i].toNat : Int) := by omega
    have h6 : (s[i].toNat : Int) < 256 := by have := UInt8.toNat_lt s[i]; omega
    have h4 : 224 ≤ (s[i].toNat : Int) := by omega
    have h5 : 240 ≤ (s[i].toNat : Int) := by omega
    go_enter Tryd.func29, Tryd.ntmps29
    go_wp2
    go_ret3
    exact ⟨ret_bad HB.out, rfl⟩

theorem rune_any (s : ByteArray) (i : Nat) (w : World) (hs : s.size ≤ 4503599627370496) (hi : i < s.size) :
    Calls Tryd.prog 29 #[.string s, .int .i64 i] w fun e w' => e = .returned (.tuple #[.int .i64 (rn s i), .int .i64 (wd s i), .bool (!badB s i)]) ∧ w = w' := by
  by_cases h1 : (s[i].toNat : Int) < 128
  · exact rune1 s i w hs hi h1
  by_cases h2 : (s[i].toNat : Int) < 194 ∨ 245 ≤ (s[i].toNat : Int)
  · exact runeX s i w hs hi (by omega) h2
  by_cases h3 : (s[i].toNat : Int) < 224
  · exact rune2 s i w hs hi (by omega) h3
  by_cases h4 : (s[i].toNat : Int) < 240
  · exact rune3 s i w hs hi (by omega) h4
  · exact rune4 s i w hs hi (by omega) (by omega)

theorem refcheck_any (s : ByteArray) (w : World) (hs : s.size ≤ 4503599627370496) :
    Calls Tryd.prog 22 #[.string s] w fun e w' => e = .returned (.tuple #[.int .i64 (chkAll s).1, .int .i64 (chkAll s).2]) ∧ w = w' := by
  by_cases hl : 65536 < s.size
  · have hc : chkAll s = (0, 10) := by unfold chkAll; rw [if_pos hl]
    rw [hc]
    clear hc
    go_enter Tryd.func22, Tryd.ntmps22
    go_wp2
    go_ret2
    exact ⟨rfl, rfl⟩
  · rw [chkAll_of s hl]
    go_enter Tryd.func22, Tryd.ntmps22
    go_wp2
    go_loop [4] (fun x => ∃ pos b : Nat, x = .int .i64 pos ∧ pos ≤ s.size ∧ ChkRel s pos b) (fun x => s.size - (intOf x).toNat)
    case atStart => exact ⟨0, s.size, rfl, by omega, rfl, by omega⟩
    case round =>
      obtain ⟨pos, b, rfl, hpos, hrel⟩ := hrel
      have HR := Lib.hid hrel; clear hrel
      by_cases hp : pos < s.size
      · have hd := dec_facts s pos hp
        cases hb : badB s pos with
        | true =>
          have hx : chk s s.size 0 = ((pos : Int), 11) := by
            obtain ⟨h1, h2⟩ := HR.out
            cases b with
            | zero => omega
            | succ b => rw [← h1, chk_bad s b pos hp hb]
          have HX := Lib.hid hx; clear hx
          go_wp2_with (go_at_call 29; refine (rune_any s pos _ hs hp).mono ?_; rintro e w' ⟨rfl, rfl⟩)
          go_ret2
          rw [HX.out]
          exact ⟨rfl, rfl⟩
        | false =>
          have hx : ∃ b', ChkRel s (pos + wd s pos) b' := by
            obtain ⟨h1, h2⟩ := HR.out
            cases b with
            | zero => omega
            | succ b => exact ⟨b, by rw [← h1, chk_step s b pos hp hb], by omega⟩
          have HX := Lib.hid hx; clear hx
          go_wp2_with (go_at_call 29; refine (rune_any s pos _ hs hp).mono ?_; rintro e w' ⟨rfl, rfl⟩)
          go_round
          case rel => obtain ⟨b', hb'⟩ := HX.out; exact ⟨pos + wd s pos, b', by go_num, by omega, hb'⟩
          case measure => simp [intOf]; omega
      · go_wp2
        go_ret2
        obtain ⟨h1, _⟩ := HR.out
        rw [chk_end s b pos hp] at h1
        rw [← h1]
        exact ⟨rfl, rfl⟩

theorem nxt_line (pos : Nat) (l c : Int) (r : Nat) (h : ((r : Int) == 10) = true) : nxt ⟨pos, l, c, r⟩ = (l + 1, 1) := by
  have : r = 10 := by have := beq_iff_eq.1 h; omega
  simp [nxt, this]
theorem nxt_col (pos : Nat) (l c : Int) (r : Nat) (h : ((r : Int) == 10) = false) : nxt ⟨pos, l, c, r⟩ = (l, c + 1) := by
  have : ¬ r = 10 := by intro e; subst e; exact absurd h (by decide)
  simp [nxt, this]

set_option maxHeartbeats 2000000 in
theorem refat_any (s : ByteArray) (n : Int) (w : World) (hs : s.size ≤ 4503599627370496) :
    Calls Tryd.prog 23 #[.string s, .int .i64 n] w fun e w' => e = .returned (.agg #[.int .i64 (atV s n).1, .int .i64 (atV s n).2]) ∧ Below w.heap.size w w' := by
  go_enter Tryd.func23, Tryd.ntmps23
  go_wp2
  go_loopw [6] (fun x wr => ∃ (pos b : Nat) (l c : Int), x = .int .i64 pos ∧ pos ≤ s.size ∧ wr = (w.alloc (.cells #[.int .i64 0, .int .i64 0] 25)).alloc (.cells #[.int .i64 l, .int .i64 c] 25) ∧ 1 ≤ l ∧ l ≤ pos + 1 ∧ 1 ≤ c ∧ c ≤ pos + 1 ∧ AtRel s n pos b (l, c)) (fun x _ => s.size - (intOf x).toNat)
  case atStart => exact ⟨0, s.size, 1, 1, rfl, by omega, rfl, by omega, by omega, by omega, by omega, rfl, by omega⟩
  case round =>
    obtain ⟨pos, b, l, c, rfl, hpos, rfl, hl1, hl2, hc1, hc2, hrel⟩ := hrel
    by_cases hp : pos < s.size
    · have hd := dec_facts s pos hp
      by_cases hn : (pos : Int) < n
      · have HR := Lib.hid (hrel.step hp hn); clear hrel
        cases h10 : ((rn s pos : Int) == 10) with
        | true =>
          have HN := Lib.hid (nxt_line pos l c _ h10)
          go_wp2_with (go_at_call 29; refine (rune_any s pos _ hs hp).mono ?_; rintro e w' ⟨rfl, rfl⟩)
          go_roundw
          case rel => obtain ⟨b', hb'⟩ := HR.out; exact ⟨pos + wd s pos, b', l + 1, 1, by go_num, by omega, rfl, by omega, by omega, by omega, by omega, by rw [← HN.out]; exact hb'⟩
          case measure => simp [intOf]; omega
        | false =>
          have HN := Lib.hid (nxt_col pos l c _ h10)
          go_wp2_with (go_at_call 29; refine (rune_any s pos _ hs hp).mono ?_; rintro e w' ⟨rfl, rfl⟩)
          go_roundw
          case rel => obtain ⟨b', hb'⟩ := HR.out; exact ⟨pos + wd s pos, b', l, c + 1, by go_num, by omega, rfl, by omega, by omega, by omega, by omega, by rw [← HN.out]; exact hb'⟩
          case measure => simp [intOf]; omega
      · have HD := Lib.hid (hrel.done (fun h => hn h.2)); clear hrel
        have hn' : decide ((pos : Int) < n) = false := by simpa using hn
        go_wp2
        rw [HD.out]
        exact bodyPost_ret (v := .agg #[.int .i64 l, .int .i64 c]) (by simp [results, Tryd.results23, go_sem]) rfl ⟨rfl, (((Below.refl _ _).alloc (Nat.le_refl _) _).alloc (by simp) _)⟩
    · have HD := Lib.hid (hrel.done (fun h => hp h.1)); clear hrel
      go_wp2
      rw [HD.out]
      exact bodyPost_ret (v := .agg #[.int .i64 l, .int .i64 c]) (by simp [results, Tryd.results23, go_sem]) rfl ⟨rfl, (((Below.refl _ _).alloc (Nat.le_refl _) _).alloc (by simp) _)⟩
end Go.Proofs.YtifgmkenfmmelaaDoor
