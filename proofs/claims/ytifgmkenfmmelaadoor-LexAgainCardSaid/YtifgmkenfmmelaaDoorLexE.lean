/-
  (*lex.reader).digits: proved is what it answers and leaves, as 'TokRes' says.
  Condition: Go's tables of package unicode/utf8 and the two errors of package strconv hold what their text lays ('Env').
-/
import Derived.Test.YtifgmkenfmmelaaDoorLexD
namespace Go.Proofs.YtifgmkenfmmelaaDoor
open Go Go.RowKit

set_option maxHeartbeats 4000000 in
theorem digits_any {s : ByteArray} {a B k : Nat} {P : Int × Int} {v : Value} {xs : List Value} {w : World} (h : Rs w B s a P v k xs) (hlt : a < s.size) (hE : Env w) :
    Calls Tryd.prog 50 #[.pointer (some ⟨B, 0, none⟩)] w (TokRes w B s a P k xs (digT s a)) := by
  have hL : digT s a = if (zeroB s a (spE isDig s s.size a) || isLet (frs s (spE isDig s s.size a))) = true then (21, 0, 0, 0) else if (parseE (s.extract a (spE isDig s s.size a)).data.toList).1 = 0 then (0, spE isDig s s.size a, 2, (parseE (s.extract a (spE isDig s s.size a)).data.toList).2) else (21, 0, 0, 0) := rfl
  obtain ⟨o, ho⟩ : ∃ o, digT s a = o := ⟨_, rfl⟩
  rw [ho] at hL ⊢
  clear ho
  have hb := spE_bounds isDig s s.size a h.ha
  have hsp := fun w => span_digit_at s a h.ha h.hs w
  obtain ⟨n, hn⟩ : ∃ n, spE isDig s s.size a = n := ⟨_, rfl⟩
  rw [hn] at hb hsp hL
  clear hn
  have HS := Lib.hid hsp; clear hsp
  have hs := h.hs
  have hna : n ≤ s.size - a + a := by have := h.ha; omega
  have c0 := h.cell
  have hB : B ≤ w.heap.size := by have := h.rd.lt; omega
  have HF := Lib.hid (fun w hE => first_cut s a n hb.1 hb.2 w hE)
  have HP := Lib.hid (fun w hE => parse_at s a n hb.1 hb.2 hs w hE)
  have H := Lib.hid h; clear h
  have HE := Lib.hid hE; clear hE
  have h0 : 0 < (s.extract a s.size).size := by simp; omega
  have hd := head_at (s.extract a s.size) h0
  have hz : zeroB s a n = (decide (1 < n - a) && decide (((s.extract a s.size)[0]).toNat = 48)) := by unfold zeroB; rw [hd]
  rw [hz] at hL
  clear hz hd
  by_cases hz1 : 1 < n - a
  · have hz2 : (1 : Int) < ((n - a : Nat) : Int) := by omega
    by_cases hz3 : ((s.extract a s.size)[0]).toNat = 48
    · rw [if_pos (by simp [hz1, hz3])] at hL
      have HL := Lib.hid hL; clear hL
      have hz4 : ((((s.extract a s.size)[0]).toNat : Nat) : Int) = 48 := by omega
      go_enter Tryd.func50, Tryd.ntmps50
      go_wp2_with (go_at_call 56; (with_reducible refine (HS.out _).mono ?_); rintro e w1 ⟨rfl, hb1⟩; have H1 := Lib.hid (H.out.later hb1); have d0 := H1.out.cell)
      go_ret
      exact TokRes.bad HL.out (by simp) (hb1.mono hB) H1.out.rd
    · have hz4 : ¬ ((((s.extract a s.size)[0]).toNat : Nat) : Int) = 48 := by omega
      cases hl : isLet (frs s n) with
      | true =>
        have HI := Lib.hid (fun w => isLetter_is (frs s n) true hl w)
        rw [if_pos (by rw [hl]; simp)] at hL
        have HL := Lib.hid hL; clear hL hl
        go_enter Tryd.func50, Tryd.ntmps50
        go_wp2_with (first | (go_at_call 56; (with_reducible refine (HS.out _).mono ?_); rintro e w1 ⟨rfl, hb1⟩; have H1 := Lib.hid (H.out.later hb1); have E1 := Lib.hid (HE.out.later hb1); have d0 := H1.out.cell) | (go_at_call 38; (with_reducible refine (HF.out _ E1.out).mono ?_); rintro e w2 ⟨rfl, hb2⟩; have H2 := Lib.hid (H1.out.later hb2); have E2 := Lib.hid (E1.out.later hb2); have q0 := H2.out.cell) | (go_at_call 28; (with_reducible refine (HI.out _).mono ?_); rintro e w3 ⟨rfl, rfl⟩))
        go_ret
        exact TokRes.bad HL.out (by simp) ((hb1.mono hB).trans (hb2.mono (by have := hb1.size; omega))) H2.out.rd
      | false =>
        have HI := Lib.hid (fun w => isLetter_is (frs s n) false hl w)
        rw [if_neg (by rw [hl]; simp [hz3])] at hL
        clear hl
        obtain ⟨PE, hPE⟩ : ∃ PE, parseE (s.extract a n).data.toList = PE := ⟨_, rfl⟩
        have hp := HP.out
        unfold Parsed at hp
        rw [hPE] at hL hp
        clear HP hPE
        have HP := Lib.hid hp; clear hp
        have HL := Lib.hid hL; clear hL
        go_enter Tryd.func50, Tryd.ntmps50
        go_wp2_with (first | (go_at_call 56; (with_reducible refine (HS.out _).mono ?_); rintro e w1 ⟨rfl, hb1⟩; have H1 := Lib.hid (H.out.later hb1); have E1 := Lib.hid (HE.out.later hb1); have d0 := H1.out.cell) | (go_at_call 38; (with_reducible refine (HF.out _ E1.out).mono ?_); rintro e w2 ⟨rfl, hb2⟩; have H2 := Lib.hid (H1.out.later hb2); have E2 := Lib.hid (E1.out.later hb2); have q0 := H2.out.cell) | (go_at_call 28; (with_reducible refine (HI.out _).mono ?_); rintro e w3 ⟨rfl, rfl⟩))
        refine (HP.out _ E2.out).mono ?_
        rintro e w4 ⟨hb4, hp4⟩
        rcases hp4 with ⟨hp5, rfl⟩ | ⟨hp5, x, tt, pp, rfl⟩
        · have H4 := Lib.hid (H2.out.later hb4)
          go_wp2_with fail
          refine (take_rs H4.out n 2 PE.2 hb.1 hb.2).mono ?_
          rintro e w5 ⟨v', rfl, hr, ho, hbb⟩
          go_wp2
          go_ret
          exact TokRes.ok (by rw [HL.out, if_pos hp5]) (((hb1.mono hB).trans (hb2.mono (by have := hb1.size; omega))).trans (hb4.mono (by have := hb1.size; have := hb2.size; omega))) hr ho hbb
        · go_wp2
          go_ret
          exact TokRes.bad (by rw [HL.out, if_neg (by rw [hp5]; simp)]) (by simp) (((hb1.mono hB).trans (hb2.mono (by have := hb1.size; omega))).trans (hb4.mono (by have := hb1.size; have := hb2.size; omega))) (H2.out.later hb4).rd
  · have hz2 : ¬ (1 : Int) < ((n - a : Nat) : Int) := by omega
    cases hl : isLet (frs s n) with
    | true =>
      have HI := Lib.hid (fun w => isLetter_is (frs s n) true hl w)
      rw [if_pos (by rw [hl]; simp)] at hL
      have HL := Lib.hid hL; clear hL hl
      go_enter Tryd.func50, Tryd.ntmps50
      go_wp2_with (first | (go_at_call 56; (with_reducible refine (HS.out _).mono ?_); rintro e w1 ⟨rfl, hb1⟩; have H1 := Lib.hid (H.out.later hb1); have E1 := Lib.hid (HE.out.later hb1); have d0 := H1.out.cell) | (go_at_call 38; (with_reducible refine (HF.out _ E1.out).mono ?_); rintro e w2 ⟨rfl, hb2⟩; have H2 := Lib.hid (H1.out.later hb2); have E2 := Lib.hid (E1.out.later hb2); have q0 := H2.out.cell) | (go_at_call 28; (with_reducible refine (HI.out _).mono ?_); rintro e w3 ⟨rfl, rfl⟩))
      go_ret
      exact TokRes.bad HL.out (by simp) ((hb1.mono hB).trans (hb2.mono (by have := hb1.size; omega))) H2.out.rd
    | false =>
      have HI := Lib.hid (fun w => isLetter_is (frs s n) false hl w)
      rw [if_neg (by rw [hl]; simp; omega)] at hL
      clear hl
      obtain ⟨PE, hPE⟩ : ∃ PE, parseE (s.extract a n).data.toList = PE := ⟨_, rfl⟩
      have hp := HP.out
      unfold Parsed at hp
      rw [hPE] at hL hp
      clear HP hPE
      have HP := Lib.hid hp; clear hp
      have HL := Lib.hid hL; clear hL
      go_enter Tryd.func50, Tryd.ntmps50
      go_wp2_with (first | (go_at_call 56; (with_reducible refine (HS.out _).mono ?_); rintro e w1 ⟨rfl, hb1⟩; have H1 := Lib.hid (H.out.later hb1); have E1 := Lib.hid (HE.out.later hb1); have d0 := H1.out.cell) | (go_at_call 38; (with_reducible refine (HF.out _ E1.out).mono ?_); rintro e w2 ⟨rfl, hb2⟩; have H2 := Lib.hid (H1.out.later hb2); have E2 := Lib.hid (E1.out.later hb2); have q0 := H2.out.cell) | (go_at_call 28; (with_reducible refine (HI.out _).mono ?_); rintro e w3 ⟨rfl, rfl⟩))
      refine (HP.out _ E2.out).mono ?_
      rintro e w4 ⟨hb4, hp4⟩
      rcases hp4 with ⟨hp5, rfl⟩ | ⟨hp5, x, tt, pp, rfl⟩
      · have H4 := Lib.hid (H2.out.later hb4)
        go_wp2_with fail
        refine (take_rs H4.out n 2 PE.2 hb.1 hb.2).mono ?_
        rintro e w5 ⟨v', rfl, hr, ho, hbb⟩
        go_wp2
        go_ret
        exact TokRes.ok (by rw [HL.out, if_pos hp5]) (((hb1.mono hB).trans (hb2.mono (by have := hb1.size; omega))).trans (hb4.mono (by have := hb1.size; have := hb2.size; omega))) hr ho hbb
      · go_wp2
        go_ret
        exact TokRes.bad (by rw [HL.out, if_neg (by rw [hp5]; simp)]) (by simp) (((hb1.mono hB).trans (hb2.mono (by have := hb1.size; omega))).trans (hb4.mono (by have := hb1.size; have := hb2.size; omega))) (H2.out.later hb4).rd
end Go.Proofs.YtifgmkenfmmelaaDoor
