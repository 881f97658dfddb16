/-
  The statements' own trial (gnomonlaw3's known): proved is that it answers true, and that it turns nothing that lay.
-/
import Derived.Test.YtpildlaloclanaaEqualP
import Derived.Test.YtpildlaloclanaaOne
namespace Go.Proofs.Ytpildlaloclanaa
open Go Go.RowKit

def badE : Nd := .mk .E 1 (-1) ⟨#[]⟩ [] [] [] []
theorem badE_in (w : World) : NdIn w badE [.int .i64 1, .int .i64 (-1), .string ⟨#[]⟩, .slice none 0 0] := by
  unfold badE NdIn
  exact ⟨⟨rfl, rfl, rfl⟩, by unfold i64ok; decide, by unfold i64ok; decide, by decide, _, .slice none 0 0, .slice none 0 0, .slice none 0 0, rfl, sl0 w .E, sl0 w .C, sl0 w .S, sl0 w .S⟩
theorem badE_chk : prjChk badE = 30 := by decide +kernel
theorem one_fault : faultT (progT [oneD] [oneS]) = 0 := by decide +kernel
theorem one_dep : (progT [oneD] [oneS]).dep = 3 := by decide +kernel
theorem one_len : (progT [oneD] [oneS]).l.length = 5 := by decide +kernel
theorem one_eq : equalP [oneD] [oneS] [oneD] [oneS] = true := by decide +kernel

set_option maxRecDepth 100000 in
set_option maxHeartbeats 4000000 in
theorem known_any (w : World) :
    Calls Try.prog 7 #[] w (fun e w' => e = .returned (.bool true) ∧ Below w.heap.size w w') := by
  have HO := Lib.hid one_any
  have hD := fun v0 v1 w hd hs => tdepth_any [oneD] [oneS] v0 v1 w hd hs
  simp only [one_fault, one_dep, if_true] at hD
  have HD := Lib.hid hD; clear hD
  have hN := fun v0 v1 w hd hs => tnodes_any [oneD] [oneS] v0 v1 w hd hs
  simp only [one_fault, one_len, if_true] at hN
  have HN := Lib.hid hN; clear hN
  have hE := fun v0 v1 u0 u1 w hd hs hd2 hs2 => equalP_any [oneD] [oneS] [oneD] [oneS] v0 v1 u0 u1 w hd hs hd2 hs2
  simp only [one_eq] at hE
  have HE := Lib.hid hE; clear hE
  have hB := fun w => treeExpr_any badE _ _ _ _ w rfl (badE_in w)
  simp only [badE_chk] at hB
  have HB := Lib.hid hB; clear hB
  go_enter Try.func7, Try.ntmps7
  go_upto_region 2 with (first | (go_at_call 25; (with_reducible refine (HO.out _).mono ?_); rintro e w1 ⟨v0, v1, rfl, hd, hs, hb1⟩) | (go_at_call 9; (with_reducible refine (HD.out _ _ _ hd hs).mono ?_); rintro e w2 ⟨rfl, hb2⟩) | fail)
  have hW2 := hb1.trans (hb2.mono hb1.size)
  have HW2 := Lib.hid hW2; clear hW2 hb1 hb2 hd hs
  go_upto_region 3 with (first | (go_at_call 25; (with_reducible refine (HO.out _).mono ?_); rintro e w3 ⟨u0, u1, rfl, hd, hs, hb1⟩) | (go_at_call 10; (with_reducible refine (HN.out _ _ _ hd hs).mono ?_); rintro e w4 ⟨rfl, hb2⟩) | fail)
  have hW4 := HW2.out.trans ((hb1.trans (hb2.mono hb1.size)).mono HW2.out.size)
  have HW4 := Lib.hid hW4; clear hW4 HW2 hb1 hb2 hd hs
  go_wp2_with (first | (go_at_call 16; (with_reducible refine (HB.out _).mono ?_); rintro e w5 ⟨rfl, hb5⟩) | (go_at_call 25; have hh := hd6; (with_reducible refine (HO.out _).mono ?_); rintro e w7 ⟨x0, x1, rfl, hd7, hs7, hb7⟩) | (go_at_call 25; (with_reducible refine (HO.out _).mono ?_); rintro e w6 ⟨y0, y1, rfl, hd6, hs6, hb6⟩) | (go_at_call 20; (with_reducible refine (HE.out _ _ _ _ _ (hd6.keep (keeps_below hb7)) (hs6.keep (keeps_below hb7)) hd7 hs7).mono ?_); rintro e w8 ⟨rfl, hb8⟩) | fail)
  go_ret
  have h5 := HW4.out.trans (hb5.mono HW4.out.size)
  have h6 := h5.trans (hb6.mono h5.size)
  have h7 := h6.trans (hb7.mono h6.size)
  exact ⟨rfl, h7.trans (hb8.mono h7.size)⟩
end Go.Proofs.Ytpildlaloclanaa
