/-
  PrintParts' own walk, and the statements' own trial (gnomonlaw5's known): proved is that both answer true, and that they turn nothing that lay.
-/
import Derived.Test.YtepofbglpnnflaaDoorPrintX
import Derived.Test.YtepofbglpnnflaaDoorOne
namespace Go.Proofs.YtepofbglpnnflaaDoor
open Go Go.RowKit

def kn1 (n : Int) : Nd := .mk .E 1 n ⟨#[]⟩ [] [] [] []
def kn2 : Nd := .mk .E 7 0 ⟨#[]⟩ [kn1 2, kn1 3] [] [] []
def kn3 : Nd := .mk .E 7 0 ⟨#[]⟩ [kn1 1, kn2] [] [] []
theorem kn_chk : prjChk kn3 = 0 := by decide +kernel
theorem kn_txt : bts (txtN kn3) = ⟨#[49, 32, 45, 32, 40, 50, 32, 45, 32, 51, 41]⟩ := by decide +kernel
theorem kn_ans : ansS kn3 = ⟨#[49, 32, 45, 32, 40, 50, 32, 45, 32, 51, 41]⟩ := (ans_ok kn_chk).trans kn_txt
theorem kn1_in (w : World) (n : Int) (h : i64ok n) : NdIn w (kn1 n) [.int .i64 1, .int .i64 n, .string ⟨#[]⟩, .slice none 0 0] := by
  unfold kn1 NdIn
  exact ⟨⟨rfl, rfl, rfl⟩, by unfold i64ok; decide, h, by decide, _, .slice none 0 0, .slice none 0 0, .slice none 0 0, rfl, sl0 w .E, sl0 w .C, sl0 w .S, sl0 w .S⟩

theorem kn3_at (w : World) (htab : Lib.TabIs Tryd.prog w "internal/strconv.uint64pow10" .u64 Lib.pow10Tab) :
    Calls Tryd.prog 5 #[.agg #[.int .i64 7, .int .i64 0, .string ⟨#[]⟩, .slice (some ⟨w.heap.size + 1, 0, none⟩) 2 2]]
      ((w.alloc (.cells #[.int .i64 1, .int .i64 2, .string ⟨#[]⟩, .slice none 0 0, .int .i64 1, .int .i64 3, .string ⟨#[]⟩, .slice none 0 0] 24)).alloc (.cells #[.int .i64 1, .int .i64 1, .string ⟨#[]⟩, .slice none 0 0, .int .i64 7, .int .i64 0, .string ⟨#[]⟩, .slice (some ⟨w.heap.size, 0, none⟩) 2 2] 24))
      (fun e w' => e = .returned (.tuple #[.string ⟨#[49, 32, 45, 32, 40, 50, 32, 45, 32, 51, 41]⟩, .int .i64 0]) ∧ Below w.heap.size w w') := by
  obtain ⟨W, hW⟩ : ∃ W, (w.alloc (.cells #[.int .i64 1, .int .i64 2, .string ⟨#[]⟩, .slice none 0 0, .int .i64 1, .int .i64 3, .string ⟨#[]⟩, .slice none 0 0] 24)).alloc (.cells #[.int .i64 1, .int .i64 1, .string ⟨#[]⟩, .slice none 0 0, .int .i64 7, .int .i64 0, .string ⟨#[]⟩, .slice (some ⟨w.heap.size, 0, none⟩) 2 2] 24) = W := ⟨_, rfl⟩
  have hb : Below w.heap.size w W := by rw [← hW]; exact ((Below.refl _ w).alloc (by simp) _).alloc (by simp <;> omega) _
  have b1 : Blk W w.heap.size [[.int .i64 1, .int .i64 2, .string ⟨#[]⟩, .slice none 0 0], [.int .i64 1, .int .i64 3, .string ⟨#[]⟩, .slice none 0 0]].flatten.toArray 24 := by rw [← hW]; exact (Blk.at (by simp)).alloc _
  have b2 : Blk W (w.heap.size + 1) [[.int .i64 1, .int .i64 1, .string ⟨#[]⟩, .slice none 0 0], [.int .i64 7, .int .i64 0, .string ⟨#[]⟩, .slice (some ⟨w.heap.size, 0, none⟩) 2 2]].flatten.toArray 24 := by rw [← hW]; exact Blk.at (by simp)
  rw [hW]
  have n1 := kn1_in W 1 (by unfold i64ok; decide)
  have n2 := kn1_in W 2 (by unfold i64ok; decide)
  have n3 := kn1_in W 3 (by unfold i64ok; decide)
  have l1 : SlIn W .E [kn1 2, kn1 3] (.slice (some ⟨w.heap.size, 0, none⟩) 2 2) := slIn_blk b1 rfl (by decide) (nodes2 rfl n2 rfl n3)
  have n4 : NdIn W kn2 [.int .i64 7, .int .i64 0, .string ⟨#[]⟩, .slice (some ⟨w.heap.size, 0, none⟩) 2 2] := by
    unfold kn2 NdIn
    exact ⟨⟨rfl, rfl, rfl⟩, by unfold i64ok; decide, ok0, by decide, _, .slice none 0 0, .slice none 0 0, .slice none 0 0, rfl, l1, sl0 W .C, sl0 W .S, sl0 W .S⟩
  have l2 : SlIn W .E [kn1 1, kn2] (.slice (some ⟨w.heap.size + 1, 0, none⟩) 2 2) := slIn_blk b2 rfl (by decide) (nodes2 rfl n1 rfl n4)
  have n5 : NdIn W kn3 [.int .i64 7, .int .i64 0, .string ⟨#[]⟩, .slice (some ⟨w.heap.size + 1, 0, none⟩) 2 2] := by
    unfold kn3 NdIn
    exact ⟨⟨rfl, rfl, rfl⟩, by unfold i64ok; decide, ok0, by decide, _, .slice none 0 0, .slice none 0 0, .slice none 0 0, rfl, l2, sl0 W .C, sl0 W .S, sl0 W .S⟩
  have h := pexpr_any kn3 _ _ _ _ W rfl n5 (tab_below htab hb)
  rw [kn_ans, kn_chk] at h
  refine h.mono ?_
  rintro e w' ⟨rfl, hb'⟩
  exact ⟨rfl, below_next hb hb'⟩

set_option maxRecDepth 100000 in
set_option maxHeartbeats 4000000 in
theorem known5_any (w : World) (htab : Lib.TabIs Tryd.prog w "internal/strconv.uint64pow10" .u64 Lib.pow10Tab) :
    Calls Tryd.prog 4 #[] w (fun e w' => e = .returned (.bool true) ∧ Below w.heap.size w w') := by
  have HK := Lib.hid (kn3_at w htab); clear htab
  go_enter Tryd.func4, Tryd.ntmps4
  go_wp2_with fail
  (with_reducible refine HK.out.mono ?_)
  rintro e w1 ⟨rfl, hb1⟩
  go_wp2_with fail
  go_ret
  exact ⟨rfl, hb1⟩

set_option maxRecDepth 100000 in
set_option maxHeartbeats 4000000 in
theorem pparts_any (x y : Nd) (u0 u1 u2 u3 v0 v1 v2 v3 : Value) (w : World) (hx : x.ty = .E) (hy : y.ty = .C) (hin : NdIn w x [u0, u1, u2, u3]) (hjn : NdIn w y [v0, v1, v2, v3]) (htab : Lib.TabIs Tryd.prog w "internal/strconv.uint64pow10" .u64 Lib.pow10Tab) :
    Calls Tryd.prog 3 #[.agg #[u0, u1, u2, u3], .agg #[v0, v1, v2, v3]] w (fun e w' => e = .returned (.bool true) ∧ Below w.heap.size w w') := by
  have HK := Lib.hid (fun w1 (hb : Below w.heap.size w w1) => known5_any w1 (tab_below htab hb))
  have H1 := Lib.hid (fun w1 (hb : Below w.heap.size w w1) => pexpr_any x u0 u1 u2 u3 w1 hx (NdIn.keep (keeps_below hb) x _ hin) (tab_below htab hb))
  have H2 := Lib.hid (fun w1 (hb : Below w.heap.size w w1) => rexprP_any x u0 u1 u2 u3 w1 hx (NdIn.keep (keeps_below hb) x _ hin))
  have H3 := Lib.hid (fun w1 (hb : Below w.heap.size w w1) => pcond_any y v0 v1 v2 v3 w1 hy (NdIn.keep (keeps_below hb) y _ hjn) (tab_below htab hb))
  have H4 := Lib.hid (fun w1 (hb : Below w.heap.size w w1) => rcondP_any y v0 v1 v2 v3 w1 hy (NdIn.keep (keeps_below hb) y _ hjn))
  obtain ⟨P, hP⟩ : ∃ P, prjChk x = P := ⟨_, rfl⟩
  obtain ⟨R, hR⟩ : ∃ R, prjChk y = R := ⟨_, rfl⟩
  obtain ⟨S, hS⟩ : ∃ S, ansS x = S := ⟨_, rfl⟩
  obtain ⟨T, hT⟩ : ∃ T, ansS y = T := ⟨_, rfl⟩
  simp only [hP, hS] at H1 H2
  simp only [hR, hT] at H3 H4
  clear hP hR hS hT htab
  obtain ⟨nk, nn, ns, na, nl, nc, rfl, rfl, rfl, rfl⟩ := NdIn.formE hx hin
  obtain ⟨mk, mn, ma, ml, mc, ma2, ml2, mc2, rfl, rfl, rfl, rfl⟩ := NdIn.formC hy hjn
  clear hin hjn
  obtain ⟨W1, hW1⟩ : ∃ W1, (w.alloc (.cells #[.int .i64 nk, .int .i64 nn, .string ns, .slice na nl nc] 24)).alloc (.cells #[.int .i64 mk, .int .i64 mn, .slice ma ml mc, .slice ma2 ml2 mc2] 27) = W1 := ⟨_, rfl⟩
  have hal : Below w.heap.size w W1 := by rw [← hW1]; exact ((Below.refl _ w).alloc (Nat.le_refl _) _).alloc (by simp) _
  have hX1 : Blk W1 w.heap.size #[.int .i64 nk, .int .i64 nn, .string ns, .slice na nl nc] 24 := by rw [← hW1]; exact (Blk.new w _ _).alloc _
  have hX2 : Blk W1 (w.heap.size + 1) #[.int .i64 mk, .int .i64 mn, .slice ma ml mc, .slice ma2 ml2 mc2] 27 := by rw [← hW1]; exact Blk.at (by simp)
  have HX1 := Lib.hid hX1; clear hX1
  have HX2 := Lib.hid hX2; clear hX2
  have HAL := Lib.hid hal; clear hal
  have HW1 := Lib.hid hW1; clear hW1
  go_enter Tryd.func3, Tryd.ntmps3
  go_upto_region 1 with fail
  rw [HW1.out]
  clear HW1
  have HB0 := HAL
  have HC0 := Lib.hid (Below.refl W1.heap.size W1)
  go_wp2_with (first | (go_at_call 4; (with_reducible refine (HK.out _ HB0.out).mono ?_); rintro e w1 ⟨rfl, hb1⟩; have HB1 := Lib.hid (below_next HB0.out hb1); have hq := HC0.out.trans (hb1.mono HC0.out.size); have HC1 := Lib.hid hq; have hE := HX1.out.below hq HX1.out.lt; have hF := HX2.out.below hq HX2.out.lt; have f10 : w1.cell? ⟨w.heap.size, 0, none⟩ = some (.int .i64 nk) := hE.cell 0; have f11 : w1.cell? ⟨w.heap.size, 1, none⟩ = some (.int .i64 nn) := hE.cell 1; have f12 : w1.cell? ⟨w.heap.size, 2, none⟩ = some (.string ns) := hE.cell 2; have f13 : w1.cell? ⟨w.heap.size, 3, none⟩ = some (.slice na nl nc) := hE.cell 3; have g10 : w1.cell? ⟨w.heap.size + 1, 0, none⟩ = some (.int .i64 mk) := hF.cell 0; have g11 : w1.cell? ⟨w.heap.size + 1, 1, none⟩ = some (.int .i64 mn) := hF.cell 1; have g12 : w1.cell? ⟨w.heap.size + 1, 2, none⟩ = some (.slice ma ml mc) := hF.cell 2; have g13 : w1.cell? ⟨w.heap.size + 1, 3, none⟩ = some (.slice ma2 ml2 mc2) := hF.cell 3; clear hE hF hq hb1) | (go_at_call 5; (with_reducible refine (H1.out _ HB1.out).mono ?_); rintro e w2 ⟨rfl, hb2⟩; have HB2 := Lib.hid (below_next HB1.out hb2); have hq := HC1.out.trans (hb2.mono HC1.out.size); have HC2 := Lib.hid hq; have hE := HX1.out.below hq HX1.out.lt; have hF := HX2.out.below hq HX2.out.lt; have f20 : w2.cell? ⟨w.heap.size, 0, none⟩ = some (.int .i64 nk) := hE.cell 0; have f21 : w2.cell? ⟨w.heap.size, 1, none⟩ = some (.int .i64 nn) := hE.cell 1; have f22 : w2.cell? ⟨w.heap.size, 2, none⟩ = some (.string ns) := hE.cell 2; have f23 : w2.cell? ⟨w.heap.size, 3, none⟩ = some (.slice na nl nc) := hE.cell 3; have g20 : w2.cell? ⟨w.heap.size + 1, 0, none⟩ = some (.int .i64 mk) := hF.cell 0; have g21 : w2.cell? ⟨w.heap.size + 1, 1, none⟩ = some (.int .i64 mn) := hF.cell 1; have g22 : w2.cell? ⟨w.heap.size + 1, 2, none⟩ = some (.slice ma ml mc) := hF.cell 2; have g23 : w2.cell? ⟨w.heap.size + 1, 3, none⟩ = some (.slice ma2 ml2 mc2) := hF.cell 3; clear hE hF hq hb2) | (go_at_call 6; (with_reducible refine (H2.out _ HB2.out).mono ?_); rintro e w3 ⟨rfl, hb3⟩; have HB3 := Lib.hid (below_next HB2.out hb3); have hq := HC2.out.trans (hb3.mono HC2.out.size); have HC3 := Lib.hid hq; have hE := HX1.out.below hq HX1.out.lt; have hF := HX2.out.below hq HX2.out.lt; have f30 : w3.cell? ⟨w.heap.size, 0, none⟩ = some (.int .i64 nk) := hE.cell 0; have f31 : w3.cell? ⟨w.heap.size, 1, none⟩ = some (.int .i64 nn) := hE.cell 1; have f32 : w3.cell? ⟨w.heap.size, 2, none⟩ = some (.string ns) := hE.cell 2; have f33 : w3.cell? ⟨w.heap.size, 3, none⟩ = some (.slice na nl nc) := hE.cell 3; have g30 : w3.cell? ⟨w.heap.size + 1, 0, none⟩ = some (.int .i64 mk) := hF.cell 0; have g31 : w3.cell? ⟨w.heap.size + 1, 1, none⟩ = some (.int .i64 mn) := hF.cell 1; have g32 : w3.cell? ⟨w.heap.size + 1, 2, none⟩ = some (.slice ma ml mc) := hF.cell 2; have g33 : w3.cell? ⟨w.heap.size + 1, 3, none⟩ = some (.slice ma2 ml2 mc2) := hF.cell 3; clear hE hF hq hb3) | (go_at_call 7; (with_reducible refine (H3.out _ HB3.out).mono ?_); rintro e w4 ⟨rfl, hb4⟩; have HB4 := Lib.hid (below_next HB3.out hb4); have hq := HC3.out.trans (hb4.mono HC3.out.size); have HC4 := Lib.hid hq; have hE := HX1.out.below hq HX1.out.lt; have hF := HX2.out.below hq HX2.out.lt; have f40 : w4.cell? ⟨w.heap.size, 0, none⟩ = some (.int .i64 nk) := hE.cell 0; have f41 : w4.cell? ⟨w.heap.size, 1, none⟩ = some (.int .i64 nn) := hE.cell 1; have f42 : w4.cell? ⟨w.heap.size, 2, none⟩ = some (.string ns) := hE.cell 2; have f43 : w4.cell? ⟨w.heap.size, 3, none⟩ = some (.slice na nl nc) := hE.cell 3; have g40 : w4.cell? ⟨w.heap.size + 1, 0, none⟩ = some (.int .i64 mk) := hF.cell 0; have g41 : w4.cell? ⟨w.heap.size + 1, 1, none⟩ = some (.int .i64 mn) := hF.cell 1; have g42 : w4.cell? ⟨w.heap.size + 1, 2, none⟩ = some (.slice ma ml mc) := hF.cell 2; have g43 : w4.cell? ⟨w.heap.size + 1, 3, none⟩ = some (.slice ma2 ml2 mc2) := hF.cell 3; clear hE hF hq hb4) | (go_at_call 8; (with_reducible refine (H4.out _ HB4.out).mono ?_); rintro e w5 ⟨rfl, hb5⟩; have HB5 := Lib.hid (below_next HB4.out hb5); have hq := HC4.out.trans (hb5.mono HC4.out.size); have HC5 := Lib.hid hq; have hE := HX1.out.below hq HX1.out.lt; have hF := HX2.out.below hq HX2.out.lt; have f50 : w5.cell? ⟨w.heap.size, 0, none⟩ = some (.int .i64 nk) := hE.cell 0; have f51 : w5.cell? ⟨w.heap.size, 1, none⟩ = some (.int .i64 nn) := hE.cell 1; have f52 : w5.cell? ⟨w.heap.size, 2, none⟩ = some (.string ns) := hE.cell 2; have f53 : w5.cell? ⟨w.heap.size, 3, none⟩ = some (.slice na nl nc) := hE.cell 3; have g50 : w5.cell? ⟨w.heap.size + 1, 0, none⟩ = some (.int .i64 mk) := hF.cell 0; have g51 : w5.cell? ⟨w.heap.size + 1, 1, none⟩ = some (.int .i64 mn) := hF.cell 1; have g52 : w5.cell? ⟨w.heap.size + 1, 2, none⟩ = some (.slice ma ml mc) := hF.cell 2; have g53 : w5.cell? ⟨w.heap.size + 1, 3, none⟩ = some (.slice ma2 ml2 mc2) := hF.cell 3; clear hE hF hq hb5) | fail)
  go_ret
  exact ⟨rfl, HB5.out⟩
end Go.Proofs.YtepofbglpnnflaaDoor
