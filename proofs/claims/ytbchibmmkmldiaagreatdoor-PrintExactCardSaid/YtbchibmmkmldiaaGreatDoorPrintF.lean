/-
  The project's text of an expression (writer.expr): proved is that it is written behind what is there.
-/
import Derived.Test.YtbchibmmkmldiaaGreatDoorPrintE
namespace Go.Proofs.YtbchibmmkmldiaaGreatDoor
open Go Go.RowKit Go.Shelf

theorem fmt_any (n : Int) (h : i64ok n) (w : World) (htab : Lib.TabIs Tryz.prog w "internal/strconv.uint64pow10" .u64 Lib.pow10Tab) : Calls Tryz.prog 31 #[.int .i64 n, .int .i64 10] w (fun e w' => e = .returned (.string ⟨(Lib.itoa n).toArray⟩) ∧ Below w.heap.size w w') := by
  have h2 : -9223372036854775808 ≤ n ∧ n ≤ 9223372036854775807 := by
    unfold i64ok at h
    simp [Lit.wf] at h
    exact ⟨h.1, h.2⟩
  refine (Tryz.strconv_FormatInt_10 n h2.1 h2.2 w htab).mono ?_
  rintro e w' ⟨rfl, k, os, rfl⟩
  exact ⟨rfl, Lib.below_grow _ w (Nat.le_refl _) k os⟩
theorem levE_ge (k : Int) : 1 ≤ levE k ∧ levE k ≤ 4 := by
  unfold levE
  repeat' split
  all_goals exact ⟨by decide, by decide⟩
/-- An item of a list of expressions that lies in an elder world. -/
theorem item_at {w0 w : World} {xs : List Nd} {b0 o0 : Nat} (hr : RowIn w0 .E xs b0 o0) (hb : Below w0.heap.size w0 w) (i : Nat) (hi : i < xs.length) : ∃ k n s a len c, NdIn w0 xs[i] [.int .i64 k, .int .i64 n, .string s, .slice a len c] ∧ w.cell? ⟨b0, o0 + i * 4, none⟩ = some (.int .i64 k) ∧ w.cell? ⟨b0, o0 + i * 4 + 1, none⟩ = some (.int .i64 n) ∧ w.cell? ⟨b0, o0 + i * 4 + 2, none⟩ = some (.string s) ∧ w.cell? ⟨b0, o0 + i * 4 + 3, none⟩ = some (.slice a len c) := by
  obtain ⟨hty, vs, hc, hnd⟩ := RowIn.at xs b0 o0 i hi hr
  have hl := hnd.len
  rw [hty] at hl
  obtain ⟨v0, v1, v2, v3, rfl⟩ : ∃ a b c d, vs = [a, b, c, d] := by
    match vs, hl with
    | [a, b, c, d], _ => exact ⟨_, _, _, _, rfl⟩
  obtain ⟨k, n, s, a, len, c, rfl, rfl, rfl, rfl⟩ := NdIn.formE hty hnd
  have kk := keeps_below hb
  exact ⟨k, n, s, a, len, c, hnd, kk _ _ _ (hc 0 _ rfl), kk _ _ _ (hc 1 _ rfl), kk _ _ _ (hc 2 _ rfl), kk _ _ _ (hc 3 _ rfl)⟩

set_option maxRecDepth 100000 in
set_option maxHeartbeats 16000000 in
theorem expr_any (T : TypeId) (rest : List Value) (hT : Lies T (2 + rest.length)) (hT8 : T ≠ 5) (w0 : World) (B0 b : Nat) (hB0 : w0.heap.size ≤ B0) (htab : Lib.TabIs Tryz.prog w0 "internal/strconv.uint64pow10" .u64 Lib.pow10Tab) : ∀ (N : Nat) (x : Nd), SizeOf.sizeOf x ≤ N → x.ty = .E → goodT x → WExpr T rest w0 B0 b x := by
  intro N
  induction N with
  | zero =>
    intro x hN
    obtain ⟨ty, k, n, nm, xs, cs, ts, es⟩ := x
    simp only [Nd.mk.sizeOf_spec] at hN
    omega
  | succ N ih =>
    intro x hN hty hg us l w hin hw h hlen
    obtain ⟨ty, k, n, nm, xs, cs, ts, es⟩ := x
    simp only [Nd.mk.sizeOf_spec] at hN
    simp only [Nd.ty] at hty
    subst hty
    have hch := fun i (hi : i < xs.length) => ih xs[i] (by have := List.sizeOf_lt_of_mem (List.getElem_mem (l := xs) (n := i) hi); omega)
    unfold goodT at hg
    obtain ⟨⟨hk1, hk2, hkn, hk4, hk6⟩, hgx, -⟩ := hg
    have hcw := fun i (hi : i < xs.length) => hch i hi (goodTL_at hgx i hi).1 (goodTL_at hgx i hi).2
    have hcl := fun i (hi : i < xs.length) => txt_le _ xs[i] (Nat.le_refl _) (goodTL_at hgx i hi).2 (.inl (goodTL_at hgx i hi).1)
    have hct := fun i (hi : i < xs.length) => (goodTL_at hgx i hi).1
    have hcc := cstL_at xs
    clear ih hch hgx hN
    unfold NdIn at hin
    obtain ⟨hz, -, hn64, -, vx, vc, vt, ve, rfl, hxs, -⟩ := hin
    simp only [fits] at hz
    obtain ⟨rfl, rfl, rfl⟩ := hz
    obtain ⟨a, c, rfl, hlc, hcm, hrow⟩ := hxs
    change Calls _ _ #[_, .agg #[.int .i64 k, .int .i64 n, .string nm, .slice a xs.length c]] w _
    unfold cstN at hlen
    have hBw : B0 ≤ w.heap.size := Nat.le_trans h.base (Nat.le_of_lt h.size)
    obtain ⟨W1, hW1⟩ : ∃ W1, w.alloc (.cells #[.int .i64 k, .int .i64 n, .string nm, .slice a xs.length c] 36) = W1 := ⟨_, rfl⟩
    obtain ⟨X, hX⟩ : ∃ X, w.heap.size = X := ⟨_, rfl⟩
    have hX1 : Blk W1 X #[.int .i64 k, .int .i64 n, .string nm, .slice a xs.length c] 36 := by rw [← hW1, ← hX]; exact Blk.new w _ _
    have h1 : Bd T rest B0 b l W1 := by rw [← hW1]; exact h.alloc _
    have hk1' : Kp B0 b w W1 := by rw [← hW1]; exact (Kp.refl _ _ _).alloc hBw _
    have hXb : X ≠ b := by have := h.size; omega
    have hB1 : B0 ≤ W1.heap.size := Nat.le_trans hBw hk1'.size
    have hw1 : Below w0.heap.size w0 W1 := hk1'.old hw hB0
    have m0 : W1.cell? ⟨X, 0, none⟩ = some (.int .i64 k) := hX1.cell 0
    have m1 : W1.cell? ⟨X, 1, none⟩ = some (.int .i64 n) := hX1.cell 1
    have m2 : W1.cell? ⟨X, 2, none⟩ = some (.string nm) := hX1.cell 2
    have m3 : W1.cell? ⟨X, 3, none⟩ = some (.slice a xs.length c) := hX1.cell 3
    have hlv := levE_ge k
    have HE := Lib.hid (fun w2 => elev_any k w2)
    obtain ⟨lv, hlve⟩ : ∃ z, levE k = z := ⟨_, rfl⟩
    rw [hlve] at HE hlv
    obtain ⟨hlv1, hlv2⟩ := hlv
    have HX1 := Lib.hid hX1; clear hX1
    have HB1 := Lib.hid h1; clear h1 h
    have HK1 := Lib.hid hk1'; clear hk1'
    have HOLD := Lib.hid hw1; clear hw1 hw
    have HW1 := Lib.hid hW1; clear hW1
    have HXX := Lib.hid hX; clear hX
    have HLV := Lib.hid hlve; clear hlve
    have HROW := Lib.hid hrow; clear hrow
    have HCW := Lib.hid hcw; clear hcw
    have HCL := Lib.hid hcl; clear hcl
    have HCT := Lib.hid hct; clear hct
    have HCC := Lib.hid hcc; clear hcc
    have HTAB := Lib.hid (tab_next htab HOLD.out)
    go_enter Tryz.func17, Tryz.ntmps17
    go_upto_region 1 with fail
    rw [HW1.out, HXX.out]
    clear HW1

    by_cases q1 : k = 1
    · subst q1
      have hil := itoa_len hn64
      have HF := Lib.hid (fmt_any n hn64 W1.drew HTAB.out)
      go_upto_region 7 with (first | (go_at_call 29; (with_reducible refine (HE.out _).mono ?_); rintro e w2 ⟨rfl, rfl⟩) | fail)
      go_region_with (first | (go_at_call 31; (with_reducible refine HF.out.mono ?_); rintro e w3 ⟨rfl, hb3⟩; (have HC := Lib.hid (ws_any T rest B0 b l ⟨(Lib.itoa n).toArray⟩ w3 hT hT8 (HB1.out.drew.below hb3) (by simp only [show (⟨(Lib.itoa n).toArray⟩ : ByteArray).size = (Lib.itoa n).length from rfl]; omega) (Nat.le_trans hB1 hb3.size))); (have HK3 := Lib.hid (HK1.out.drew.trans (Kp.below hb3 hB1))); clear hb3) | (go_at_call 30; (with_reducible refine HC.out.mono ?_); rintro e w4 ⟨rfl, h4, hk4⟩; (have H4 := Lib.hid h4); (have HK4 := Lib.hid (HK3.out.trans hk4)); clear h4 hk4))
      all_goals
        go_wp2_with fail
        go_end0
        exact ⟨rfl, .inr (by rw [txt_1]; exact H4.out), HK4.out⟩
    have t1 : (k == 1) = false := by simpa using q1
    by_cases q2 : k = 2
    · subst q2
      have HC := Lib.hid (ws_any T rest B0 b l nm W1.drew hT hT8 HB1.out.drew (by omega) hB1)
      go_upto_region 9 with (first | (go_at_call 29; (with_reducible refine (HE.out _).mono ?_); rintro e w2 ⟨rfl, rfl⟩) | fail)
      go_region_with (go_at_call 30; (with_reducible refine HC.out.mono ?_); rintro e w4 ⟨rfl, h4, hk4⟩; (have H4 := Lib.hid h4); (have HK4 := Lib.hid (HK1.out.drew.trans hk4)); clear h4 hk4)
      all_goals
        go_wp2_with fail
        go_end0
        exact ⟨rfl, .inr (by rw [txt_2]; exact H4.out), HK4.out⟩
    have t2 : (k == 2) = false := by simpa using q2
    by_cases q3 : k = 3
    · subst q3
      have HC := Lib.hid (ws_any T rest B0 b l ⟨#[105, 110, 112, 117, 116]⟩ W1 hT hT8 HB1.out (by simp only [show (⟨#[105, 110, 112, 117, 116]⟩ : ByteArray).size = 5 from rfl]; omega) hB1)
      go_wp2_with (first | (go_at_call 29; (with_reducible refine (HE.out _).mono ?_); rintro e w2 ⟨rfl, rfl⟩) | (go_at_call 30; (with_reducible refine HC.out.mono ?_); rintro e w4 ⟨rfl, h4, hk4⟩; (have H4 := Lib.hid h4); (have HK4 := Lib.hid (HK1.out.trans hk4)); clear h4 hk4) | fail)
      go_end0
      exact ⟨rfl, .inr (by rw [txt_3]; exact H4.out), HK4.out⟩
    have t3 : (k == 3) = false := by simpa using q3
    by_cases q4 : k = 4
    · have hl1 := hk4 (.inl q4)
      subst q4
      have h0 : 0 < xs.length := by omega
      obtain ⟨b0, o0, rfl, hrow⟩ := HROW.out.resolve_left (by omega)
      obtain ⟨ck, cn, cs, ca, cl, cc, hnd, g0, g1, g2, g3⟩ := item_at hrow HOLD.out 0 h0
      simp only [Nat.zero_mul, Nat.add_zero] at g0 g1 g2 g3
      have hcx := HCC.out 0 h0
      have HC := Lib.hid (item_any T rest hT hT8 w0 B0 b hB0 xs[0] (HCT.out 0 h0) (HCW.out 0 h0) (HCL.out 0 h0) nm _ l W1.drew hnd HOLD.out.drew HB1.out.drew (by omega))
      clear hrow hnd
      have hx1 : (0 : Int) < xs.length := by omega
      go_upto_region 13 with (first | (go_at_call 29; (with_reducible refine (HE.out _).mono ?_); rintro e w2 ⟨rfl, rfl⟩) | fail)
      go_region_with (go_at_call 32; (with_reducible refine HC.out.mono ?_); rintro e w4 ⟨rfl, h4, hk4⟩; (have H4 := Lib.hid h4); (have HK4 := Lib.hid (HK1.out.drew.trans hk4)); clear h4 hk4)
      all_goals
        go_wp2_with fail
        go_end0
        exact ⟨rfl, by rw [txt_4 _ _ _ _ _ _ h0]; exact H4.out, HK4.out⟩
    have t4 : (k == 4) = false := by simpa using q4
    by_cases q5 : k = 5
    · have hl1 := hk4 (.inr q5)
      subst q5
      have h0 : 0 < xs.length := by omega
      obtain ⟨b0, o0, rfl, hrow⟩ := HROW.out.resolve_left (by omega)
      have hcx := HCC.out 0 h0
      obtain rfl : lv = 3 := HLV.out.symm
      have HC := Lib.hid (ws_any T rest B0 b l ⟨#[45]⟩ W1 hT hT8 HB1.out (by simp only [show (⟨#[45]⟩ : ByteArray).size = 1 from rfl]; omega) hB1)
      have hx1 : (0 : Int) < xs.length := by omega
      go_upto_region 16 with (first | (go_at_call 29; (with_reducible refine (HE.out _).mono ?_); rintro e w2 ⟨rfl, rfl⟩) | (go_at_call 30; (with_reducible refine HC.out.mono ?_); rintro e w4 ⟨rfl, h4, hk4⟩) | fail)
      obtain ⟨ck, cn, cs, ca, cl, cc, hnd, g0, g1, g2, g3⟩ := item_at hrow (hk4.old HOLD.out hB0) 0 h0
      simp only [Nat.zero_mul, Nat.add_zero] at g0 g1 g2 g3
      have hX4 := HX1.out.kp hk4 hXb (by decide)
      have j3 : w4.cell? ⟨X, 3, none⟩ = some (.slice (some ⟨b0, o0, none⟩) xs.length c) := hX4.cell 3
      have HC2 := Lib.hid (arg_any T rest hT hT8 w0 B0 b hB0 xs[0] (HCT.out 0 h0) (HCW.out 0 h0) (HCL.out 0 h0) _ 3 _ w4 hnd (hk4.old HOLD.out hB0) (.inr h4) (by simp only [List.length_append, show (⟨#[45]⟩ : ByteArray).data.toList.length = 1 from rfl]; omega))
      have HK4 := Lib.hid (HK1.out.trans hk4)
      clear h4 hk4 hnd hrow hX4 HC
      go_wp2_with fail
      refine HC2.out.mono ?_
      rintro e w5 ⟨rfl, h5, hk5⟩
      have H5 := Lib.hid h5; clear h5
      have HK5 := Lib.hid (HK4.out.trans hk5); clear hk5
      go_wp2_with fail
      go_end0
      exact ⟨rfl, by rw [txt_5 _ _ _ _ _ _ h0]; have := H5.out; rw [List.append_assoc] at this; exact this, HK5.out⟩
    have t5 : (k == 5) = false := by simpa using q5
    have hl2 := hk6 (by omega)
    have h0 : 0 < xs.length := by omega
    have h1 : 1 < xs.length := by omega
    obtain ⟨b0, o0, rfl, hrow⟩ := HROW.out.resolve_left (by omega)
    obtain ⟨ck, cn, cs, ca, cl, cc, hnd, g0, g1, g2, g3⟩ := item_at hrow HOLD.out 0 h0
    simp only [Nat.zero_mul, Nat.add_zero] at g0 g1 g2 g3
    have hcx : cstN (xs[0]'h0) + cstN (xs[1]'h1) ≤ cstL xs := by
      obtain ⟨y, z, hyz⟩ := two_of hl2
      subst hyz
      simp only [List.getElem_cons_zero, List.getElem_cons_succ, cstL]
      omega
    have hsgl := sgnE_len k
    have HTX := Lib.hid (txt_e k n nm xs [] [] [] h0 h1 ⟨q1, q2, q3, q4, q5⟩)
    have hp0 := par_len (decide (levE (kdN xs[0]) < lv)) ⟨#[40]⟩ ⟨#[41]⟩ (txtN xs[0]) rfl rfl
    have hle0 := HCL.out 0 h0
    have HC := Lib.hid (arg_any T rest hT hT8 w0 B0 b hB0 xs[0] (HCT.out 0 h0) (HCW.out 0 h0) (HCL.out 0 h0) _ lv l W1 hnd HOLD.out HB1.out (by omega))
    obtain ⟨P0, hP0⟩ : ∃ P, par (decide (levE (kdN xs[0]) < lv)) ⟨#[40]⟩ ⟨#[41]⟩ (txtN xs[0]) = P := ⟨_, rfl⟩
    rw [hP0] at HC hp0
    have HP0 := Lib.hid hP0
    clear hnd hP0 q1 q2 q3 q4 q5
    have hx1 : (0 : Int) < xs.length := by omega
    have hx2 : (1 : Int) < xs.length := by omega
    go_upto_region 4 with (first | (go_at_call 29; (with_reducible refine (HE.out _).mono ?_); rintro e w2 ⟨rfl, rfl⟩) | (go_at_call 33; (with_reducible refine HC.out.mono ?_); rintro e w4 ⟨rfl, h4, hk4⟩) | fail)
    have hX4 := HX1.out.kp hk4 hXb (by decide)
    have j0 : w4.cell? ⟨X, 0, none⟩ = some (.int .i64 k) := hX4.cell 0
    have HS := Lib.hid (fun w2 => esgn_any k w2)
    have HC2 := Lib.hid (sign_any T rest B0 b _ (sgnE k) w4 hT hT8 h4 (by simp only [List.length_append, show (sgnE k).size = (sgnE k).data.toList.length from rfl]; omega) (Nat.le_trans hB1 hk4.size))
    have HX4 := Lib.hid hX4; clear hX4
    have HK4 := Lib.hid (HK1.out.trans hk4)
    have HOLD4 := Lib.hid (hk4.old HOLD.out hB0)
    have hB4 : B0 ≤ w4.heap.size := Nat.le_trans hB1 hk4.size
    clear h4 hk4 HC g0 g1 g2 g3
    obtain ⟨SGN, hSGN⟩ : ∃ s, sgnE k = s := ⟨_, rfl⟩
    rw [hSGN] at HS HC2 hsgl
    have HSG := Lib.hid hSGN; clear hSGN
    go_upto_region 5 with (first | (go_at_call 35; (with_reducible refine (HS.out _).mono ?_); rintro e w5 ⟨rfl, rfl⟩) | (go_at_call 34; (with_reducible refine HC2.out.mono ?_); rintro e w6 ⟨rfl, h6, hk6'⟩) | fail)
    have hX6 := HX4.out.kp hk6' hXb (by decide)
    have j3 : w6.cell? ⟨X, 3, none⟩ = some (.slice (some ⟨b0, o0, none⟩) xs.length c) := hX6.cell 3
    have hold6 := hk6'.old HOLD4.out hB0
    obtain ⟨ck, cn, cs, ca, cl, cc, hnd, g0, g1, g2, g3⟩ := item_at hrow hold6 1 h1
    simp only [Nat.one_mul] at g0 g1 g2 g3
    have HC3 := Lib.hid (arg_any T rest hT hT8 w0 B0 b hB0 xs[1] (HCT.out 1 h1) (HCW.out 1 h1) (HCL.out 1 h1) _ (lv + 1) _ w6 hnd hold6 h6 (by simp only [List.length_append, List.length_cons, List.length_nil]; omega))
    have HK6 := Lib.hid (HK4.out.trans hk6')
    clear h6 hk6' hnd hrow hX6 hold6 HC2 HOLD4
    go_wp2_with fail
    refine HC3.out.mono ?_
    rintro e w7 ⟨rfl, h7, hk7⟩
    have H7 := Lib.hid h7; clear h7
    have HK7 := Lib.hid (HK6.out.trans hk7); clear hk7
    go_wp2_with fail
    go_end0
    exact ⟨rfl, by rw [HTX.out, HLV.out, HP0.out, HSG.out]; have := H7.out; simpa using this, HK7.out⟩
end Go.Proofs.YtbchibmmkmldiaaGreatDoor
