/-
  The entry points of the text of an expression and of a condition (the project's print.Expr, print.Cond; the document's Expr, Cond): proved is that the project's and the document's answer one text and one fault.
-/
import Derived.Test.YtepofbglpnnflaaDoorPrintG
import Derived.Test.YtepofbglpnnflaaDoorPrintK
import Derived.Test.YtepofbglpnnflaaDoorPrintC
import Derived.Test.YtepofbglpnnflaaDoorOwnX
import Derived.Test.YtepofbglpnnflaaDoorFormD
import Derived.Test.YtepofbglpnnflaaDoorPlainD
namespace Go.Proofs.YtepofbglpnnflaaDoor
open Go Go.RowKit

/-- What is told of a node: its text, where it has no fault. -/
def ansS (x : Nd) : ByteArray := if prjChk x = 0 then bts (txtN x) else ⟨#[]⟩
theorem ans_ok {x : Nd} (h : prjChk x = 0) : ansS x = bts (txtN x) := if_pos h
theorem ans_bad {x : Nd} (h : ¬ prjChk x = 0) : ansS x = ⟨#[]⟩ := if_neg h
theorem lies_w : Lies 43 (2 + ([] : List Value).length) := by unfold Lies; kernel_rfl
theorem w_ne : 43 ≠ 5 := by decide
theorem prj_same {w : World} {x : Nd} {vs : List Value} (h : NdIn w x vs) (hty : x.ty ≠ .D) : docChk x = prjChk x := checks_same x (noD_N w x vs h hty)
theorem tab_below {w w' : World} {k : IntKind} {n : String} {zs : List Int} (h : Lib.TabIs Tryd.prog w n k zs) (hb : Below w.heap.size w w') : Lib.TabIs Tryd.prog w' n k zs := tab_next h hb

set_option maxRecDepth 100000 in
set_option maxHeartbeats 4000000 in
theorem pexpr_any (x : Nd) (v0 v1 v2 v3 : Value) (w : World) (hty : x.ty = .E) (hin : NdIn w x [v0, v1, v2, v3]) (htab : Lib.TabIs Tryd.prog w "internal/strconv.uint64pow10" .u64 Lib.pow10Tab) :
    Calls Tryd.prog 5 #[.agg #[v0, v1, v2, v3]] w (fun e w' => e = .returned (.tuple #[.string (ansS x), .int .i64 (prjChk x)]) ∧ Below w.heap.size w w') := by
  obtain ⟨W1, hW1⟩ : ∃ W1, w.alloc (.cells #[v0, v1, v2, v3] 24) = W1 := ⟨_, rfl⟩
  have hb : Below w.heap.size w W1 := by rw [← hW1]; exact (Below.refl _ w).alloc (Nat.le_refl _) _
  have hE1 : Blk W1 w.heap.size #[v0, v1, v2, v3] 24 := by rw [← hW1]; exact Blk.new w _ _
  have hC := fun w1 (hb : Below w.heap.size w w1) => treeExpr_any x v0 v1 v2 v3 w1 hty (NdIn.keep (keeps_below hb) x _ hin)
  have hg := fun h => chk_good (x := x) (.inl hty) hin h
  have HG := Lib.hid hg; clear hg
  have HIN := Lib.hid hin
  have HS := Lib.hid (@ans_ok x)
  have HN := Lib.hid (@ans_bad x)
  have HTAB := Lib.hid htab; clear htab
  obtain ⟨P, hP⟩ : ∃ P, prjChk x = P := ⟨_, rfl⟩
  obtain ⟨A, hA⟩ : ∃ A, ansS x = A := ⟨_, rfl⟩
  rw [hP] at HG HS HN
  simp only [hP] at hC
  rw [hA] at HS HN
  rw [hP, hA]
  have HC := Lib.hid hC; clear hC
  have HB := Lib.hid hb; clear hb
  have HW1 := Lib.hid hW1; clear hW1
  have HTY := Lib.hid hty; clear hty
  clear hP hA hin
  have e0 : W1.cell? ⟨w.heap.size, 0, none⟩ = some v0 := hE1.cell 0
  have e1 : W1.cell? ⟨w.heap.size, 1, none⟩ = some v1 := hE1.cell 1
  have e2 : W1.cell? ⟨w.heap.size, 2, none⟩ = some v2 := hE1.cell 2
  have e3 : W1.cell? ⟨w.heap.size, 3, none⟩ = some v3 := hE1.cell 3
  have HE1 := Lib.hid hE1; clear hE1
  go_enter Tryd.func5, Tryd.ntmps5
  go_upto_region 1 with fail
  rw [HW1.out]
  clear HW1
  by_cases hz : P = 0
  · have hz1 : (P != 0) = false := by simpa using hz
    go_upto_region 5 with (first | (go_at_call 9; (with_reducible refine (HC.out _ (by first | exact HB.out | exact HB.out.drew)).mono ?_); rintro e w2 ⟨rfl, hb2⟩) | fail)
    have hw2 : Below w.heap.size w w2 := below_next (by first | exact HB.out | exact HB.out.drew) hb2
    have hE2 : Blk w2 w.heap.size #[v0, v1, v2, v3] 24 := by first | exact HE1.out.below hb2 HE1.out.lt | exact (HE1.out.below (Below.refl _ _).drew HE1.out.lt).below hb2 (HE1.out.below (Below.refl _ _).drew HE1.out.lt).lt
    obtain ⟨W3, hW3⟩ : ∃ W3, w2.alloc (.cells #[.pointer none, .slice none 0 0] 43) = W3 := ⟨_, rfl⟩
    obtain ⟨B, hB⟩ : ∃ B, w2.heap.size = B := ⟨_, rfl⟩
    have hw3 : Below w.heap.size w W3 := by rw [← hW3]; exact hw2.alloc hw2.size _
    have hE3 : Blk W3 w.heap.size #[v0, v1, v2, v3] 24 := by rw [← hW3]; exact hE2.alloc _
    have hD : Bd 43 [] w.heap.size B [] W3 := by
      rw [← hW3, ← hB]
      exact .inl ⟨hw2.size, rfl, Blk.new w2 _ _⟩
    obtain ⟨hg1, hg2⟩ := HG.out hz
    have hF := expr_any 43 [] lies_w w_ne w w.heap.size B (Nat.le_refl _) HTAB.out _ x (Nat.le_refl _) HTY.out hg1 [v0, v1, v2, v3] [] W3 HIN.out hw3 hD (by simp only [List.length_nil]; omega)
    have HF := Lib.hid hF; clear hF
    rw [hW3, hB]
    have f0 : W3.cell? ⟨w.heap.size, 0, none⟩ = some v0 := hE3.cell 0
    have f1 : W3.cell? ⟨w.heap.size, 1, none⟩ = some v1 := hE3.cell 1
    have f2 : W3.cell? ⟨w.heap.size, 2, none⟩ = some v2 := hE3.cell 2
    have f3 : W3.cell? ⟨w.heap.size, 3, none⟩ = some v3 := hE3.cell 3
    have HW3 := Lib.hid hw3; clear hw3
    clear hE3 hD hE2 hw2 hb2 hW3 e0 e1 e2 e3 HC HE1 HG hg1 hg2 hB hz1
    clear HN
    have HZ := Lib.hid hz; clear hz
    go_wp2_with (first | (go_at_call 10; (with_reducible refine HF.out.mono ?_); rintro e w4 ⟨rfl, hd4, hk4⟩; have HD := Lib.hid hd4; clear hd4; have HK := Lib.hid hk4; clear hk4) | (go_at_call 11; (with_reducible refine (str_any 43 [] w.heap.size B _ _ (by first | exact HD.out | exact HD.out.drew)).mono ?_); rintro e w5 ⟨rfl, hb5⟩) | fail)
    go_ret2
    exact ⟨by rw [HS.out HZ.out, HZ.out]; rfl, (HW3.out.trans HK.out.1).trans hb5⟩
  · have hz1 : (P != 0) = true := by simpa using hz
    go_wp2_with (first | (go_at_call 9; (with_reducible refine (HC.out _ (by first | exact HB.out | exact HB.out.drew)).mono ?_); rintro e w2 ⟨rfl, hb2⟩) | fail)
    go_ret2
    exact ⟨by rw [HN.out hz]; rfl, below_next (by first | exact HB.out | exact HB.out.drew) hb2⟩

set_option maxRecDepth 100000 in
set_option maxHeartbeats 4000000 in
theorem pcond_any (x : Nd) (v0 v1 v2 v3 : Value) (w : World) (hty : x.ty = .C) (hin : NdIn w x [v0, v1, v2, v3]) (htab : Lib.TabIs Tryd.prog w "internal/strconv.uint64pow10" .u64 Lib.pow10Tab) :
    Calls Tryd.prog 7 #[.agg #[v0, v1, v2, v3]] w (fun e w' => e = .returned (.tuple #[.string (ansS x), .int .i64 (prjChk x)]) ∧ Below w.heap.size w w') := by
  obtain ⟨W1, hW1⟩ : ∃ W1, w.alloc (.cells #[v0, v1, v2, v3] 27) = W1 := ⟨_, rfl⟩
  have hb : Below w.heap.size w W1 := by rw [← hW1]; exact (Below.refl _ w).alloc (Nat.le_refl _) _
  have hE1 : Blk W1 w.heap.size #[v0, v1, v2, v3] 27 := by rw [← hW1]; exact Blk.new w _ _
  have hC := fun w1 (hb : Below w.heap.size w w1) => treeCond_any x v0 v1 v2 v3 w1 hty (NdIn.keep (keeps_below hb) x _ hin)
  have hg := fun h => chk_good (x := x) (.inr hty) hin h
  have HG := Lib.hid hg; clear hg
  have HIN := Lib.hid hin
  have HS := Lib.hid (@ans_ok x)
  have HN := Lib.hid (@ans_bad x)
  have HTAB := Lib.hid htab; clear htab
  obtain ⟨P, hP⟩ : ∃ P, prjChk x = P := ⟨_, rfl⟩
  obtain ⟨A, hA⟩ : ∃ A, ansS x = A := ⟨_, rfl⟩
  rw [hP] at HG HS HN
  simp only [hP] at hC
  rw [hA] at HS HN
  rw [hP, hA]
  have HC := Lib.hid hC; clear hC
  have HB := Lib.hid hb; clear hb
  have HW1 := Lib.hid hW1; clear hW1
  have HTY := Lib.hid hty; clear hty
  clear hP hA hin
  have e0 : W1.cell? ⟨w.heap.size, 0, none⟩ = some v0 := hE1.cell 0
  have e1 : W1.cell? ⟨w.heap.size, 1, none⟩ = some v1 := hE1.cell 1
  have e2 : W1.cell? ⟨w.heap.size, 2, none⟩ = some v2 := hE1.cell 2
  have e3 : W1.cell? ⟨w.heap.size, 3, none⟩ = some v3 := hE1.cell 3
  have HE1 := Lib.hid hE1; clear hE1
  go_enter Tryd.func7, Tryd.ntmps7
  go_upto_region 1 with fail
  rw [HW1.out]
  clear HW1
  by_cases hz : P = 0
  · have hz1 : (P != 0) = false := by simpa using hz
    go_upto_region 5 with (first | (go_at_call 14; (with_reducible refine (HC.out _ (by first | exact HB.out | exact HB.out.drew)).mono ?_); rintro e w2 ⟨rfl, hb2⟩) | fail)
    have hw2 : Below w.heap.size w w2 := below_next (by first | exact HB.out | exact HB.out.drew) hb2
    have hE2 : Blk w2 w.heap.size #[v0, v1, v2, v3] 27 := by first | exact HE1.out.below hb2 HE1.out.lt | exact (HE1.out.below (Below.refl _ _).drew HE1.out.lt).below hb2 (HE1.out.below (Below.refl _ _).drew HE1.out.lt).lt
    obtain ⟨W3, hW3⟩ : ∃ W3, w2.alloc (.cells #[.pointer none, .slice none 0 0] 43) = W3 := ⟨_, rfl⟩
    obtain ⟨B, hB⟩ : ∃ B, w2.heap.size = B := ⟨_, rfl⟩
    have hw3 : Below w.heap.size w W3 := by rw [← hW3]; exact hw2.alloc hw2.size _
    have hE3 : Blk W3 w.heap.size #[v0, v1, v2, v3] 27 := by rw [← hW3]; exact hE2.alloc _
    have hD : Bd 43 [] w.heap.size B [] W3 := by
      rw [← hW3, ← hB]
      exact .inl ⟨hw2.size, rfl, Blk.new w2 _ _⟩
    obtain ⟨hg1, hg2⟩ := HG.out hz
    have hF := cond_any 43 [] lies_w w_ne w w.heap.size B (Nat.le_refl _) HTAB.out _ x (Nat.le_refl _) HTY.out hg1 [v0, v1, v2, v3] [] W3 HIN.out hw3 hD (by simp only [List.length_nil]; omega)
    have HF := Lib.hid hF; clear hF
    rw [hW3, hB]
    have f0 : W3.cell? ⟨w.heap.size, 0, none⟩ = some v0 := hE3.cell 0
    have f1 : W3.cell? ⟨w.heap.size, 1, none⟩ = some v1 := hE3.cell 1
    have f2 : W3.cell? ⟨w.heap.size, 2, none⟩ = some v2 := hE3.cell 2
    have f3 : W3.cell? ⟨w.heap.size, 3, none⟩ = some v3 := hE3.cell 3
    have HW3 := Lib.hid hw3; clear hw3
    clear hE3 hD hE2 hw2 hb2 hW3 e0 e1 e2 e3 HC HE1 HG hg1 hg2 hB hz1
    clear HN
    have HZ := Lib.hid hz; clear hz
    go_wp2_with (first | (go_at_call 15; (with_reducible refine HF.out.mono ?_); rintro e w4 ⟨rfl, hd4, hk4⟩; have HD := Lib.hid hd4; clear hd4; have HK := Lib.hid hk4; clear hk4) | (go_at_call 11; (with_reducible refine (str_any 43 [] w.heap.size B _ _ (by first | exact HD.out | exact HD.out.drew)).mono ?_); rintro e w5 ⟨rfl, hb5⟩) | fail)
    go_ret2
    exact ⟨by rw [HS.out HZ.out, HZ.out]; rfl, (HW3.out.trans HK.out.1).trans hb5⟩
  · have hz1 : (P != 0) = true := by simpa using hz
    go_wp2_with (first | (go_at_call 14; (with_reducible refine (HC.out _ (by first | exact HB.out | exact HB.out.drew)).mono ?_); rintro e w2 ⟨rfl, hb2⟩) | fail)
    go_ret2
    exact ⟨by rw [HN.out hz]; rfl, below_next (by first | exact HB.out | exact HB.out.drew) hb2⟩

set_option maxRecDepth 100000 in
set_option maxHeartbeats 4000000 in
theorem rexprP_any (x : Nd) (v0 v1 v2 v3 : Value) (w : World) (hty : x.ty = .E) (hin : NdIn w x [v0, v1, v2, v3]) :
    Calls Tryd.prog 6 #[.agg #[v0, v1, v2, v3]] w (fun e w' => e = .returned (.tuple #[.string (ansS x), .int .i64 (prjChk x)]) ∧ Below w.heap.size w w') := by
  obtain ⟨W1, hW1⟩ : ∃ W1, w.alloc (.cells #[v0, v1, v2, v3] 24) = W1 := ⟨_, rfl⟩
  have hb : Below w.heap.size w W1 := by rw [← hW1]; exact (Below.refl _ w).alloc (Nat.le_refl _) _
  have hE1 : Blk W1 w.heap.size #[v0, v1, v2, v3] 24 := by rw [← hW1]; exact Blk.new w _ _
  have hC := fun w1 (hb : Below w.heap.size w w1) => refexpr_any x v0 v1 v2 v3 w1 hty (NdIn.keep (keeps_below hb) x _ hin)
  rw [prj_same hin (by rw [hty]; decide)] at hC
  have hg := fun h => chk_good (x := x) (.inl hty) hin h
  have HG := Lib.hid hg; clear hg
  have HIN := Lib.hid hin
  have HS := Lib.hid (@ans_ok x)
  have HN := Lib.hid (@ans_bad x)
  obtain ⟨P, hP⟩ : ∃ P, prjChk x = P := ⟨_, rfl⟩
  obtain ⟨A, hA⟩ : ∃ A, ansS x = A := ⟨_, rfl⟩
  rw [hP] at HG HS HN
  simp only [hP] at hC
  rw [hA] at HS HN
  rw [hP, hA]
  have HC := Lib.hid hC; clear hC
  have HB := Lib.hid hb; clear hb
  have HW1 := Lib.hid hW1; clear hW1
  have HTY := Lib.hid hty; clear hty
  clear hP hA hin
  have e0 : W1.cell? ⟨w.heap.size, 0, none⟩ = some v0 := hE1.cell 0
  have e1 : W1.cell? ⟨w.heap.size, 1, none⟩ = some v1 := hE1.cell 1
  have e2 : W1.cell? ⟨w.heap.size, 2, none⟩ = some v2 := hE1.cell 2
  have e3 : W1.cell? ⟨w.heap.size, 3, none⟩ = some v3 := hE1.cell 3
  have HE1 := Lib.hid hE1; clear hE1
  go_enter Tryd.func6, Tryd.ntmps6
  go_upto_region 1 with fail
  rw [HW1.out]
  clear HW1
  by_cases hz : P = 0
  · have hz1 : (P != 0) = false := by simpa using hz
    obtain ⟨hg1, hg2⟩ := HG.out hz
    have hF := fun w1 (hb : Below w.heap.size w w1) => rexpr_any w _ x (Nat.le_refl _) HTY.out hg1 (by omega) [v0, v1, v2, v3] w1 HIN.out hb
    have HF := Lib.hid hF; clear hF
    clear HN HG hg1 hg2
    have HZ := Lib.hid hz; clear hz
    go_wp2_with (first | (go_at_call 12; (with_reducible refine (HC.out _ (by first | exact HB.out | exact HB.out.drew)).mono ?_); rintro e w2 ⟨rfl, hb2⟩; have hE2 := HE1.out.below hb2 HE1.out.lt; have f0 : w2.cell? ⟨w.heap.size, 0, none⟩ = some v0 := hE2.cell 0; have f1 : w2.cell? ⟨w.heap.size, 1, none⟩ = some v1 := hE2.cell 1; have f2 : w2.cell? ⟨w.heap.size, 2, none⟩ = some v2 := hE2.cell 2; have f3 : w2.cell? ⟨w.heap.size, 3, none⟩ = some v3 := hE2.cell 3; have HB2 := Lib.hid (below_next HB.out hb2); clear hE2) | (go_at_call 13; (with_reducible refine (HF.out _ (by first | exact HB2.out | exact HB2.out.drew)).mono ?_); rintro e w3 ⟨rfl, hb3⟩) | fail)
    go_ret2
    exact ⟨by rw [HS.out HZ.out, HZ.out]; rfl, below_next (by first | exact HB2.out | exact HB2.out.drew) hb3⟩
  · have hz1 : (P != 0) = true := by simpa using hz
    go_wp2_with (first | (go_at_call 12; (with_reducible refine (HC.out _ (by first | exact HB.out | exact HB.out.drew)).mono ?_); rintro e w2 ⟨rfl, hb2⟩) | fail)
    go_ret2
    exact ⟨by rw [HN.out hz]; rfl, below_next (by first | exact HB.out | exact HB.out.drew) hb2⟩

set_option maxRecDepth 100000 in
set_option maxHeartbeats 4000000 in
theorem rcondP_any (x : Nd) (v0 v1 v2 v3 : Value) (w : World) (hty : x.ty = .C) (hin : NdIn w x [v0, v1, v2, v3]) :
    Calls Tryd.prog 8 #[.agg #[v0, v1, v2, v3]] w (fun e w' => e = .returned (.tuple #[.string (ansS x), .int .i64 (prjChk x)]) ∧ Below w.heap.size w w') := by
  obtain ⟨W1, hW1⟩ : ∃ W1, w.alloc (.cells #[v0, v1, v2, v3] 27) = W1 := ⟨_, rfl⟩
  have hb : Below w.heap.size w W1 := by rw [← hW1]; exact (Below.refl _ w).alloc (Nat.le_refl _) _
  have hE1 : Blk W1 w.heap.size #[v0, v1, v2, v3] 27 := by rw [← hW1]; exact Blk.new w _ _
  have hC := fun w1 (hb : Below w.heap.size w w1) => refcond_any x v0 v1 v2 v3 w1 hty (NdIn.keep (keeps_below hb) x _ hin)
  rw [prj_same hin (by rw [hty]; decide)] at hC
  have hg := fun h => chk_good (x := x) (.inr hty) hin h
  have HG := Lib.hid hg; clear hg
  have HIN := Lib.hid hin
  have HS := Lib.hid (@ans_ok x)
  have HN := Lib.hid (@ans_bad x)
  obtain ⟨P, hP⟩ : ∃ P, prjChk x = P := ⟨_, rfl⟩
  obtain ⟨A, hA⟩ : ∃ A, ansS x = A := ⟨_, rfl⟩
  rw [hP] at HG HS HN
  simp only [hP] at hC
  rw [hA] at HS HN
  rw [hP, hA]
  have HC := Lib.hid hC; clear hC
  have HB := Lib.hid hb; clear hb
  have HW1 := Lib.hid hW1; clear hW1
  have HTY := Lib.hid hty; clear hty
  clear hP hA hin
  have e0 : W1.cell? ⟨w.heap.size, 0, none⟩ = some v0 := hE1.cell 0
  have e1 : W1.cell? ⟨w.heap.size, 1, none⟩ = some v1 := hE1.cell 1
  have e2 : W1.cell? ⟨w.heap.size, 2, none⟩ = some v2 := hE1.cell 2
  have e3 : W1.cell? ⟨w.heap.size, 3, none⟩ = some v3 := hE1.cell 3
  have HE1 := Lib.hid hE1; clear hE1
  go_enter Tryd.func8, Tryd.ntmps8
  go_upto_region 1 with fail
  rw [HW1.out]
  clear HW1
  by_cases hz : P = 0
  · have hz1 : (P != 0) = false := by simpa using hz
    obtain ⟨hg1, hg2⟩ := HG.out hz
    have hF := fun w1 (hb : Below w.heap.size w w1) => rcond_any w _ x (Nat.le_refl _) HTY.out hg1 (by omega) [v0, v1, v2, v3] w1 HIN.out hb
    have HF := Lib.hid hF; clear hF
    clear HN HG hg1 hg2
    have HZ := Lib.hid hz; clear hz
    go_wp2_with (first | (go_at_call 16; (with_reducible refine (HC.out _ (by first | exact HB.out | exact HB.out.drew)).mono ?_); rintro e w2 ⟨rfl, hb2⟩; have hE2 := HE1.out.below hb2 HE1.out.lt; have f0 : w2.cell? ⟨w.heap.size, 0, none⟩ = some v0 := hE2.cell 0; have f1 : w2.cell? ⟨w.heap.size, 1, none⟩ = some v1 := hE2.cell 1; have f2 : w2.cell? ⟨w.heap.size, 2, none⟩ = some v2 := hE2.cell 2; have f3 : w2.cell? ⟨w.heap.size, 3, none⟩ = some v3 := hE2.cell 3; have HB2 := Lib.hid (below_next HB.out hb2); clear hE2) | (go_at_call 17; (with_reducible refine (HF.out _ (by first | exact HB2.out | exact HB2.out.drew)).mono ?_); rintro e w3 ⟨rfl, hb3⟩) | fail)
    go_ret2
    exact ⟨by rw [HS.out HZ.out, HZ.out]; rfl, below_next (by first | exact HB2.out | exact HB2.out.drew) hb3⟩
  · have hz1 : (P != 0) = true := by simpa using hz
    go_wp2_with (first | (go_at_call 16; (with_reducible refine (HC.out _ (by first | exact HB.out | exact HB.out.drew)).mono ?_); rintro e w2 ⟨rfl, hb2⟩) | fail)
    go_ret2
    exact ⟨by rw [HN.out hz]; rfl, below_next (by first | exact HB.out | exact HB.out.drew) hb2⟩
end Go.Proofs.YtepofbglpnnflaaDoor
