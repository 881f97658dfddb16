/-
  The document's answer for an expression and for a condition (gnomonref3's form.told, Expr, Cond): proved is what each answers, and that it turns nothing that lay.
-/
import Derived.Test.YtepofbglpnnflaaDoorFormC
namespace Go.Proofs.YtepofbglpnnflaaDoor
open Go Go.RowKit

def toldF (f : Fm) : Int := if f.ok then (if f.names then 0 else 31) else 30
theorem told_any (f : Fm) (w : World) : Calls Tryd.prog 29 #[.agg #[.bool f.ok, .bool f.names]] w (fun e w' => e = .returned (.int .i64 (toldF f)) ∧ Below w.heap.size w w') := by
  obtain ⟨ok, names⟩ := f
  have ha := (Below.refl w.heap.size w).alloc (Nat.le_refl _) (.cells #[.bool ok, .bool names] 73)
  cases ok <;> cases names
  all_goals
    go_enter Tryd.func29, Tryd.ntmps29
    go_wp2
    go_ret
    exact ⟨rfl, ha⟩
/-- What the document answers for an expression or a condition: the walk's error, else the form's. -/
def docChk (x : Nd) : Int := if (walkN x 1 ⟨0, 0, 0⟩).bad ≠ 0 then (walkN x 1 ⟨0, 0, 0⟩).bad else toldF (formN x ⟨true, true⟩)

set_option maxRecDepth 100000 in
set_option maxHeartbeats 4000000 in
theorem refexpr_any (x : Nd) (v0 v1 v2 v3 : Value) (w : World) (hty : x.ty = .E) (hin : NdIn w x [v0, v1, v2, v3]) :
    Calls Tryd.prog 12 #[.agg #[v0, v1, v2, v3]] w (fun e w' => e = .returned (.int .i64 (docChk x)) ∧ Below w.heap.size w w') := by
  have hC := fun hB0 N => wexpr_any w (w.heap.size + 1) hB0 N x v0 v1 v2 v3 1 ⟨0, 0, 0⟩
  have hF := fun B hB0 N w1 => fexpr_any w B hB0 N x v0 v1 v2 v3 ⟨true, true⟩ w1
  have hdoc : docChk x = if (walkN x 1 ⟨0, 0, 0⟩).bad ≠ 0 then (walkN x 1 ⟨0, 0, 0⟩).bad else toldF (formN x ⟨true, true⟩) := rfl
  obtain ⟨R, hR⟩ : ∃ R, walkN x 1 ⟨0, 0, 0⟩ = R := ⟨_, rfl⟩
  obtain ⟨G, hG⟩ : ∃ G, formN x ⟨true, true⟩ = G := ⟨_, rfl⟩
  rw [hR] at hC hdoc
  rw [hG] at hdoc
  simp only [hG] at hF
  clear hR hG
  have HDOC := Lib.hid hdoc; clear hdoc
  obtain ⟨Q, hQ⟩ : ∃ Q, docChk x = Q := ⟨_, rfl⟩
  rw [hQ] at HDOC ⊢
  clear hQ
  have hT := told_any G
  have HT := Lib.hid hT; clear hT
  obtain ⟨W1, hW1⟩ : ∃ W1, (w.alloc (.cells #[v0, v1, v2, v3] 24)).alloc (.cells #[.int .i64 0, .int .i64 0, .int .i64 0] 71) = W1 := ⟨_, rfl⟩
  have hb : Below w.heap.size w W1 := by
    rw [← hW1]
    exact ((Below.refl _ w).alloc (Nat.le_refl _) _).alloc (by simp) _
  have hB1 : Blk W1 (w.heap.size + 1) (Wk.cells ⟨0, 0, 0⟩) 71 := by
    have h := Blk.new (w.alloc (.cells #[v0, v1, v2, v3] 24)) #[.int .i64 0, .int .i64 0, .int .i64 0] 71
    rw [hW1, World.size_alloc] at h
    exact h
  have hE1 : Blk W1 w.heap.size #[v0, v1, v2, v3] 24 := by rw [← hW1]; exact (Blk.new w _ _).alloc _
  have hC1 := hC (by omega) _ W1 (Nat.le_refl _) hty hin hb (by unfold Wk.ok; simp) (by omega) (by omega) hB1
  have HF := Lib.hid (fun B hB0 w1 => hF B hB0 _ w1 (Nat.le_refl _) hty hin); clear hF hC
  have HC := Lib.hid hC1; clear hC1
  have HE1 := Lib.hid hE1; clear hE1
  have HBW := Lib.hid hb; clear hb
  have HW1 := Lib.hid hW1; clear hW1
  clear hty hin hB1
  go_enter Tryd.func12, Tryd.ntmps12
  go_upto_region 2 with fail
  rw [HW1.out]
  clear HW1
  have hne : w.heap.size ≠ w.heap.size + 1 := by omega
  have hE0 := HE1.out
  have e0 : W1.cell? ⟨w.heap.size, 0, none⟩ = some v0 := hE0.cell 0
  have e1 : W1.cell? ⟨w.heap.size, 1, none⟩ = some v1 := hE0.cell 1
  have e2 : W1.cell? ⟨w.heap.size, 2, none⟩ = some v2 := hE0.cell 2
  have e3 : W1.cell? ⟨w.heap.size, 3, none⟩ = some v3 := hE0.cell 3
  clear hE0
  by_cases hbad : R.bad = 0
  · have hb2 : (R.bad != 0) = false := by simpa using hbad
    have hdoc := HDOC.out; clear HDOC
    rw [if_neg (by simpa using hbad)] at hdoc
    have HDOC := Lib.hid hdoc; clear hdoc
    clear hbad
    go_upto_region 6 with (first | (go_at_call 27; (with_reducible refine HC.out.mono ?_); rintro e w2 ⟨rfl, hB2, hO2⟩; have c2 : w2.cell? ⟨w.heap.size + 1, 2, none⟩ = some (.int .i64 R.bad) := hB2.cell 2) | fail)
    clear c2 hb2 HC
    obtain ⟨W3, hW3⟩ : ∃ W3, w2.alloc (.cells #[.bool true, .bool true] 73) = W3 := ⟨_, rfl⟩
    have hw2 : Below w.heap.size w w2 := HBW.out.trans (hO2.old (by omega) HBW.out.size)
    have hw3 : Below w.heap.size w W3 := by rw [← hW3]; exact hw2.alloc hw2.size _
    have hB3 : Blk W3 w2.heap.size (Fm.cells ⟨true, true⟩) 73 := by rw [← hW3]; exact Blk.new w2 _ _
    have hE3 : Blk W3 w.heap.size #[v0, v1, v2, v3] 24 := by rw [← hW3]; exact (HE1.out.only hO2 hne).alloc _
    have hC := HF.out w2.heap.size hw2.size W3 hw3 hB3
    have hE0 := hE3
    have g0 : W3.cell? ⟨w.heap.size, 0, none⟩ = some v0 := hE0.cell 0
    have g1 : W3.cell? ⟨w.heap.size, 1, none⟩ = some v1 := hE0.cell 1
    have g2 : W3.cell? ⟨w.heap.size, 2, none⟩ = some v2 := hE0.cell 2
    have g3 : W3.cell? ⟨w.heap.size, 3, none⟩ = some v3 := hE0.cell 3
    rw [hW3]
    have HC := Lib.hid hC; clear hC
    have hs2 := hw2.size
    clear HF hB3 hB2 hO2 hw2 hW3 HBW HE1 hE0 hE3 e0 e1 e2 e3
    have HW3 := Lib.hid hw3; clear hw3
    go_wp2_with (first | (go_at_call 28; (with_reducible refine HC.out.mono ?_); rintro e w4 ⟨rfl, hB4, hO4⟩; have c0 : w4.cell? ⟨w2.heap.size, 0, none⟩ = some (.bool G.ok) := hB4.cell 0; have c1 : w4.cell? ⟨w2.heap.size, 1, none⟩ = some (.bool G.names) := hB4.cell 1; have HB4 := Lib.hid hB4; clear hB4) | (go_at_call 29; (with_reducible refine (HT.out w4).mono ?_); rintro e w5 ⟨rfl, hw5⟩) | fail)
    go_ret
    have hw4 := HW3.out.trans (hO4.old hs2 HW3.out.size)
    exact ⟨by rw [HDOC.out]; rfl, hw4.trans (hw5.mono hw4.size)⟩
  · have hb2 : (R.bad != 0) = true := by simpa using hbad
    have hdoc := HDOC.out; clear HDOC
    rw [if_pos (by simpa using hbad)] at hdoc
    have HDOC := Lib.hid hdoc; clear hdoc
    clear hbad HF HT
    go_wp2_with (first | (go_at_call 27; (with_reducible refine HC.out.mono ?_); rintro e w2 ⟨rfl, hB2, hO2⟩; have c2 : w2.cell? ⟨w.heap.size + 1, 2, none⟩ = some (.int .i64 R.bad) := hB2.cell 2) | fail)
    go_ret
    exact ⟨by rw [HDOC.out]; rfl, HBW.out.trans (hO2.old (by omega) HBW.out.size)⟩

set_option maxRecDepth 100000 in
set_option maxHeartbeats 4000000 in
theorem refcond_any (x : Nd) (v0 v1 v2 v3 : Value) (w : World) (hty : x.ty = .C) (hin : NdIn w x [v0, v1, v2, v3]) :
    Calls Tryd.prog 16 #[.agg #[v0, v1, v2, v3]] w (fun e w' => e = .returned (.int .i64 (docChk x)) ∧ Below w.heap.size w w') := by
  have hC := fun hB0 N => wcond_any w (w.heap.size + 1) hB0 N x v0 v1 v2 v3 1 ⟨0, 0, 0⟩
  have hF := fun B hB0 N w1 => fcond_any w B hB0 N x v0 v1 v2 v3 ⟨true, true⟩ w1
  have hdoc : docChk x = if (walkN x 1 ⟨0, 0, 0⟩).bad ≠ 0 then (walkN x 1 ⟨0, 0, 0⟩).bad else toldF (formN x ⟨true, true⟩) := rfl
  obtain ⟨R, hR⟩ : ∃ R, walkN x 1 ⟨0, 0, 0⟩ = R := ⟨_, rfl⟩
  obtain ⟨G, hG⟩ : ∃ G, formN x ⟨true, true⟩ = G := ⟨_, rfl⟩
  rw [hR] at hC hdoc
  rw [hG] at hdoc
  simp only [hG] at hF
  clear hR hG
  have HDOC := Lib.hid hdoc; clear hdoc
  obtain ⟨Q, hQ⟩ : ∃ Q, docChk x = Q := ⟨_, rfl⟩
  rw [hQ] at HDOC ⊢
  clear hQ
  have hT := told_any G
  have HT := Lib.hid hT; clear hT
  obtain ⟨W1, hW1⟩ : ∃ W1, (w.alloc (.cells #[v0, v1, v2, v3] 27)).alloc (.cells #[.int .i64 0, .int .i64 0, .int .i64 0] 71) = W1 := ⟨_, rfl⟩
  have hb : Below w.heap.size w W1 := by
    rw [← hW1]
    exact ((Below.refl _ w).alloc (Nat.le_refl _) _).alloc (by simp) _
  have hB1 : Blk W1 (w.heap.size + 1) (Wk.cells ⟨0, 0, 0⟩) 71 := by
    have h := Blk.new (w.alloc (.cells #[v0, v1, v2, v3] 27)) #[.int .i64 0, .int .i64 0, .int .i64 0] 71
    rw [hW1, World.size_alloc] at h
    exact h
  have hE1 : Blk W1 w.heap.size #[v0, v1, v2, v3] 27 := by rw [← hW1]; exact (Blk.new w _ _).alloc _
  have hC1 := hC (by omega) _ W1 (Nat.le_refl _) hty hin hb (by unfold Wk.ok; simp) (by omega) (by omega) hB1
  have HF := Lib.hid (fun B hB0 w1 => hF B hB0 _ w1 (Nat.le_refl _) hty hin); clear hF hC
  have HC := Lib.hid hC1; clear hC1
  have HE1 := Lib.hid hE1; clear hE1
  have HBW := Lib.hid hb; clear hb
  have HW1 := Lib.hid hW1; clear hW1
  clear hty hin hB1
  go_enter Tryd.func16, Tryd.ntmps16
  go_upto_region 2 with fail
  rw [HW1.out]
  clear HW1
  have hne : w.heap.size ≠ w.heap.size + 1 := by omega
  have hE0 := HE1.out
  have e0 : W1.cell? ⟨w.heap.size, 0, none⟩ = some v0 := hE0.cell 0
  have e1 : W1.cell? ⟨w.heap.size, 1, none⟩ = some v1 := hE0.cell 1
  have e2 : W1.cell? ⟨w.heap.size, 2, none⟩ = some v2 := hE0.cell 2
  have e3 : W1.cell? ⟨w.heap.size, 3, none⟩ = some v3 := hE0.cell 3
  clear hE0
  by_cases hbad : R.bad = 0
  · have hb2 : (R.bad != 0) = false := by simpa using hbad
    have hdoc := HDOC.out; clear HDOC
    rw [if_neg (by simpa using hbad)] at hdoc
    have HDOC := Lib.hid hdoc; clear hdoc
    clear hbad
    go_upto_region 6 with (first | (go_at_call 37; (with_reducible refine HC.out.mono ?_); rintro e w2 ⟨rfl, hB2, hO2⟩; have c2 : w2.cell? ⟨w.heap.size + 1, 2, none⟩ = some (.int .i64 R.bad) := hB2.cell 2) | fail)
    clear c2 hb2 HC
    obtain ⟨W3, hW3⟩ : ∃ W3, w2.alloc (.cells #[.bool true, .bool true] 73) = W3 := ⟨_, rfl⟩
    have hw2 : Below w.heap.size w w2 := HBW.out.trans (hO2.old (by omega) HBW.out.size)
    have hw3 : Below w.heap.size w W3 := by rw [← hW3]; exact hw2.alloc hw2.size _
    have hB3 : Blk W3 w2.heap.size (Fm.cells ⟨true, true⟩) 73 := by rw [← hW3]; exact Blk.new w2 _ _
    have hE3 : Blk W3 w.heap.size #[v0, v1, v2, v3] 27 := by rw [← hW3]; exact (HE1.out.only hO2 hne).alloc _
    have hC := HF.out w2.heap.size hw2.size W3 hw3 hB3
    have hE0 := hE3
    have g0 : W3.cell? ⟨w.heap.size, 0, none⟩ = some v0 := hE0.cell 0
    have g1 : W3.cell? ⟨w.heap.size, 1, none⟩ = some v1 := hE0.cell 1
    have g2 : W3.cell? ⟨w.heap.size, 2, none⟩ = some v2 := hE0.cell 2
    have g3 : W3.cell? ⟨w.heap.size, 3, none⟩ = some v3 := hE0.cell 3
    rw [hW3]
    have HC := Lib.hid hC; clear hC
    have hs2 := hw2.size
    clear HF hB3 hB2 hO2 hw2 hW3 HBW HE1 hE0 hE3 e0 e1 e2 e3
    have HW3 := Lib.hid hw3; clear hw3
    go_wp2_with (first | (go_at_call 38; (with_reducible refine HC.out.mono ?_); rintro e w4 ⟨rfl, hB4, hO4⟩; have c0 : w4.cell? ⟨w2.heap.size, 0, none⟩ = some (.bool G.ok) := hB4.cell 0; have c1 : w4.cell? ⟨w2.heap.size, 1, none⟩ = some (.bool G.names) := hB4.cell 1; have HB4 := Lib.hid hB4; clear hB4) | (go_at_call 29; (with_reducible refine (HT.out w4).mono ?_); rintro e w5 ⟨rfl, hw5⟩) | fail)
    go_ret
    have hw4 := HW3.out.trans (hO4.old hs2 HW3.out.size)
    exact ⟨by rw [HDOC.out]; rfl, hw4.trans (hw5.mono hw4.size)⟩
  · have hb2 : (R.bad != 0) = true := by simpa using hbad
    have hdoc := HDOC.out; clear HDOC
    rw [if_pos (by simpa using hbad)] at hdoc
    have HDOC := Lib.hid hdoc; clear hdoc
    clear hbad HF HT
    go_wp2_with (first | (go_at_call 37; (with_reducible refine HC.out.mono ?_); rintro e w2 ⟨rfl, hB2, hO2⟩; have c2 : w2.cell? ⟨w.heap.size + 1, 2, none⟩ = some (.int .i64 R.bad) := hB2.cell 2) | fail)
    go_ret
    exact ⟨by rw [HDOC.out]; rfl, HBW.out.trans (hO2.old (by omega) HBW.out.size)⟩
end Go.Proofs.YtepofbglpnnflaaDoor
