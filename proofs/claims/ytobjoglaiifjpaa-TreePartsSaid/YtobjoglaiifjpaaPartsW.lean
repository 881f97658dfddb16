/-
  TreeParts' own walk: proved is that it answers true for every expression and every condition that lie in memory, and that it turns nothing that lay.
-/
import Derived.Test.YtobjoglaiifjpaaKnownT
import Derived.Test.YtobjoglaiifjpaaPlainD
import Derived.Deep.RegionHeld3
namespace Go.Proofs.Ytobjoglaiifjpaa
open Go Go.RowKit

theorem parts_same {w : World} {x : Nd} {vs : List Value} (h : NdIn w x vs) (hty : x.ty ≠ .D) : docChk x = prjChk x := checks_same x (noD_N w x vs h hty)

set_option maxRecDepth 100000 in
set_option maxHeartbeats 4000000 in
theorem parts_any (x y : Nd) (u0 u1 u2 u3 v0 v1 v2 v3 : Value) (w : World) (hx : x.ty = .E) (hy : y.ty = .C) (hin : NdIn w x [u0, u1, u2, u3]) (hjn : NdIn w y [v0, v1, v2, v3]) :
    Calls Try.prog 4 #[.agg #[u0, u1, u2, u3], .agg #[v0, v1, v2, v3]] w (fun e w' => e = .returned (.bool true) ∧ Below w.heap.size w w') := by
  have e1 := parts_same hin (by rw [hx]; decide)
  have e2 := parts_same hjn (by rw [hy]; decide)
  have HK := Lib.hid known_any
  have h1 := fun w1 (hb : Below w.heap.size w w1) => treeExpr_any x u0 u1 u2 u3 w1 hx (NdIn.keep (keeps_below hb) x _ hin)
  have h2 := fun w1 (hb : Below w.heap.size w w1) => refexpr_any x u0 u1 u2 u3 w1 hx (NdIn.keep (keeps_below hb) x _ hin)
  have h3 := fun w1 (hb : Below w.heap.size w w1) => treeCond_any y v0 v1 v2 v3 w1 hy (NdIn.keep (keeps_below hb) y _ hjn)
  have h4 := fun w1 (hb : Below w.heap.size w w1) => refcond_any y v0 v1 v2 v3 w1 hy (NdIn.keep (keeps_below hb) y _ hjn)
  rw [e1] at h2
  rw [e2] at h4
  obtain ⟨P, hP⟩ : ∃ P, prjChk x = P := ⟨_, rfl⟩
  obtain ⟨R, hR⟩ : ∃ R, prjChk y = R := ⟨_, rfl⟩
  simp only [hP] at h1 h2
  simp only [hR] at h3 h4
  clear hP hR e1 e2
  have H1 := Lib.hid h1; clear h1
  have H2 := Lib.hid h2; clear h2
  have H3 := Lib.hid h3; clear h3
  have H4 := Lib.hid h4; clear h4
  obtain ⟨nk, nn, ns, na, nl, nc, rfl, rfl, rfl, rfl⟩ := NdIn.formE hx hin
  obtain ⟨mk, mn, ma, ml, mc, ma2, ml2, mc2, rfl, rfl, rfl, rfl⟩ := NdIn.formC hy hjn
  clear hin hjn
  have hal : Below w.heap.size w ((w.alloc (.cells #[.int .i64 nk, .int .i64 nn, .string ns, .slice na nl nc] 42)).alloc (.cells #[.int .i64 mk, .int .i64 mn, .slice ma ml mc, .slice ma2 ml2 mc2] 45)) := ((Below.refl _ w).alloc (Nat.le_refl _) _).alloc (by simp) _
  obtain ⟨W1, hW1⟩ : ∃ W1, (w.alloc (.cells #[.int .i64 nk, .int .i64 nn, .string ns, .slice na nl nc] 42)).alloc (.cells #[.int .i64 mk, .int .i64 mn, .slice ma ml mc, .slice ma2 ml2 mc2] 45) = W1 := ⟨_, rfl⟩
  rw [hW1] at hal
  have hX1 : Blk W1 w.heap.size #[.int .i64 nk, .int .i64 nn, .string ns, .slice na nl nc] 42 := by rw [← hW1]; exact (Blk.new w _ _).alloc _
  have hX2 : Blk W1 (w.heap.size + 1) #[.int .i64 mk, .int .i64 mn, .slice ma ml mc, .slice ma2 ml2 mc2] 45 := by
    have h := Blk.new (w.alloc (.cells #[.int .i64 nk, .int .i64 nn, .string ns, .slice na nl nc] 42)) #[.int .i64 mk, .int .i64 mn, .slice ma ml mc, .slice ma2 ml2 mc2] 45
    rw [hW1, World.size_alloc] at h
    exact h
  have HX1 := Lib.hid hX1; clear hX1
  have HX2 := Lib.hid hX2; clear hX2
  have HAL := Lib.hid hal; clear hal
  have HW1 := Lib.hid hW1; clear hW1
  go_enter Try.func4, Try.ntmps4
  go_upto_region 1 with fail
  rw [HW1.out]
  clear HW1
  have KS := fun w' (hW : Below W1.heap.size W1 w') => (⟨(HX1.out.below hW HX1.out.lt).cell 0, (HX1.out.below hW HX1.out.lt).cell 1, (HX1.out.below hW HX1.out.lt).cell 2, (HX1.out.below hW HX1.out.lt).cell 3, (HX2.out.below hW HX2.out.lt).cell 0, (HX2.out.below hW HX2.out.lt).cell 1, (HX2.out.below hW HX2.out.lt).cell 2, (HX2.out.below hW HX2.out.lt).cell 3, hW⟩ : w'.cell? ⟨w.heap.size, 0, none⟩ = some (.int .i64 nk) ∧ w'.cell? ⟨w.heap.size, 1, none⟩ = some (.int .i64 nn) ∧ w'.cell? ⟨w.heap.size, 2, none⟩ = some (.string ns) ∧ w'.cell? ⟨w.heap.size, 3, none⟩ = some (.slice na nl nc) ∧ w'.cell? ⟨w.heap.size + 1, 0, none⟩ = some (.int .i64 mk) ∧ w'.cell? ⟨w.heap.size + 1, 1, none⟩ = some (.int .i64 mn) ∧ w'.cell? ⟨w.heap.size + 1, 2, none⟩ = some (.slice ma ml mc) ∧ w'.cell? ⟨w.heap.size + 1, 3, none⟩ = some (.slice ma2 ml2 mc2) ∧ Below W1.heap.size W1 w')
  go_region_held3 (fun w' => w'.cell? ⟨w.heap.size, 0, none⟩ = some (.int .i64 nk) ∧ w'.cell? ⟨w.heap.size, 1, none⟩ = some (.int .i64 nn) ∧ w'.cell? ⟨w.heap.size, 2, none⟩ = some (.string ns) ∧ w'.cell? ⟨w.heap.size, 3, none⟩ = some (.slice na nl nc) ∧ w'.cell? ⟨w.heap.size + 1, 0, none⟩ = some (.int .i64 mk) ∧ w'.cell? ⟨w.heap.size + 1, 1, none⟩ = some (.int .i64 mn) ∧ w'.cell? ⟨w.heap.size + 1, 2, none⟩ = some (.slice ma ml mc) ∧ w'.cell? ⟨w.heap.size + 1, 3, none⟩ = some (.slice ma2 ml2 mc2) ∧ Below W1.heap.size W1 w')
    ((with_reducible refine KS _ ?_; repeat (with_reducible (first | exact Below.refl _ W1 | refine below_drew ?_ | refine below_next ?_ hb5 | refine below_next ?_ hb4 | refine below_next ?_ hb3 | refine below_next ?_ hb2 | refine below_next ?_ hb1 | fail))))
    (first | (go_at_call 7; (with_reducible refine (HK.out _).mono ?_); rintro e w1 ⟨rfl, hb1⟩) | (go_at_call 16; (with_reducible refine (H1.out _ (by repeat (with_reducible (first | exact HAL.out | refine below_drew ?_ | refine below_next ?_ hb1 | fail)))).mono ?_); rintro e w2 ⟨rfl, hb2⟩) | (go_at_call 17; (with_reducible refine (H2.out _ (by repeat (with_reducible (first | exact HAL.out | refine below_drew ?_ | refine below_next ?_ hb2 | refine below_next ?_ hb1 | fail)))).mono ?_); rintro e w3 ⟨rfl, hb3⟩) | (go_at_call 18; (with_reducible refine (H3.out _ (by repeat (with_reducible (first | exact HAL.out | refine below_drew ?_ | refine below_next ?_ hb3 | refine below_next ?_ hb2 | refine below_next ?_ hb1 | fail)))).mono ?_); rintro e w4 ⟨rfl, hb4⟩) | (go_at_call 19; (with_reducible refine (H4.out _ (by repeat (with_reducible (first | exact HAL.out | refine below_drew ?_ | refine below_next ?_ hb4 | refine below_next ?_ hb3 | refine below_next ?_ hb2 | refine below_next ?_ hb1 | fail)))).mono ?_); rintro e w5 ⟨rfl, hb5⟩))
  all_goals
    go_wp2_with fail
    go_ret
    exact ⟨rfl, (by repeat (with_reducible (first | exact HAL.out | refine below_drew ?_ | refine below_next ?_ hb5 | refine below_next ?_ hb4 | refine below_next ?_ hb3 | refine below_next ?_ hb2 | refine below_next ?_ hb1 | fail)))⟩
end Go.Proofs.Ytobjoglaiifjpaa
