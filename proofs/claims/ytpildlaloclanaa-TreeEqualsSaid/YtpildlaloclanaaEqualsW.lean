/-
  TreeEquals' own walk: proved is that it answers true for every two programs that lie in memory, and that it turns nothing that lay.
-/
import Derived.Test.YtpildlaloclanaaKnownT
import Derived.Test.YtpildlaloclanaaEqualR
import Derived.Deep.RegionHeld3
namespace Go.Proofs.Ytpildlaloclanaa
open Go Go.RowKit

set_option maxRecDepth 100000 in
set_option maxHeartbeats 4000000 in
theorem equals_any (d1 s1 d2 s2 : List Nd) (v0 v1 u0 u1 : Value) (w : World) (hd : SlIn w .D d1 v0) (hs : SlIn w .S s1 v1) (hd2 : SlIn w .D d2 u0) (hs2 : SlIn w .S s2 u1) :
    Calls Try.prog 5 #[.agg #[v0, v1], .agg #[u0, u1]] w (fun e w' => e = .returned (.bool true) ∧ Below w.heap.size w w') := by
  have f1 := fit_list hd
  have f2 := fit_list hs
  have f3 := fit_list hd2
  have f4 := fit_list hs2
  have r1 := equal_same f1 f2 f3 f4
  have r2 := (equal_same f3 f4 f1 f2).symm.trans ((equalR_comm d2 s2 d1 s1).trans r1)
  clear f1 f2 f3 f4
  have HK := Lib.hid known_any
  have h1 := fun w1 (hb : Below w.heap.size w w1) => equalP_any d1 s1 d2 s2 v0 v1 u0 u1 w1 (hd.keep (keeps_below hb)) (hs.keep (keeps_below hb)) (hd2.keep (keeps_below hb)) (hs2.keep (keeps_below hb))
  have h2 := fun w1 (hb : Below w.heap.size w w1) => equalR_any d1 s1 d2 s2 v0 v1 u0 u1 w1 (hd.keep (keeps_below hb)) (hs.keep (keeps_below hb)) (hd2.keep (keeps_below hb)) (hs2.keep (keeps_below hb))
  have h3 := fun w1 (hb : Below w.heap.size w w1) => equalP_any d2 s2 d1 s1 u0 u1 v0 v1 w1 (hd2.keep (keeps_below hb)) (hs2.keep (keeps_below hb)) (hd.keep (keeps_below hb)) (hs.keep (keeps_below hb))
  rw [r1] at h2
  rw [r2] at h3
  obtain ⟨P, hP⟩ : ∃ P, equalP d1 s1 d2 s2 = P := ⟨_, rfl⟩
  simp only [hP] at h1 h2 h3
  clear hP r1 r2
  have H1 := Lib.hid h1; clear h1
  have H2 := Lib.hid h2; clear h2
  have H3 := Lib.hid h3; clear h3
  obtain ⟨a0, c0, rfl, -⟩ := hd
  obtain ⟨a1, c1, rfl, -⟩ := hs
  obtain ⟨e0, f0, rfl, -⟩ := hd2
  obtain ⟨e1, f1, rfl, -⟩ := hs2
  have hal : Below w.heap.size w ((w.alloc (.cells #[.slice a0 d1.length c0, .slice a1 s1.length c1] 25)).alloc (.cells #[.slice e0 d2.length f0, .slice e1 s2.length f1] 25)) := ((Below.refl _ w).alloc (Nat.le_refl _) _).alloc (by simp) _
  obtain ⟨W1, hW1⟩ : ∃ W1, (w.alloc (.cells #[.slice a0 d1.length c0, .slice a1 s1.length c1] 25)).alloc (.cells #[.slice e0 d2.length f0, .slice e1 s2.length f1] 25) = W1 := ⟨_, rfl⟩
  rw [hW1] at hal
  have hX1 : Blk W1 w.heap.size #[.slice a0 d1.length c0, .slice a1 s1.length c1] 25 := by rw [← hW1]; exact (Blk.new w _ _).alloc _
  have hX2 : Blk W1 (w.heap.size + 1) #[.slice e0 d2.length f0, .slice e1 s2.length f1] 25 := by
    have h := Blk.new (w.alloc (.cells #[.slice a0 d1.length c0, .slice a1 s1.length c1] 25)) #[.slice e0 d2.length f0, .slice e1 s2.length f1] 25
    rw [hW1, World.size_alloc] at h
    exact h
  have HX1 := Lib.hid hX1; clear hX1
  have HX2 := Lib.hid hX2; clear hX2
  have HAL := Lib.hid hal; clear hal
  have HW1 := Lib.hid hW1; clear hW1
  go_enter Try.func5, Try.ntmps5
  go_upto_region 1 with fail
  rw [HW1.out]
  clear HW1
  have KS := fun w' (hW : Below W1.heap.size W1 w') => (⟨(HX1.out.below hW HX1.out.lt).cell 0, (HX1.out.below hW HX1.out.lt).cell 1, (HX2.out.below hW HX2.out.lt).cell 0, (HX2.out.below hW HX2.out.lt).cell 1, hW⟩ : (fun w' => w'.cell? ⟨w.heap.size, 0, none⟩ = some (.slice a0 d1.length c0) ∧ w'.cell? ⟨w.heap.size, 1, none⟩ = some (.slice a1 s1.length c1) ∧ w'.cell? ⟨w.heap.size + 1, 0, none⟩ = some (.slice e0 d2.length f0) ∧ w'.cell? ⟨w.heap.size + 1, 1, none⟩ = some (.slice e1 s2.length f1) ∧ Below W1.heap.size W1 w') w')
  go_region_held3 (fun w' => w'.cell? ⟨w.heap.size, 0, none⟩ = some (.slice a0 d1.length c0) ∧ w'.cell? ⟨w.heap.size, 1, none⟩ = some (.slice a1 s1.length c1) ∧ w'.cell? ⟨w.heap.size + 1, 0, none⟩ = some (.slice e0 d2.length f0) ∧ w'.cell? ⟨w.heap.size + 1, 1, none⟩ = some (.slice e1 s2.length f1) ∧ Below W1.heap.size W1 w')
    ((with_reducible refine KS _ ?_; repeat (with_reducible (first | exact Below.refl _ W1 | refine below_drew ?_ | refine below_next ?_ hb5 | refine below_next ?_ hb4 | refine below_next ?_ hb3 | refine below_next ?_ hb2 | refine below_next ?_ hb1 | fail))))
    (first | (go_at_call 7; (with_reducible refine (HK.out _).mono ?_); rintro e w1 ⟨rfl, hb1⟩) | (go_at_call_of 20 (Value.agg #[.slice a0 d1.length c0, .slice a1 s1.length c1]); have hh := hb4; (with_reducible refine (H1.out _ (by repeat (with_reducible (first | exact HAL.out | refine below_drew ?_ | refine below_next ?_ hb4 | refine below_next ?_ hb3 | refine below_next ?_ hb2 | refine below_next ?_ hb1 | fail)))).mono ?_); clear hh; rintro e w5 ⟨rfl, hb5⟩) | (go_at_call_of 20 (Value.agg #[.slice a0 d1.length c0, .slice a1 s1.length c1]); (with_reducible refine (H1.out _ (by repeat (with_reducible (first | exact HAL.out | refine below_drew ?_ | refine below_next ?_ hb1 | fail)))).mono ?_); rintro e w2 ⟨rfl, hb2⟩) | (go_at_call 21; (with_reducible refine (H2.out _ (by repeat (with_reducible (first | exact HAL.out | refine below_drew ?_ | refine below_next ?_ hb2 | refine below_next ?_ hb1 | fail)))).mono ?_); rintro e w3 ⟨rfl, hb3⟩) | (go_at_call_of 20 (Value.agg #[.slice e0 d2.length f0, .slice e1 s2.length f1]); (with_reducible refine (H3.out _ (by repeat (with_reducible (first | exact HAL.out | refine below_drew ?_ | refine below_next ?_ hb3 | refine below_next ?_ hb2 | refine below_next ?_ hb1 | fail)))).mono ?_); rintro e w4 ⟨rfl, hb4⟩))
  all_goals
    go_wp2_with fail
    go_ret
    exact ⟨rfl, (by repeat (with_reducible (first | exact HAL.out | refine below_drew ?_ | refine below_next ?_ hb5 | refine below_next ?_ hb4 | refine below_next ?_ hb3 | refine below_next ?_ hb2 | refine below_next ?_ hb1 | fail)))⟩
end Go.Proofs.Ytpildlaloclanaa
