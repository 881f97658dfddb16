/-
  The project's Check (package well): proved is what it tells of a program that lies in memory, and that it turns nothing that lay.
-/
import Derived.Test.YtjpopelbdhgidaaGreatDoorQEqualP
import Derived.Test.YtjpopelbdhgidaaGreatDoorQPlainE

namespace Go.Proofs.YtjpopelbdhgidaaGreatDoor
open Go Go.RowKit Go.Maps

set_option maxRecDepth 100000 in
set_option maxHeartbeats 8000000 in
theorem wcheck_any (ds ss : List Nd) (v0 v1 : Value) (w : World) (hd : SlIn w .D ds v0) (hs : SlIn w .S ss v1) :
    Calls Tryz.prog 56 #[.agg #[v0, v1]] w (fun e w' => e = .returned (.tuple #[.string (wellP ds ss).1, .int .i64 (wellP ds ss).2]) ∧ Below w.heap.size w w') := by
  have hfd := fit_list hd
  have hnd := noD_list hs
  have hsz := wellP_sz hfd hnd
  have htc := fun w1 (hb : Below w.heap.size w w1) => tcheck_any ds ss v0 v1 w1 (hd.keep (keeps_below hb)) (hs.keep (keeps_below hb))
  have hde := fun w1 M (hb : Below w.heap.size w w1) (hM : w.heap.size ≤ M) hm => declare_any w ds v0 w1 M hd hb hM hm
  have hmi := fun (hz : faultT (progT ds ss) = 0) w1 M n (hb : Below w.heap.size w w1) hm => misused_any w ds ss v1 w1 M n hs hb hm (Nat.le_trans (flat_few hs hz) (by omega)) (by have := names_few hfd hnd (fault_lim hz); omega)
  unfold DeclTo at hde
  obtain ⟨POST, hPOST⟩ : ∃ p, wellP ds ss = p := ⟨_, rfl⟩
  rw [hPOST] at hsz ⊢
  unfold wellP at hPOST
  obtain ⟨FT, hFT⟩ : ∃ FT, faultT (progT ds ss) = FT := ⟨_, rfl⟩
  simp only [hFT] at htc hmi hPOST
  obtain ⟨⟨dn, de⟩, hDW⟩ : ∃ p, declW [] ds = p := ⟨_, rfl⟩
  rw [hDW] at hPOST
  simp only [hDW] at hde
  obtain ⟨⟨un, ue⟩, hBU⟩ : ∃ p, badU (lookL ds) (usesL ss) = p := ⟨_, rfl⟩
  rw [hBU] at hPOST
  simp only [hBU] at hmi
  clear hFT hDW hBU hfd hnd
  obtain ⟨a0, c0, rfl, -⟩ := hd
  obtain ⟨a1, c1, rfl, -⟩ := hs
  obtain ⟨W1, hW1⟩ : ∃ W1, w.alloc (.cells #[.slice a0 ds.length c0, .slice a1 ss.length c1] 25) = W1 := ⟨_, rfl⟩
  have hal : Below w.heap.size w W1 := by rw [← hW1]; exact (Below.refl _ w).alloc (Nat.le_refl _) _
  have hX1 : Blk W1 w.heap.size #[.slice a0 ds.length c0, .slice a1 ss.length c1] 25 := by rw [← hW1]; exact Blk.new w _ _
  have x0 : W1.cell? ⟨w.heap.size, 0, none⟩ = some (.slice a0 ds.length c0) := hX1.cell 0
  have y0 : W1.cell? ⟨w.heap.size, 1, none⟩ = some (.slice a1 ss.length c1) := hX1.cell 1
  have HT := Lib.hid (htc W1 hal); clear htc
  have HX1 := Lib.hid hX1; clear hX1
  have HAL := Lib.hid hal; clear hal
  have HW1 := Lib.hid hW1; clear hW1
  have HDE := Lib.hid hde; clear hde
  have HMI := Lib.hid hmi; clear hmi
  have HPOST := Lib.hid hPOST; clear hPOST
  have hmm := @run_makeMap Tryz.prog
  go_enter Tryz.func56, Tryz.ntmps56
  go_upto_region 1 with fail
  rw [HW1.out]
  clear HW1
  by_cases hz : FT = 0
  · subst hz
    go_wp2_with (first | (go_at_call 83; (with_reducible refine HT.out.mono ?_); rintro e w2 ⟨rfl, hb2⟩; have HX2 := Lib.hid (HX1.out.below hb2 HX1.out.lt); have HB2 := Lib.hid (below_next HAL.out hb2); have x2 := ((HX1.out.below hb2 HX1.out.lt).alloc (.map #[] 0)).cell 0; simp at x2; clear hb2) | fail)
    clear x0 y0 HT HX1 HAL x2
    obtain ⟨W3, hW3⟩ : ∃ W, w2.alloc (.map #[] 0) = W := ⟨_, rfl⟩
    obtain ⟨M, hM⟩ : ∃ M, w2.heap.size = M := ⟨_, rfl⟩
    have hmap : OwnM W3 M 0 (mapD []) := by rw [← hW3, ← hM]; exact World.ownsMap_made (H := Unit) w2 Tryz.prog 9 (plainElem Tryz.prog 3)
    have hb3 : Below w.heap.size w W3 := by rw [← hW3]; exact HB2.out.alloc HB2.out.size _
    have hX3 : Blk W3 w.heap.size #[.slice a0 ds.length c0, .slice a1 ss.length c1] 25 := by rw [← hW3]; exact HX2.out.alloc _
    have hMw : w.heap.size < M := by rw [← hM]; exact HX2.out.lt
    rw [hW3, hM]
    have HC := Lib.hid (HDE.out W3 M hb3 (by omega) hmap)
    have HX3 := Lib.hid hX3; clear hX3
    have HB3 := Lib.hid hb3; clear hb3 hW3 hM hmap HDE HB2 HX2 hmm
    refine HC.out.mono ?_
    rintro e w4 ⟨rfl, hg4, hmap4⟩
    have hG4 : Gr (some M) (some M) W3 w4 := ⟨hg4, .inl rfl⟩
    have hX4 : Blk w4 w.heap.size #[.slice a0 ds.length c0, .slice a1 ss.length c1] 25 := HX3.out.gr hG4 (fun e => by cases e; omega)
    have hb4 : Below w.heap.size w w4 := HB3.out.trans (hG4.old HB3.out.size (fun g hg => by cases hg; omega))
    have y4 : w4.cell? ⟨w.heap.size, 1, none⟩ = some (.slice a1 ss.length c1) := hX4.cell 1
    have HB4 := Lib.hid hb4; clear hb4
    have HMAP4 := Lib.hid hmap4; clear hmap4
    clear hg4 hG4 hX4 HX3 HB3 HC
    by_cases hd0 : de = 0
    · subst hd0
      have hp : POST = (un, ue) := by rw [← HPOST.out, if_neg (by simp), if_neg (by simp)]
      rw [hp] at hsz
      have HP := Lib.hid hp; clear hp HPOST
      have HC := Lib.hid (HMI.out (by simp) w4 M ds.length HB4.out (HMAP4.out rfl)); clear HMI HMAP4
      go_wp2_with fail
      refine HC.out.mono ?_
      rintro e w5 ⟨rfl, hb5⟩
      have HB5 := Lib.hid (below_next HB4.out hb5); clear hb5
      go_wp2_with (first | (go_at_call 58; (with_reducible refine (clone_w _ _ hsz).mono ?_); rintro e w6 ⟨rfl, hb6⟩; have HB6 := Lib.hid (below_next HB5.out hb6); clear hb6) | fail)
      go_ret2
      exact ⟨by rw [HP.out]; rfl, HB6.out⟩
    · have hd1 : (de == 0) = false := by simpa using hd0
      have hp : POST = (dn, de) := by rw [← HPOST.out, if_neg (by simp), if_pos hd0]
      rw [hp] at hsz
      have HP := Lib.hid hp; clear hp HPOST hd0 HMI HMAP4
      go_wp2_with (first | (go_at_call 58; (with_reducible refine (clone_w _ _ hsz).mono ?_); rintro e w6 ⟨rfl, hb6⟩; have HB6 := Lib.hid (below_next HB4.out hb6); clear hb6) | fail)
      go_ret2
      exact ⟨by rw [HP.out]; rfl, HB6.out⟩
  · have hz1 : (FT != 0) = true := by simpa using hz
    have hp : POST = (⟨#[]⟩, FT) := by rw [← HPOST.out, if_pos hz]
    have HP := Lib.hid hp; clear hp HPOST hz HDE HMI hmm
    go_wp2_with (first | (go_at_call 83; (with_reducible refine HT.out.mono ?_); rintro e w2 ⟨rfl, hb2⟩; have HB2 := Lib.hid (below_next HAL.out hb2); clear hb2) | fail)
    go_ret2
    exact ⟨by rw [HP.out]; rfl, HB2.out⟩
end Go.Proofs.YtjpopelbdhgidaaGreatDoor
