/-
  The document's Get, side, Empty.
-/
import Derived.Test.YthnefcafhpioaaaDcA
import Derived.Test.YthnefcafhpioaaaOmB
namespace Go.Proofs.Ythnefcafhpioaaa
open Go Go.RowKit Go.Shelf

set_option maxRecDepth 100000 in
set_option maxHeartbeats 4000000 in
theorem rempty_any (n : Int) (w : World) : Calls Try.prog 18 #[.int .i64 n] w fun e w' => e = .returned (.agg #[.int .i64 n, .bool true, .slice none 0 0]) ∧ Below w.heap.size w w' := by
  go_enter Try.func18, Try.ntmps18
  go_wp2
  exact bodyPost_ret (v := .agg #[.int .i64 n, .bool true, .slice none 0 0]) (by simp [results, Try.results18, go_sem]) rfl ⟨rfl, (Below.refl _ _).alloc (Nat.le_refl _) _⟩
def sidB (N : Nat) (i : Int) : Bool := decide (0 ≤ i) && decide (i < 2 * (N : Int))
set_option maxRecDepth 100000 in
set_option maxHeartbeats 4000000 in
theorem side_any (N : Nat) (hN : N ≤ 64) (em : Bool) (L : Nat) (a : Option Addr) (c : Nat) (i : Int) (w : World) : Calls Try.prog 44 #[.agg #[.int .i64 N, .bool em, .slice a L c], .int .i64 i] w fun e w' => e = .returned (.bool (sidB N i)) ∧ Below w.heap.size w w' := by
  have e1 : wrap64 (2 * (N : Int)) = 2 * (N : Int) := IntWalk.wrap64_in _ (by omega)
  by_cases h0 : 0 ≤ i
  · have e : sidB N i = decide (i < 2 * (N : Int)) := by unfold sidB; rw [decide_eq_true h0]; rfl
    rw [e]
    clear e
    go_enter Try.func44, Try.ntmps44
    go_wp2
    all_goals (go_ret; exact ⟨rfl, (Below.refl _ _).alloc (Nat.le_refl _) _⟩)
  · have e : sidB N i = false := by unfold sidB; rw [decide_eq_false h0]; rfl
    rw [e]
    have h1 : i < 0 := by omega
    clear e h0
    go_enter Try.func44, Try.ntmps44
    go_wp2
    all_goals (go_ret; exact ⟨rfl, (Below.refl _ _).alloc (Nat.le_refl _) _⟩)
theorem sid_wit (N : Nat) (i j : Int) : (sidB N i && sidB N j) = witB (N : Int) i j := by
  rw [Bool.eq_iff_iff, Bool.and_eq_true, witB_iff]
  unfold sidB
  simp only [Bool.and_eq_true, decide_eq_true_eq]
  omega
theorem gt_step {w W W' : World} {X : Nat} {cs : Array Value} {t : TypeId} {m : List Int} {a : Option Addr} (h : Blk W X cs t ∧ MAt W m a ∧ Below X w W) (hb : Below W.heap.size W W') : Blk W' X cs t ∧ MAt W' m a ∧ Below X w W' := ⟨h.1.below hb h.1.lt, h.2.1.next hb, h.2.2.trans (hb.mono (Nat.le_of_lt h.1.lt))⟩
theorem ixd {i j N P T : Nat} (hN : N ≤ 64) (hi : i < 2 * N) (hj : j < 2 * N) (hP : i * (2 * N) = P) (hT : P + j = T) : wrap64 ((i : Int) * 2) = 2 * (i : Int) ∧ wrap64 (2 * (i : Int) * (N : Int)) = (P : Int) ∧ wrap64 ((P : Int) + (j : Int)) = (T : Int) ∧ wrap64 ((i : Int) * 2 * (N : Int)) = (P : Int) := by
  have h1 : i * (2 * N) ≤ 128 * 128 := Nat.mul_le_mul (by omega) (by omega)
  have m1 : 2 * (i : Int) * (N : Int) = (P : Int) := by rw [← hP]; push_cast; rw [Int.mul_comm 2 (i : Int), Int.mul_assoc]
  have m2 : (P : Int) + (j : Int) = (T : Int) := by omega
  have m3 : (i : Int) * 2 = 2 * (i : Int) := by omega
  have b1 : (P : Int) ≤ 16384 ∧ (0 : Int) ≤ (P : Int) := by omega
  have b2 : (T : Int) ≤ 16600 ∧ (0 : Int) ≤ (T : Int) := by omega
  rw [m3, m1, m2]
  exact ⟨IntWalk.wrap64_in _ (by omega), IntWalk.wrap64_in _ (by omega), IntWalk.wrap64_in _ (by omega), IntWalk.wrap64_in _ (by omega)⟩
set_option maxRecDepth 100000 in
set_option maxHeartbeats 4000000 in
theorem rget_any (x : Oc) (a : Option Addr) (c : Nat) (i j : Int) (w : World) (hm : MAt w x.m a) :
    Calls Try.prog 21 #[ocV x a c, .int .i64 i, .int .i64 j] w fun e w' => e = .returned (.tuple #[.int .i64 (getV x i j).1, .int .i64 (getV x i j).2]) ∧ Below w.heap.size w w' := by
  obtain ⟨n, em, m⟩ := x
  simp only at hm
  show Calls Try.prog 21 #[.agg #[.int .i64 n, .bool em, .slice a m.length c], .int .i64 i, .int .i64 j] w _
  obtain ⟨X, hX⟩ : ∃ X, w.heap.size = X := ⟨_, rfl⟩
  obtain ⟨W1, hW1⟩ : ∃ W, w.alloc (.cells #[.int .i64 n, .bool em, .slice a m.length c] 24) = W := ⟨_, rfl⟩
  have hx1 : Blk W1 X #[.int .i64 n, .bool em, .slice a m.length c] 24 := by rw [← hW1, ← hX]; exact Blk.new w _ _
  have hb1 : Below X w W1 := by rw [← hW1, ← hX]; exact (Below.refl _ w).alloc (Nat.le_refl _) _
  have hm1 : MAt W1 m a := hm.next (by rw [hX]; exact hb1)
  have HC : Hid (Calls Try.prog 11 #[.agg #[.int .i64 n, .bool em, .slice a m.length c]] W1 fun e w' => e = .returned (.int .i64 (chkO ⟨n, em, m⟩)) ∧ Below W1.heap.size W1 w') := Lib.hid (rchk_any ⟨n, em, m⟩ a c W1 hm1)
  have HW := Lib.hid (And.intro hX hW1)
  have x0 : W1.cell? ⟨X, 0, none⟩ = some (.int .i64 n) := hx1.cell 0
  have x1 : W1.cell? ⟨X, 1, none⟩ = some (.bool em) := hx1.cell 1
  have x2 : W1.cell? ⟨X, 2, none⟩ = some (.slice a m.length c) := hx1.cell 2
  have HKP : Hid (∀ ww : World, Below W1.heap.size W1 ww → Blk ww X #[.int .i64 n, .bool em, .slice a m.length c] 24 ∧ MAt ww m a ∧ Below X w ww) := Lib.hid fun ww hb => ⟨hx1.below hb hx1.lt, hm1.next hb, hb1.trans (hb.mono (Nat.le_of_lt hx1.lt))⟩
  obtain ⟨L, hL⟩ : ∃ L, m.length = L := ⟨_, rfl⟩
  obtain ⟨F, hF⟩ : ∃ F, chkO ⟨n, em, m⟩ = F := ⟨_, rfl⟩
  rw [hF] at HC
  by_cases h0 : F = 0
  · obtain ⟨N, hN, hn, hem, hok⟩ := chk_zero (hF.trans h0)
    simp only at hn hem hok
    subst hn
    subst h0
    have HSD : Hid (∀ (k : Int) (ww : World), Calls Try.prog 44 #[.agg #[.int .i64 N, .bool em, .slice a L c], .int .i64 k] ww fun e w' => e = .returned (.bool (sidB N k)) ∧ Below ww.heap.size ww w') := Lib.hid fun k ww => side_any N hN em L a c k ww
    have hsw := sid_wit N i j
    cases s1 : sidB N i with
    | false =>
      have e : getV ⟨N, em, m⟩ i j = (0, 122) := by
        rw [s1, Bool.false_and] at hsw
        unfold getV; rw [if_neg (by rw [hF]; simp), if_neg (by simp [← hsw])]
      have c1 := fun ww => HSD.out i ww
      rw [s1] at c1
      rw [e]
      rw [hL] at x2 HW HC HKP ⊢
      clear hW1 hX hm1 hx1 hb1 hm hF hem hok e hsw s1 HSD
      go_enter Try.func21, Try.ntmps21
      go_upto_region 1 with fail
      rw [HW.out.1, HW.out.2]
      go_wp2_with (first | (go_at_call 11; ((with_reducible refine HC.out.mono ?_); rintro e w2 ⟨rfl, hb2⟩; have HK2 := Lib.hid (HKP.out _ hb2); have y0 := HK2.out.1.cell 0; have y1 := HK2.out.1.cell 1; have y2 := HK2.out.1.cell 2)) | (go_at_call 44; ((with_reducible refine (c1 _).mono ?_); rintro e w3 ⟨rfl, hb3⟩)) | fail)
      refine bodyPost_ret (results_tmp2 rfl _ _ _) rfl ?_
      exact ⟨rfl, by rw [HW.out.1]; exact HK2.out.2.2.trans (hb3.mono (Nat.le_of_lt HK2.out.1.lt))⟩
    | true =>
      cases s2 : sidB N j with
      | false =>
        have e : getV ⟨N, em, m⟩ i j = (0, 122) := by
          rw [s1, s2] at hsw
          unfold getV; rw [if_neg (by rw [hF]; simp), if_neg (by simp [← hsw])]
        have c1 := fun ww => HSD.out i ww
        have c2 := fun ww => HSD.out j ww
        rw [s1] at c1
        rw [s2] at c2
        rw [e]
        rw [hL] at x2 HW HC HKP ⊢
        have hne : i ≠ j := fun h => by rw [h, s2] at s1; cases s1
        clear hW1 hX hm1 hx1 hb1 hm hF hem hok e hsw s1 s2 HSD
        go_enter Try.func21, Try.ntmps21
        go_upto_region 1 with fail
        rw [HW.out.1, HW.out.2]
        go_wp2_with (first | (go_at_call 11; ((with_reducible refine HC.out.mono ?_); rintro e w2 ⟨rfl, hb2⟩; have HK2 := Lib.hid (HKP.out _ hb2); have y0 := HK2.out.1.cell 0; have y1 := HK2.out.1.cell 1; have y2 := HK2.out.1.cell 2)) | (go_at_call 44; first | ((with_reducible refine (c1 _).mono ?_); rintro e w3 ⟨rfl, hb3⟩; have HK3 := Lib.hid (gt_step HK2.out hb3); have y0 := HK3.out.1.cell 0; have y1 := HK3.out.1.cell 1; have y2 := HK3.out.1.cell 2) | ((with_reducible refine (c2 _).mono ?_); rintro e w4 ⟨rfl, hb4⟩)) | fail)
        refine bodyPost_ret (results_tmp2 rfl _ _ _) rfl ?_
        exact ⟨rfl, by rw [HW.out.1]; exact HK3.out.2.2.trans (hb4.mono (Nat.le_of_lt HK3.out.1.lt))⟩
      | true =>
        rw [s1, s2] at hsw
        have hw : witB (N : Int) i j = true := hsw.symm
        obtain ⟨hi0, hj0, hi1, hj1⟩ := (witB_iff _ _ _).1 hw
        obtain ⟨i, rfl⟩ : ∃ k : Nat, i = (k : Int) := ⟨i.toNat, by omega⟩
        obtain ⟨j, rfl⟩ : ∃ k : Nat, j = (k : Int) := ⟨j.toNat, by omega⟩
        have HS2 : Hid (∀ (k : Nat) (ww : World), (k = i ∨ k = j) → Calls Try.prog 44 #[.agg #[.int .i64 N, .bool em, .slice a L c], .int .i64 (k : Int)] ww fun e w' => e = .returned (.bool true) ∧ Below ww.heap.size ww w') := Lib.hid fun k ww hk => by
          have h := HSD.out (k : Int) ww
          rcases hk with rfl | rfl
          · rw [s1] at h; exact h
          · rw [s2] at h; exact h
        have c1 := fun ww => HS2.out i ww (.inl rfl)
        have c2 := fun ww => HS2.out j ww (.inr rfl)
        cases em with
        | true =>
          have e : getV ⟨N, true, m⟩ i j = (0, 122) := by unfold getV; rw [if_neg (by rw [hF]; simp), if_neg (by simp)]
          rw [e]
          rw [hL] at x2 HW HC HKP ⊢
          clear hW1 hX hm1 hx1 hb1 hm hF hem hok e hsw s1 s2 HSD HS2 hw hi0 hj0 hi1 hj1
          go_enter Try.func21, Try.ntmps21
          go_upto_region 1 with fail
          rw [HW.out.1, HW.out.2]
          go_wp2_with (first | (go_at_call 11; ((with_reducible refine HC.out.mono ?_); rintro e w2 ⟨rfl, hb2⟩; have HK2 := Lib.hid (HKP.out _ hb2); have y0 := HK2.out.1.cell 0; have y1 := HK2.out.1.cell 1; have y2 := HK2.out.1.cell 2)) | (go_at_call 44; first | ((with_reducible refine (c1 w2).mono ?_); rintro e w3 ⟨rfl, hb3⟩; have HK3 := Lib.hid (gt_step HK2.out hb3); have y0 := HK3.out.1.cell 0; have y1 := HK3.out.1.cell 1; have y2 := HK3.out.1.cell 2) | ((with_reducible refine (c2 w3).mono ?_); rintro e w4 ⟨rfl, hb4⟩; have HK4 := Lib.hid (gt_step HK3.out hb4); have y0 := HK4.out.1.cell 0; have y1 := HK4.out.1.cell 1; have y2 := HK4.out.1.cell 2)) | fail)
          refine bodyPost_ret (results_tmp2 rfl _ _ _) rfl ?_
          exact ⟨rfl, by rw [HW.out.1]; exact HK4.out.2.2⟩
        | false =>
          have hi : i < 2 * N := by omega
          have hj : j < 2 * N := by omega
          have hlen := (hok rfl).1
          have e : getV ⟨N, false, m⟩ i j = (gM (2 * N) m i j, 0) := by unfold getV; rw [if_neg (by rw [hF]; simp), if_pos (by simp [hw])]; rfl
          have hT0 := cell_lt hi hj
          obtain ⟨b, ob, rfl, -⟩ := mat_at hm1 (i := i * (2 * N) + j) (by omega)
          have cT := gM_at hm1 hlen hi hj
          obtain ⟨C, hC⟩ : ∃ C, gM (2 * N) m i j = C := ⟨_, rfl⟩
          obtain ⟨P, hP⟩ : ∃ P, i * (2 * N) = P := ⟨_, rfl⟩
          obtain ⟨T, hT⟩ : ∃ T, P + j = T := ⟨_, rfl⟩
          rw [hP, hT] at cT hT0
          rw [hC] at cT e
          rw [e]
          have tl : (T : Int) < (L : Int) := by omega
          have hix := ixd hN hi hj hP hT
          have HIX := Lib.hid hix
          have HTT : Hid (∀ ww : World, Below W1.heap.size W1 ww → ww.cell? ⟨b, ob + T, none⟩ = some (.int .i64 C)) := Lib.hid fun ww hb => (hb.cell (p := ⟨b, ob + T, none⟩) (World.block_lt_of_cell? W1 _ cT)).trans cT
          rw [hL] at x2 HW HC HKP ⊢
          clear hW1 hX hm1 hx1 hb1 hm hF hem hok e hsw s1 s2 HSD HS2 hw hi0 hj0 hi1 hj1 hi hj hlen hT0 hC hP hT hix cT
          go_enter Try.func21, Try.ntmps21
          go_upto_region 1 with fail
          rw [HW.out.1, HW.out.2]
          go_upto_region 6 with (first | (go_at_call 11; ((with_reducible refine HC.out.mono ?_); rintro e w2 ⟨rfl, hb2⟩; have HK2 := Lib.hid (HKP.out _ hb2); have y0 := HK2.out.1.cell 0; have y1 := HK2.out.1.cell 1; have y2 := HK2.out.1.cell 2)) | (go_at_call 44; first | ((with_reducible refine (c1 w2).mono ?_); rintro e w3 ⟨rfl, hb3⟩; have HK3 := Lib.hid (gt_step HK2.out hb3); have y0 := HK3.out.1.cell 0; have y1 := HK3.out.1.cell 1; have y2 := HK3.out.1.cell 2) | ((with_reducible refine (c2 w3).mono ?_); rintro e w4 ⟨rfl, hb4⟩; have HK4 := Lib.hid (gt_step HK3.out hb4); have y0 := HK4.out.1.cell 0; have y1 := HK4.out.1.cell 1; have y2 := HK4.out.1.cell 2)) | fail)
          have cT4 := HTT.out _ ((hb2.trans (hb3.mono hb2.size)).trans (hb4.mono (Nat.le_trans hb2.size hb3.size)))
          obtain ⟨q1, q2, q3, q4⟩ := HIX.out
          go_wp2_with fail
          refine bodyPost_ret (results_tmp2 rfl _ _ _) rfl ?_
          exact ⟨rfl, by rw [HW.out.1]; exact HK4.out.2.2⟩
  · have e : getV ⟨n, em, m⟩ i j = (0, F) := by unfold getV; rw [if_pos (by rw [hF]; exact h0), hF]
    have k0 : (F != 0) = true := by simpa using h0
    rw [e]
    rw [hL] at x2 HW HC HKP ⊢
    clear hW1 hX hm1 hx1 hb1 hm hF h0 e
    go_enter Try.func21, Try.ntmps21
    go_upto_region 1 with fail
    rw [HW.out.1, HW.out.2]
    go_wp2_with (go_at_call 11; ((with_reducible refine HC.out.mono ?_); rintro e w2 ⟨rfl, hb2⟩; have HK2 := Lib.hid (HKP.out _ hb2)))
    refine bodyPost_ret (results_tmp2 rfl _ _ _) rfl ?_
    exact ⟨rfl, by rw [HW.out.1]; exact HK2.out.2.2⟩
end Go.Proofs.Ythnefcafhpioaaa
