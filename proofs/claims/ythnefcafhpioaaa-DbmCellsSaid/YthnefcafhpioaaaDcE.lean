/-
  The document's With.
-/
import Derived.Test.YthnefcafhpioaaaDcD
namespace Go.Proofs.Ythnefcafhpioaaa
open Go Go.RowKit Go.Shelf

theorem withO_in {N : Nat} {em : Bool} {m : List Int} {i j : Nat} {q : Int} (hc : chkO ⟨N, em, m⟩ = 0) (hw : witB (N : Int) i j = true) :
    withO ⟨N, em, m⟩ i j q = (if (em || (decide ((i : Int) = (j : Int)) && decide (q < 0))) = true then emptyOc N else ⟨N, false, withM (2 * N) m i j q⟩, 0) := by
  unfold withO
  rw [if_neg (by rw [hc]; simp), if_neg (by simp [hw])]
  by_cases h : (em || (decide ((i : Int) = (j : Int)) && decide (q < 0))) = true
  · rw [if_pos h, if_pos h]
  · rw [if_neg h, if_neg h]; rfl
abbrev WtF (X : Nat) (w : World) (cx cy : Array Value) (m : List Int) (a : Option Addr) (W : World) : Prop := Blk W X cx 24 ∧ Blk W (X + 1) cy 24 ∧ MAt W m a ∧ Below X w W
theorem wt_step {X : Nat} {w W W' : World} {cx cy : Array Value} {m : List Int} {a : Option Addr} (h : WtF X w cx cy m a W) (hb : Below W.heap.size W W') : WtF X w cx cy m a W' :=
  ⟨h.1.below hb h.1.lt, h.2.1.below hb h.2.1.lt, h.2.2.1.next hb, h.2.2.2.trans (hb.mono (Nat.le_of_lt h.1.lt))⟩
set_option maxRecDepth 100000 in
set_option maxHeartbeats 8000000 in
theorem rwith_any (x : Oc) (a : Option Addr) (c : Nat) (i j q : Int) (w : World) (hm : MAt w x.m a) :
    Calls Try.prog 23 #[ocV x a c, .int .i64 i, .int .i64 j, .int .i64 q] w (OctTo w (withO x i j q).1 (withO x i j q).2) := by
  obtain ⟨n, em, m⟩ := x
  simp only at hm
  show Calls Try.prog 23 #[.agg #[.int .i64 n, .bool em, .slice a m.length c], .int .i64 i, .int .i64 j, .int .i64 q] w _
  obtain ⟨X, hX⟩ : ∃ X, w.heap.size = X := ⟨_, rfl⟩
  obtain ⟨W1, hW1⟩ : ∃ W, (w.alloc (.cells #[.int .i64 n, .bool em, .slice a m.length c] 24)).alloc (.cells #[.int .i64 0, .bool false, .slice none 0 0] 24) = W := ⟨_, rfl⟩
  have hx1 : Blk W1 X #[.int .i64 n, .bool em, .slice a m.length c] 24 := by rw [← hW1, ← hX]; exact (Blk.new w _ _).alloc _
  have hy1 : Blk W1 (X + 1) #[.int .i64 0, .bool false, .slice none 0 0] 24 := by
    have h := Blk.new (w.alloc (.cells #[.int .i64 n, .bool em, .slice a m.length c] 24)) #[.int .i64 0, .bool false, .slice none 0 0] 24
    rw [World.size_alloc, hX] at h
    rw [← hW1]; exact h
  have hb1 : Below X w W1 := by rw [← hW1, ← hX]; exact ((Below.refl _ w).alloc (Nat.le_refl _) _).alloc (by simp) _
  have hs1 : W1.heap.size = X + 2 := by rw [← hW1, ← hX]; simp
  have hm1 : MAt W1 m a := hm.next (by rw [hX]; exact hb1)
  have HC : Hid (Calls Try.prog 11 #[.agg #[.int .i64 n, .bool em, .slice a m.length c]] W1 fun e w' => e = .returned (.int .i64 (chkO ⟨n, em, m⟩)) ∧ Below W1.heap.size W1 w') := Lib.hid (rchk_any ⟨n, em, m⟩ a c W1 hm1)
  have HW := Lib.hid (And.intro hX hW1)
  have x0 : W1.cell? ⟨X, 0, none⟩ = some (.int .i64 n) := hx1.cell 0
  have x1 : W1.cell? ⟨X, 1, none⟩ = some (.bool em) := hx1.cell 1
  have x2 : W1.cell? ⟨X, 2, none⟩ = some (.slice a m.length c) := hx1.cell 2
  have HKP : Hid (WtF X w #[.int .i64 n, .bool em, .slice a m.length c] #[.int .i64 0, .bool false, .slice none 0 0] m a W1 ∧ W1.heap.size = X + 2) := Lib.hid ⟨⟨hx1, hy1, hm1, hb1⟩, hs1⟩
  obtain ⟨L, hL⟩ : ∃ L, m.length = L := ⟨_, rfl⟩
  obtain ⟨F, hF⟩ : ∃ F, chkO ⟨n, em, m⟩ = F := ⟨_, rfl⟩
  rw [hF] at HC
  by_cases h0 : F = 0
  · obtain ⟨N, hN, hn, hem, hok⟩ := chk_zero (hF.trans h0)
    simp only at hn hem hok
    subst hn
    subst h0
    have HSD : Hid (∀ (k : Int) (ww : World), Calls Try.prog 44 #[.agg #[.int .i64 N, .bool em, .slice a L c], .int .i64 k] ww fun e w' => e = .returned (.bool (sidB N k)) ∧ Below ww.heap.size ww w') := Lib.hid fun k ww => side_any N hN em L a c k ww
    have hsw := sid_wit N i j
    cases s1 : sidB N i with
    | false =>
      have e : withO ⟨N, em, m⟩ i j q = (zeroOc, 122) := by
        rw [s1, Bool.false_and] at hsw
        unfold withO; rw [if_neg (by rw [hF]; simp), if_pos hsw.symm]
      have c1 := fun ww => HSD.out i ww
      rw [s1] at c1
      rw [e]
      rw [hL] at x2 HW HC HKP ⊢
      clear hW1 hX hm1 hx1 hy1 hb1 hm hF hem hok e hsw s1 HSD hs1
      go_enter Try.func23, Try.ntmps23
      go_upto_region 1 with fail
      simp only [HW.out.1]
      rw [HW.out.2]
      go_upto_region 5 with (first | (go_at_call 11; ((with_reducible refine HC.out.mono ?_); rintro e w2 ⟨rfl, hb2⟩; have HK2 := Lib.hid (wt_step HKP.out.1 hb2); have y0 := HK2.out.1.cell 0; have y1 := HK2.out.1.cell 1; have y2 := HK2.out.1.cell 2)) | (go_at_call 44; ((with_reducible refine (c1 _).mono ?_); rintro e w3 ⟨rfl, hb3⟩; have HK3 := Lib.hid (wt_step HK2.out hb3))) | fail)
      have z1 := HK3.out.2.1.cell 0
      have z2 := HK3.out.2.1.cell 1
      have z3 := HK3.out.2.1.cell 2
      have z4 := HK3.out.2.1.free 0
      have z5 := HK3.out.2.1.free 1
      have z6 := HK3.out.2.1.free 2
      go_wp2_with fail
      refine bodyPost_ret (results_row_tmp rfl _ _ (X + 1) _ #[.int .i64 0, .bool false, .slice none 0 0] _ _ rfl (set3_blk HK3.out.2.1) rfl rfl (by kernel_rfl)) rfl ?_
      exact ⟨none, 0, rfl, mown_nil _ _, by rw [HW.out.1]; exact set3_below HK3.out.2.2.2 (by omega)⟩
    | true =>
      cases s2 : sidB N j with
      | false =>
        have e : withO ⟨N, em, m⟩ i j q = (zeroOc, 122) := by
          rw [s1, s2] at hsw
          unfold withO; rw [if_neg (by rw [hF]; simp), if_pos (show witB (N : Int) i j = false from hsw.symm)]
        have c1 := fun ww => HSD.out i ww
        have c2 := fun ww => HSD.out j ww
        rw [s1] at c1
        rw [s2] at c2
        rw [e]
        rw [hL] at x2 HW HC HKP ⊢
        clear hW1 hX hm1 hx1 hy1 hb1 hm hF hem hok e hsw s1 s2 HSD hs1
        go_enter Try.func23, Try.ntmps23
        go_upto_region 1 with fail
        simp only [HW.out.1]
        rw [HW.out.2]
        go_upto_region 5 with (first | (go_at_call 11; ((with_reducible refine HC.out.mono ?_); rintro e w2 ⟨rfl, hb2⟩; have HK2 := Lib.hid (wt_step HKP.out.1 hb2); have y0 := HK2.out.1.cell 0; have y1 := HK2.out.1.cell 1; have y2 := HK2.out.1.cell 2)) | (go_at_call 44; first | ((with_reducible refine (c1 w2).mono ?_); rintro e w3 ⟨rfl, hb3⟩; have HK3 := Lib.hid (wt_step HK2.out hb3); have y0 := HK3.out.1.cell 0; have y1 := HK3.out.1.cell 1; have y2 := HK3.out.1.cell 2) | ((with_reducible refine (c2 w3).mono ?_); rintro e w4 ⟨rfl, hb4⟩; have HK4 := Lib.hid (wt_step HK3.out hb4); have y0 := HK4.out.1.cell 0; have y1 := HK4.out.1.cell 1; have y2 := HK4.out.1.cell 2)) | fail)
        have z1 := HK4.out.2.1.cell 0
        have z2 := HK4.out.2.1.cell 1
        have z3 := HK4.out.2.1.cell 2
        have z4 := HK4.out.2.1.free 0
        have z5 := HK4.out.2.1.free 1
        have z6 := HK4.out.2.1.free 2
        go_wp2_with fail
        refine bodyPost_ret (results_row_tmp rfl _ _ (X + 1) _ #[.int .i64 0, .bool false, .slice none 0 0] _ _ rfl (set3_blk HK4.out.2.1) rfl rfl (by kernel_rfl)) rfl ?_
        exact ⟨none, 0, rfl, mown_nil _ _, by rw [HW.out.1]; exact set3_below HK4.out.2.2.2 (by omega)⟩
      | true =>
        rw [s1, s2] at hsw
        have hw : witB (N : Int) i j = true := hsw.symm
        obtain ⟨hi0, hj0, hi1, hj1⟩ := (witB_iff _ _ _).1 hw
        obtain ⟨i, rfl⟩ : ∃ k : Nat, i = (k : Int) := ⟨i.toNat, by omega⟩
        obtain ⟨j, rfl⟩ : ∃ k : Nat, j = (k : Int) := ⟨j.toNat, by omega⟩
        have hi : i < 2 * N := by omega
        have hj : j < 2 * N := by omega
        have hl : m.length ≤ 16384 := by
          cases em with
          | true => rw [hem rfl]; omega
          | false =>
            rw [(hok rfl).1]
            exact Nat.mul_le_mul (show 2 * N ≤ 128 by omega) (show 2 * N ≤ 128 by omega)
        have c1 := fun ww => HSD.out (i : Int) ww
        have c2 := fun ww => HSD.out (j : Int) ww
        rw [s1] at c1
        rw [s2] at c2
        rw [withO_in hF hw]
        obtain ⟨po, hpo⟩ : ∃ po, (if (em || (decide ((i : Int) = (j : Int)) && decide (q < 0))) = true then emptyOc N else ⟨N, false, withM (2 * N) m i j q⟩ : Oc) = po := ⟨_, rfl⟩
        have HCP : Hid (∀ ww : World, MAt ww m a → Calls Try.prog 49 #[.agg #[.int .i64 N, .bool em, .slice a L c]] ww fun e w' => ∃ a' c', e = .returned (.agg #[.int .i64 N, .bool em, .slice a' L c']) ∧ MOwn ww.heap.size w' m a' c' ∧ Below ww.heap.size ww w') := Lib.hid fun ww h => by
          have h2 := rcopy_any (N : Int) em m a c ww h hl
          rw [hL] at h2
          exact h2
        have HBO : Hid (∀ (a' : Option Addr) (c' B : Nat) (ww : World), MOwn B ww m a' c' → B ≤ ww.heap.size → Calls Try.prog 48 #[.agg #[.int .i64 N, .bool em, .slice a' L c'], .int .i64 i, .int .i64 j, .int .i64 q] ww fun e w' => ∃ a2 c2, e = .returned (ocV po a2 c2) ∧ MOwn B w' po.m a2 c2 ∧ Below B ww w') := Lib.hid fun a' c' B ww h hB => by
          have h2 := rbound_any N hN em m a' c' i j q ww B h hB hem hok hi hj
          rw [hL, hpo] at h2
          exact h2
        obtain ⟨pn, pe, pm⟩ := po
        rw [hpo]
        rw [hL] at x2 HW HC HKP ⊢
        clear hW1 hX hm1 hx1 hy1 hb1 hm hF hem hok hsw s1 s2 HSD hs1 hw hi0 hj0 hi1 hj1 hi hj hl hpo
        go_enter Try.func23, Try.ntmps23
        go_upto_region 1 with fail
        simp only [HW.out.1]
        rw [HW.out.2]
        go_upto_region 6 with (first | (go_at_call 11; ((with_reducible refine HC.out.mono ?_); rintro e w2 ⟨rfl, hb2⟩; have HK2 := Lib.hid (wt_step HKP.out.1 hb2); have y0 := HK2.out.1.cell 0; have y1 := HK2.out.1.cell 1; have y2 := HK2.out.1.cell 2)) | (go_at_call 44; first | ((with_reducible refine (c1 w2).mono ?_); rintro e w3 ⟨rfl, hb3⟩; have HK3 := Lib.hid (wt_step HK2.out hb3); have y0 := HK3.out.1.cell 0; have y1 := HK3.out.1.cell 1; have y2 := HK3.out.1.cell 2) | ((with_reducible refine (c2 w3).mono ?_); rintro e w4 ⟨rfl, hb4⟩; have HK4 := Lib.hid (wt_step HK3.out hb4); have y0 := HK4.out.1.cell 0; have y1 := HK4.out.1.cell 1; have y2 := HK4.out.1.cell 2)) | fail)
        have HS4 := Lib.hid (show X + 2 ≤ w4.heap.size by have h1 := HKP.out.2; have h2 := hb2.size; have h3 := hb3.size; have h4 := hb4.size; omega)
        clear hb2 hb3 hb4 HK2 HK3 c1 c2 HC HKP x0 x1 x2
        go_wp2_with (first | (go_at_call 49; (with_reducible refine (HCP.out _ HK4.out.2.2.1).mono ?_); rintro e w5 ⟨a5, c5, rfl, hmo5, hb5⟩) | (go_at_call 48; (with_reducible refine (HBO.out _ _ w4.heap.size _ hmo5 hb5.size).mono ?_); rintro e w6 ⟨a6, c6, rfl, hmo6, hb6⟩; have hy6 : Blk w6 (X + 1) _ 24 := (HK4.out.2.1.below hb5 HK4.out.2.1.lt).below hb6 HK4.out.2.1.lt; have HF := Lib.hid (And.intro hy6 (And.intro hmo6 (HK4.out.2.2.2.trans ((hb5.trans hb6).mono (by have := HS4.out; omega))))); have z1 := hy6.cell 0; have z2 := hy6.cell 1; have z3 := hy6.cell 2; have z4 := hy6.free 0; have z5 := hy6.free 1; have z6 := hy6.free 2; clear hy6 hmo6 hb6) | fail)
        refine bodyPost_ret (results_row_tmp rfl _ _ (X + 1) _ #[.int .i64 pn, .bool pe, .slice a6 pm.length c6] _ _ rfl (set3_blk HF.out.1) rfl rfl (by kernel_rfl)) rfl ?_
        refine ⟨a6, c6, rfl, ?_, ?_⟩
        · rw [HW.out.1]; exact ((HF.out.2.1.lower HS4.out).set3 (by omega)).lower (by omega)
        · rw [HW.out.1]; exact set3_below HF.out.2.2 (by omega)
  · have e : withO ⟨n, em, m⟩ i j q = (zeroOc, F) := by unfold withO; rw [if_pos (by rw [hF]; exact h0), hF]
    have k0 : (F != 0) = true := by simpa using h0
    rw [e]
    rw [hL] at x2 HW HC HKP ⊢
    clear hW1 hX hm1 hx1 hy1 hb1 hm hF h0 e hs1
    go_enter Try.func23, Try.ntmps23
    go_upto_region 1 with fail
    simp only [HW.out.1]
    rw [HW.out.2]
    go_upto_region 3 with (go_at_call 11; ((with_reducible refine HC.out.mono ?_); rintro e w2 ⟨rfl, hb2⟩; have HK2 := Lib.hid (wt_step HKP.out.1 hb2)))
    have z1 := HK2.out.2.1.cell 0
    have z2 := HK2.out.2.1.cell 1
    have z3 := HK2.out.2.1.cell 2
    have z4 := HK2.out.2.1.free 0
    have z5 := HK2.out.2.1.free 1
    have z6 := HK2.out.2.1.free 2
    go_wp2_with fail
    refine bodyPost_ret (results_row_tmp rfl _ _ (X + 1) _ #[.int .i64 0, .bool false, .slice none 0 0] _ _ rfl (set3_blk HK2.out.2.1) rfl rfl (by kernel_rfl)) rfl ?_
    exact ⟨none, 0, rfl, mown_nil _ _, by rw [HW.out.1]; exact set3_below HK2.out.2.2.2 (by omega)⟩
end Go.Proofs.Ythnefcafhpioaaa
