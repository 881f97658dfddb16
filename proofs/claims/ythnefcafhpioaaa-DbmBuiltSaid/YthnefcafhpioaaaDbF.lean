/-
  Package dbm: Get and With.
-/
import Derived.Test.YthnefcafhpioaaaDbE
namespace Go.Proofs.Ythnefcafhpioaaa
open Go Go.RowKit Go.Shelf

theorem chk_zero {x : Oc} (h : chkO x = 0) : ∃ N : Nat, N ≤ 64 ∧ x.n = (N : Int) ∧ (x.em = true → x.m.length = 0) ∧ (x.em = false → x.m.length = 2 * N * (2 * N) ∧ okM (2 * N) x.m = true) := by
  cases hn : numB x.n with
  | false => rw [chk_bad hn] at h; cases h
  | true =>
    obtain ⟨h0, h64⟩ := numB_true hn
    obtain ⟨n, em, m⟩ := x
    simp only at h0 h64
    obtain ⟨N, rfl⟩ : ∃ N : Nat, n = (N : Int) := ⟨n.toNat, by omega⟩
    refine ⟨N, by omega, rfl, ?_⟩
    cases hs : (if em then (m.length : Int) == 0 else (m.length : Int) == ((4 * (N * N) : Nat) : Int)) with
    | false => rw [chk_sized hs] at h; cases h
    | true =>
      rw [chk_ok (by omega) hs] at h
      cases em with
      | true => simp at hs; exact ⟨fun _ => by simp [hs], fun e => by cases e⟩
      | false =>
        refine ⟨fun e => (by cases e), fun _ => ⟨chk_len hs, ?_⟩⟩
        cases ho : okM (2 * N) m with
        | true => rfl
        | false => rw [ho] at h; cases h
/-- What Get answers. -/
def getV (x : Oc) (i j : Int) : Int × Int := if chkO x ≠ 0 then (0, chkO x) else if witB x.n i j && !x.em then (gM (2 * x.n.toNat) x.m i.toNat j.toNat, 0) else (0, 122)
set_option maxRecDepth 100000 in
set_option maxHeartbeats 4000000 in
theorem get_any (x : Oc) (a : Option Addr) (c : Nat) (i j : Int) (w : World) (hm : MAt w x.m a) :
    Calls Try.prog 20 #[ocV x a c, .int .i64 i, .int .i64 j] w fun e w' => e = .returned (.tuple #[.int .i64 (getV x i j).1, .int .i64 (getV x i j).2]) ∧ Below w.heap.size w w' := by
  obtain ⟨n, em, m⟩ := x
  simp only at hm
  show Calls Try.prog 20 #[.agg #[.int .i64 n, .bool em, .slice a m.length c], .int .i64 i, .int .i64 j] w _
  obtain ⟨X, hX⟩ : ∃ X, w.heap.size = X := ⟨_, rfl⟩
  obtain ⟨W1, hW1⟩ : ∃ W, w.alloc (.cells #[.int .i64 n, .bool em, .slice a m.length c] 24) = W := ⟨_, rfl⟩
  have hx1 : Blk W1 X #[.int .i64 n, .bool em, .slice a m.length c] 24 := by rw [← hW1, ← hX]; exact Blk.new w _ _
  have hb1 : Below X w W1 := by rw [← hW1, ← hX]; exact (Below.refl _ w).alloc (Nat.le_refl _) _
  have hm1 : MAt W1 m a := hm.next (by rw [hX]; exact hb1)
  have HC : Hid (Calls Try.prog 10 #[.agg #[.int .i64 n, .bool em, .slice a m.length c]] W1 fun e w' => e = .returned (.int .i64 (chkO ⟨n, em, m⟩)) ∧ Below W1.heap.size W1 w') := Lib.hid (check_any ⟨n, em, m⟩ a c W1 hm1)
  have HW := Lib.hid (And.intro hX hW1)
  have HM := Lib.hid hm1
  have x0 : W1.cell? ⟨X, 0, none⟩ = some (.int .i64 n) := hx1.cell 0
  have x1 : W1.cell? ⟨X, 1, none⟩ = some (.bool em) := hx1.cell 1
  have x2 : W1.cell? ⟨X, 2, none⟩ = some (.slice a m.length c) := hx1.cell 2
  have HB := Lib.hid (And.intro hb1 (And.intro hx1 (Nat.le_of_lt hx1.lt)))
  obtain ⟨L, hL⟩ : ∃ L, m.length = L := ⟨_, rfl⟩
  obtain ⟨F, hF⟩ : ∃ F, chkO ⟨n, em, m⟩ = F := ⟨_, rfl⟩
  by_cases h0 : F = 0
  · obtain ⟨N, hN, hn, hem, hok⟩ := chk_zero (hF.trans h0)
    simp only at hn hem hok
    subst hn
    subst h0
    have hN0 : (0 : Int) ≤ (N : Int) := by omega
    have hN1 : (N : Int) ≤ 64 := by omega
    have cw := fun w => within_any (N : Int) i j hN0 hN1 w
    rw [hF] at HC
    have hx0 : ∀ ww : World, Below W1.heap.size W1 ww → Blk ww X #[.int .i64 N, .bool em, .slice a m.length c] 24 := fun ww hb => hx1.below hb hx1.lt
    have HY := Lib.hid hx0
    cases hw : witB (N : Int) i j with
    | false =>
      have e : getV ⟨N, em, m⟩ i j = (0, 122) := by unfold getV; rw [if_neg (by rw [hF]; simp), if_neg (by simp [hw])]
      rw [e]
      rw [hw] at cw
      rw [hL] at x2 HW HC HY ⊢
      clear hW1 hX hm1 hx1 hb1 hm hF hem hok hx0 HM hw e
      go_enter Try.func20, Try.ntmps20
      go_upto_region 1 with fail
      rw [HW.out.1, HW.out.2]
      go_wp2_with (first | (go_at_call 10; ((with_reducible refine HC.out.mono ?_); rintro e w2 ⟨rfl, hb2⟩; have y0 := (HY.out _ hb2).cell 0; have y1 := (HY.out _ hb2).cell 1; have y2 := (HY.out _ hb2).cell 2)) | (go_at_call 43; ((with_reducible refine (cw _).mono ?_); rintro e w2 ⟨rfl, rfl⟩)))
      refine bodyPost_ret (results_tmp2 rfl _ _ _) rfl ?_
      exact ⟨rfl, by rw [HW.out.1]; exact HB.out.1.trans (hb2.mono HB.out.2.2)⟩
    | true =>
      rw [hw] at cw
      cases em with
      | true =>
        have e : getV ⟨N, true, m⟩ i j = (0, 122) := by unfold getV; rw [if_neg (by rw [hF]; simp), if_neg (by simp)]
        rw [e]
        rw [hL] at x2 HW HC HY ⊢
        clear hW1 hX hm1 hx1 hb1 hm hF hem hok hx0 HM hw e
        go_enter Try.func20, Try.ntmps20
        go_upto_region 1 with fail
        rw [HW.out.1, HW.out.2]
        go_wp2_with (first | (go_at_call 10; ((with_reducible refine HC.out.mono ?_); rintro e w2 ⟨rfl, hb2⟩; have y0 := (HY.out _ hb2).cell 0; have y1 := (HY.out _ hb2).cell 1; have y2 := (HY.out _ hb2).cell 2)) | (go_at_call 43; ((with_reducible refine (cw _).mono ?_); rintro e w2 ⟨rfl, rfl⟩)))
        refine bodyPost_ret (results_tmp2 rfl _ _ _) rfl ?_
        exact ⟨rfl, by rw [HW.out.1]; exact HB.out.1.trans (hb2.mono HB.out.2.2)⟩
      | false =>
        obtain ⟨hi0, hj0, hi1, hj1⟩ := (witB_iff _ _ _).1 hw
        obtain ⟨i, rfl⟩ : ∃ k : Nat, i = (k : Int) := ⟨i.toNat, by omega⟩
        obtain ⟨j, rfl⟩ : ∃ k : Nat, j = (k : Int) := ⟨j.toNat, by omega⟩
        have hi : i < 2 * N := by omega
        have hj : j < 2 * N := by omega
        have hlen := (hok rfl).1
        have e : getV ⟨N, false, m⟩ i j = (gM (2 * N) m i j, 0) := by unfold getV; rw [if_neg (by rw [hF]; simp), if_pos (by simp [hw])]; rfl
        have hT0 := cell_lt hi hj
        obtain ⟨b, ob, rfl, -⟩ := mat_at hm1 (i := i * (2 * N) + j) (by omega)
        have cT := gM_at hm1 hlen hi hj
        obtain ⟨C, hC⟩ : ∃ C, gM (2 * N) m i j = C := ⟨_, rfl⟩
        have HIX := Lib.hid (fun w => index_any N i j hN hi hj w)
        obtain ⟨T, hT⟩ : ∃ T, i * (2 * N) + j = T := ⟨_, rfl⟩
        rw [hT] at cT HIX hT0
        rw [hC] at cT e
        rw [e]
        have tl : (T : Int) < (L : Int) := by omega
        have HTT : Hid (∀ ww : World, Below W1.heap.size W1 ww → ww.cell? ⟨b, ob + T, none⟩ = some (.int .i64 C)) := Lib.hid fun ww hb => (hb.cell (p := ⟨b, ob + T, none⟩) (World.block_lt_of_cell? W1 _ cT)).trans cT
        rw [hL] at x2 HW HC HY ⊢
        clear hW1 hX hm1 hx1 hb1 hm hF hem hok hx0 HM hw e hT hlen hC cT hi hj hi0 hi1 hj0 hj1 hT0
        go_enter Try.func20, Try.ntmps20
        go_upto_region 1 with fail
        rw [HW.out.1, HW.out.2]
        go_upto_region 6 with (first | (go_at_call 10; ((with_reducible refine HC.out.mono ?_); rintro e w2 ⟨rfl, hb2⟩; have y0 := (HY.out _ hb2).cell 0; have y1 := (HY.out _ hb2).cell 1; have y2 := (HY.out _ hb2).cell 2)) | (go_at_call 43; ((with_reducible refine (cw _).mono ?_); rintro e w2 ⟨rfl, rfl⟩)))
        have HX := Lib.hid (And.intro y0 y2)
        have HT := Lib.hid (HTT.out _ hb2)
        have HBB : Hid (Below w.heap.size w w2) := Lib.hid (by rw [HW.out.1]; exact HB.out.1.trans (hb2.mono HB.out.2.2))
        clear y0 y1 y2 x0 x1 x2 cw HC HY hb2 HTT
        refine wp_region_any (by kernel_rfl) ?_
        refine wpAny_vals [24, 25, 26, 27, 28, 29, 30, 31, 32, 6, 7] [.pointer (some ⟨X, 2, none⟩), .slice (some ⟨b, ob, none⟩) L c, .pointer (some ⟨X, 0, none⟩), .int .i64 (N : Int), .int .i64 (i : Int), .int .i64 (j : Int), .int .i64 (T : Int), .pointer (some ⟨b, ob + T, none⟩), .int .i64 (C : Int), .int .i64 (C : Int), .int .i64 (0 : Int)] (fun w' => w' = w2.drew) rfl (by kernel_rfl) (by decide) (by kernel_rfl) ?hs ?he ?hj
        case hj => exact rfl
        case hs =>
          intro i o ho fr0 hv hx w' hJ
          have hi : i < 11 := (Array.getElem?_eq_some_iff.1 ho).1
          have c0 : w'.cell? ⟨X, 0, none⟩ = some (.int .i64 N) := by rw [hJ]; exact HX.out.1
          have c2 : w'.cell? ⟨X, 2, none⟩ = some (.slice (some ⟨b, ob, none⟩) L c) := by rw [hJ]; exact HX.out.2
          have cT : w'.cell? ⟨b, ob + T, none⟩ = some (.int .i64 C) := by rw [hJ]; exact HT.out
          have HJ := Lib.hid hJ
          clear hJ
          have hcase : i = 0 ∨ i = 1 ∨ i = 2 ∨ i = 3 ∨ i = 4 ∨ i = 5 ∨ i = 6 ∨ i = 7 ∨ i = 8 ∨ i = 9 ∨ i = 10 := by omega
          clear hi
          rcases hcase with rfl | rfl | rfl | rfl | rfl | rfl | rfl | rfl | rfl | rfl | rfl
          · obtain rfl := Option.some.inj ho.symm
            clear ho
            have x3 : fr0.tmps[(3 : Nat)]? = some (.pointer (some ⟨X, 0, none⟩)) := hx 3 (by decide)
            clear hv hx
            refine wpOp_step rfl (fun K hK => ?_)
            go_simp
            exact hK _ _ ⟨rfl, HJ.out⟩
          · obtain rfl := Option.some.inj ho.symm
            clear ho
            have d0 : fr0.tmps[(24 : Nat)]? = some (.pointer (some ⟨X, 2, none⟩)) := hv ⟨0, .data⟩ (by simp) rfl
            clear hv hx
            refine wpOp_step rfl (fun K hK => ?_)
            go_simp
            exact hK _ _ ⟨rfl, HJ.out⟩
          · obtain rfl := Option.some.inj ho.symm
            clear ho
            have x3 : fr0.tmps[(3 : Nat)]? = some (.pointer (some ⟨X, 0, none⟩)) := hx 3 (by decide)
            clear hv hx
            refine wpOp_step rfl (fun K hK => ?_)
            go_simp
            exact hK _ _ ⟨rfl, HJ.out⟩
          · obtain rfl := Option.some.inj ho.symm
            clear ho
            have d2 : fr0.tmps[(26 : Nat)]? = some (.pointer (some ⟨X, 0, none⟩)) := hv ⟨2, .data⟩ (by simp) rfl
            clear hv hx
            refine wpOp_step rfl (fun K hK => ?_)
            go_simp
            exact hK _ _ ⟨rfl, HJ.out⟩
          · obtain rfl := Option.some.inj ho.symm
            clear ho
            have x1 : fr0.tmps[(1 : Nat)]? = some (.int .i64 (i : Int)) := hx 1 (by decide)
            clear hv hx
            refine wpOp_step rfl (fun K hK => ?_)
            go_simp
            exact hK _ _ ⟨rfl, HJ.out⟩
          · obtain rfl := Option.some.inj ho.symm
            clear ho
            have x2 : fr0.tmps[(2 : Nat)]? = some (.int .i64 (j : Int)) := hx 2 (by decide)
            clear hv hx
            refine wpOp_step rfl (fun K hK => ?_)
            go_simp
            exact hK _ _ ⟨rfl, HJ.out⟩
          · obtain rfl := Option.some.inj ho.symm
            clear ho
            have d3 : fr0.tmps[(27 : Nat)]? = some (.int .i64 (N : Int)) := hv ⟨3, .data⟩ (by simp) rfl
            have d4 : fr0.tmps[(28 : Nat)]? = some (.int .i64 (i : Int)) := hv ⟨4, .data⟩ (by simp) rfl
            have d5 : fr0.tmps[(29 : Nat)]? = some (.int .i64 (j : Int)) := hv ⟨5, .data⟩ (by simp) rfl
            clear hv hx
            refine wpOp_step rfl (fun K hK => ?_)
            go_simp
            go_at_call 42
            refine (HIX.out _).mono ?_
            rintro e w2 ⟨rfl, rfl⟩
            exact hK _ _ ⟨rfl, HJ.out⟩
          · obtain rfl := Option.some.inj ho.symm
            clear ho
            have d1 : fr0.tmps[(25 : Nat)]? = some (.slice (some ⟨b, ob, none⟩) L c) := hv ⟨1, .data⟩ (by simp) rfl
            have d6 : fr0.tmps[(30 : Nat)]? = some (.int .i64 (T : Int)) := hv ⟨6, .data⟩ (by simp) rfl
            clear hv hx
            refine wpOp_step rfl (fun K hK => ?_)
            go_simp
            exact hK _ _ ⟨rfl, HJ.out⟩
          · obtain rfl := Option.some.inj ho.symm
            clear ho
            have d7 : fr0.tmps[(31 : Nat)]? = some (.pointer (some ⟨b, ob + T, none⟩)) := hv ⟨7, .data⟩ (by simp) rfl
            clear hv hx
            refine wpOp_step rfl (fun K hK => ?_)
            go_simp
            exact hK _ _ ⟨rfl, HJ.out⟩
          · obtain rfl := Option.some.inj ho.symm
            clear ho
            have d8 : fr0.tmps[(32 : Nat)]? = some (.int .i64 (C : Int)) := hv ⟨8, .data⟩ (by simp) rfl
            clear hv hx
            refine wpOp_step rfl (fun K hK => ?_)
            go_simp
            exact hK _ _ ⟨rfl, HJ.out⟩
          · obtain rfl := Option.some.inj ho.symm
            clear ho
            clear hv hx
            refine wpOp_step rfl (fun K hK => ?_)
            go_simp
            exact hK _ _ ⟨rfl, HJ.out⟩
        case he =>
          intro w' hJ
          simp only [putF, valsAt, Nat.reduceAdd, Nat.zero_add, List.getD_cons_zero, List.getD_cons_succ, Act.put, List.setIfInBounds_toArray, List.set_cons_succ, List.set_cons_zero]
          rw [hJ]
          clear hJ
          go_wp2_with fail
          refine bodyPost_ret (results_tmp2 rfl _ _ _) rfl ?_
          exact ⟨rfl, HBB.out.drew⟩
  · have e : getV ⟨n, em, m⟩ i j = (0, F) := by unfold getV; rw [if_pos (by rw [hF]; exact h0), hF]
    have k0 : (F != 0) = true := by simpa using h0
    rw [e]
    rw [hF] at HC
    rw [hL] at x2 HW HC ⊢
    clear hW1 hX hm1 hx1 hb1 hm hF h0 HM e
    go_enter Try.func20, Try.ntmps20
    go_upto_region 1 with fail
    rw [HW.out.1, HW.out.2]
    go_wp2_with (go_at_call 10; ((with_reducible refine HC.out.mono ?_); rintro e w2 ⟨rfl, hb2⟩))
    refine bodyPost_ret (results_tmp2 rfl _ _ _) rfl ?_
    exact ⟨rfl, by rw [HW.out.1]; exact HB.out.1.trans (hb2.mono HB.out.2.2)⟩

def withM (n : Nat) (m : List Int) (i j : Nat) (c : Int) : List Int := sM n (sM n m i j (lessV (gM n m i j) c)) (acr j) (acr i) (lessV (gM n m i j) c)
/-- What With answers. -/
def withO (x : Oc) (i j c : Int) : Oc × Int := if chkO x ≠ 0 then (zeroOc, chkO x) else if witB x.n i j = false then (zeroOc, 122) else if (x.em || (decide (i = j) && decide (c < 0))) = true then (emptyOc x.n, 0) else (⟨x.n, false, withM (2 * x.n.toNat) x.m i.toNat j.toNat c⟩, 0)
set_option maxRecDepth 100000 in
set_option maxHeartbeats 4000000 in
theorem with_any (x : Oc) (a : Option Addr) (c : Nat) (i j q : Int) (w : World) (hm : MAt w x.m a) (hc : x.m.length ≤ maxLen) :
    Calls Try.prog 22 #[ocV x a c, .int .i64 i, .int .i64 j, .int .i64 q] w (OctTo w (withO x i j q).1 (withO x i j q).2) := by
  obtain ⟨n, em, m⟩ := x
  simp only at hm hc
  show Calls Try.prog 22 #[.agg #[.int .i64 n, .bool em, .slice a m.length c], .int .i64 i, .int .i64 j, .int .i64 q] w _
  obtain ⟨X, hX⟩ : ∃ X, w.heap.size = X := ⟨_, rfl⟩
  obtain ⟨W1, hW1⟩ : ∃ W, (w.alloc (.cells #[.int .i64 n, .bool em, .slice a m.length c] 24)).alloc (.cells #[.int .i64 0, .bool false, .slice none 0 0] 24) = W := ⟨_, rfl⟩
  have hx1 : Blk W1 X #[.int .i64 n, .bool em, .slice a m.length c] 24 := by rw [← hW1, ← hX]; exact (Blk.new w _ _).alloc _
  have hy1 : Blk W1 (X + 1) #[.int .i64 0, .bool false, .slice none 0 0] 24 := by
    have h := Blk.new (w.alloc (.cells #[.int .i64 n, .bool em, .slice a m.length c] 24)) #[.int .i64 0, .bool false, .slice none 0 0] 24
    rw [World.size_alloc, hX] at h
    rw [← hW1]; exact h
  have hb1 : Below X w W1 := by rw [← hW1, ← hX]; exact ((Below.refl _ w).alloc (Nat.le_refl _) _).alloc (by simp) _
  have hs1 : W1.heap.size = X + 2 := by rw [← hW1, ← hX]; simp
  have hm1 : MAt W1 m a := hm.next (by rw [hX]; exact hb1)
  have HC : Hid (Calls Try.prog 10 #[.agg #[.int .i64 n, .bool em, .slice a m.length c]] W1 fun e w' => e = .returned (.int .i64 (chkO ⟨n, em, m⟩)) ∧ Below W1.heap.size W1 w') := Lib.hid (check_any ⟨n, em, m⟩ a c W1 hm1)
  have HW := Lib.hid (And.intro hX hW1)
  have x0 : W1.cell? ⟨X, 0, none⟩ = some (.int .i64 n) := hx1.cell 0
  have x1 : W1.cell? ⟨X, 1, none⟩ = some (.bool em) := hx1.cell 1
  have x2 : W1.cell? ⟨X, 2, none⟩ = some (.slice a m.length c) := hx1.cell 2
  have HB := Lib.hid (And.intro hb1 hs1)
  have HKP : Hid (∀ ww : World, Below W1.heap.size W1 ww → Blk ww X #[.int .i64 n, .bool em, .slice a m.length c] 24 ∧ Blk ww (X + 1) #[.int .i64 0, .bool false, .slice none 0 0] 24 ∧ MAt ww m a ∧ Below X w ww) := Lib.hid fun ww hb => ⟨hx1.below hb hx1.lt, hy1.below hb hy1.lt, hm1.next hb, hb1.trans (hb.mono (by omega))⟩
  obtain ⟨L, hL⟩ : ∃ L, m.length = L := ⟨_, rfl⟩
  obtain ⟨F, hF⟩ : ∃ F, chkO ⟨n, em, m⟩ = F := ⟨_, rfl⟩
  by_cases h0 : F = 0
  · obtain ⟨N, hN, hn, hem, hok⟩ := chk_zero (hF.trans h0)
    simp only at hn hem hok
    subst hn
    subst h0
    have hN0 : (0 : Int) ≤ (N : Int) := by omega
    have hN1 : (N : Int) ≤ 64 := by omega
    have cw := fun w => within_any (N : Int) i j hN0 hN1 w
    rw [hF] at HC
    cases hw : witB (N : Int) i j with
    | false =>
      have e : withO ⟨N, em, m⟩ i j q = (zeroOc, 122) := by unfold withO; rw [if_neg (by rw [hF]; simp), if_pos hw]
      rw [e]
      rw [hw] at cw
      rw [hL] at x2 HW HC HKP ⊢
      clear hW1 hX hm1 hx1 hy1 hb1 hm hF hem hok hw e hs1
      go_enter Try.func22, Try.ntmps22
      go_upto_region 1 with fail
      simp only [HW.out.1]
      rw [HW.out.2]
      go_upto_region 5 with (first | (go_at_call 10; ((with_reducible refine HC.out.mono ?_); rintro e w2 ⟨rfl, hb2⟩; have HK2 := Lib.hid (HKP.out _ hb2); have y0 := HK2.out.1.cell 0; have y1 := HK2.out.1.cell 1)) | (go_at_call 43; ((with_reducible refine (cw _).mono ?_); rintro e w2 ⟨rfl, rfl⟩)))
      have z1 := HK2.out.2.1.cell 0
      have z2 := HK2.out.2.1.cell 1
      have z3 := HK2.out.2.1.cell 2
      have z4 := HK2.out.2.1.free 0
      have z5 := HK2.out.2.1.free 1
      have z6 := HK2.out.2.1.free 2
      go_wp2_with fail
      refine bodyPost_ret (results_row_tmp rfl _ _ (X + 1) _ #[.int .i64 0, .bool false, .slice none 0 0] _ _ rfl (set3_blk HK2.out.2.1) rfl rfl (by kernel_rfl)) rfl ?_
      exact ⟨none, 0, rfl, mown_nil _ _, by rw [HW.out.1]; exact set3_below HK2.out.2.2.2 (by omega)⟩
    | true =>
      rw [hw] at cw
      have HE : Hid (∀ w : World, Calls Try.prog 15 #[.int .i64 N] w fun e w' => e = .returned (.tuple #[.agg #[.int .i64 N, .bool true, .slice none 0 0], .int .i64 0]) ∧ Below w.heap.size w w') := Lib.hid fun w => by have h := empty_any (N : Int) w; rw [if_pos (numB_of hN)] at h; exact h
      cases em with
      | true =>
        have e : withO ⟨N, true, m⟩ i j q = (emptyOc N, 0) := by unfold withO; rw [if_neg (by rw [hF]; simp), if_neg (by simp [hw]), if_pos (by rfl)]
        rw [e]
        rw [hL] at x2 HW HC HKP ⊢
        clear hW1 hX hm1 hx1 hy1 hb1 hm hF hem hok hw e hs1
        go_enter Try.func22, Try.ntmps22
        go_upto_region 1 with fail
        simp only [HW.out.1]
        rw [HW.out.2]
        go_upto_region 8 with (first | (go_at_call 10; ((with_reducible refine HC.out.mono ?_); rintro e w2 ⟨rfl, hb2⟩; have HK2 := Lib.hid (HKP.out _ hb2); have y0 := HK2.out.1.cell 0; have y1 := HK2.out.1.cell 1)) | (go_at_call 43; ((with_reducible refine (cw _).mono ?_); rintro e w2 ⟨rfl, rfl⟩)))
        have HSZ := Lib.hid (show X + 2 ≤ w2.heap.size by have := hb2.size; have := HB.out.2; omega)
        go_wp2_with (first | (go_at_call 15; ((with_reducible refine (HE.out _).mono ?_); rintro e w5 ⟨rfl, hb5⟩; have HK5 := Lib.hid (HK2.out.2.1.below hb5 HK2.out.2.1.lt); have z1 := HK5.out.cell 0; have z2 := HK5.out.cell 1; have z3 := HK5.out.cell 2; have z4 := HK5.out.free 0; have z5 := HK5.out.free 1; have z6 := HK5.out.free 2)) | fail)
        refine bodyPost_ret (results_row_tmp rfl _ _ (X + 1) _ #[.int .i64 N, .bool true, .slice none 0 0] _ _ rfl (set3_blk HK5.out) rfl rfl (by kernel_rfl)) rfl ?_
        exact ⟨none, 0, rfl, mown_nil _ _, by rw [HW.out.1]; exact set3_below (HK2.out.2.2.2.trans (hb5.mono (by have := HSZ.out; omega))) (by omega)⟩
      | false =>
        obtain ⟨hi0, hj0, hi1, hj1⟩ := (witB_iff _ _ _).1 hw
        obtain ⟨i, rfl⟩ : ∃ k : Nat, i = (k : Int) := ⟨i.toNat, by omega⟩
        obtain ⟨j, rfl⟩ : ∃ k : Nat, j = (k : Int) := ⟨j.toNat, by omega⟩
        by_cases hij : i = j ∧ q < 0
        · have e : withO ⟨N, false, m⟩ i j q = (emptyOc N, 0) := by unfold withO; rw [if_neg (by rw [hF]; simp), if_neg (by simp [hw]), if_pos (by simp [hij.1, hij.2])]
          rw [e]
          have k1 : ((i : Int) == (j : Int)) = true := by rw [hij.1]; simp
          have k2 : q < 0 := hij.2
          rw [hL] at x2 HW HC HKP ⊢
          clear hW1 hX hm1 hx1 hy1 hb1 hm hF hem hok hw e hs1 hij
          go_enter Try.func22, Try.ntmps22
          go_upto_region 1 with fail
          simp only [HW.out.1]
          rw [HW.out.2]
          go_upto_region 8 with (first | (go_at_call 10; ((with_reducible refine HC.out.mono ?_); rintro e w2 ⟨rfl, hb2⟩; have HK2 := Lib.hid (HKP.out _ hb2); have y0 := HK2.out.1.cell 0; have y1 := HK2.out.1.cell 1)) | (go_at_call 43; ((with_reducible refine (cw _).mono ?_); rintro e w2 ⟨rfl, rfl⟩)))
          have HSZ := Lib.hid (show X + 2 ≤ w2.heap.size by have := hb2.size; have := HB.out.2; omega)
          go_wp2_with (first | (go_at_call 15; ((with_reducible refine (HE.out _).mono ?_); rintro e w5 ⟨rfl, hb5⟩; have HK5 := Lib.hid (HK2.out.2.1.below hb5 HK2.out.2.1.lt); have z1 := HK5.out.cell 0; have z2 := HK5.out.cell 1; have z3 := HK5.out.cell 2; have z4 := HK5.out.free 0; have z5 := HK5.out.free 1; have z6 := HK5.out.free 2)) | fail)
          refine bodyPost_ret (results_row_tmp rfl _ _ (X + 1) _ #[.int .i64 N, .bool true, .slice none 0 0] _ _ rfl (set3_blk HK5.out) rfl rfl (by kernel_rfl)) rfl ?_
          exact ⟨none, 0, rfl, mown_nil _ _, by rw [HW.out.1]; exact set3_below (HK2.out.2.2.2.trans (hb5.mono (by have := HSZ.out; omega))) (by omega)⟩
        · have hi : i < 2 * N := by omega
          have hj : j < 2 * N := by omega
          have hlen := (hok rfl).1
          have e : withO ⟨N, false, m⟩ i j q = (⟨N, false, withM (2 * N) m i j q⟩, 0) := by
            unfold withO
            rw [if_neg (by rw [hF]; simp), if_neg (by simp [hw]), if_neg (by simp; intro h; have : i = j := by omega
                                                                             by_cases hq : q < 0
                                                                             · exact absurd ⟨this, hq⟩ hij
                                                                             · omega)]
            rfl
          have hT0 := cell_lt hi hj
          have hR0 := cell_lt (acr_lt hj) (acr_lt hi)
          obtain ⟨b, ob, rfl, -⟩ := mat_at hm1 (i := i * (2 * N) + j) (by omega)
          have HCL : Hid (∀ ww : World, MAt ww m (some ⟨b, ob, none⟩) → Calls Try.prog 45 #[.slice (some ⟨b, ob, none⟩) L c] ww fun e w' => ∃ g c', e = .returned (.slice (some ⟨g, 0, none⟩) L c') ∧ ww.heap.size ≤ g ∧ MOwn ww.heap.size w' m (some ⟨g, 0, none⟩) c' ∧ Below ww.heap.size ww w') := Lib.hid fun ww hmw => by
            obtain ⟨i0, hi0', hz0, hz1, hz2⟩ := info_parts info_i64
            refine (Try.slices_Clone i0 _ 1 8 hi0' hz0 hz1 hz2 rfl (by decide) Try.sizeOf2 b ob L c (cvI m) ww (by rw [cvI_len, hL]; omega) (by rw [← hL]; exact hc) (by have := ix_lt hi hj hN; have h2 : 2 * N * (2 * N) ≤ 128 * 128 := Nat.mul_le_mul (by omega) (by omega); omega) (fun k u hk => ?_) (cvI_one m)).mono ?_
            · have hkl : k < m.length := by
                rcases Nat.lt_or_ge k m.length with h' | h'
                · exact h'
                · rw [List.getElem?_eq_none (by rw [cvI_len]; exact h')] at hk; cases hk
              rw [cvI_at m k hkl] at hk
              rw [← Option.some.inj hk]
              obtain ⟨b', o', e', hcc⟩ := hmw.resolve_left (by omega)
              cases e'
              exact hcc k hkl
            · rintro e w' ⟨v', rfl, hown, -, hb⟩
              rw [← hL] at hown ⊢
              obtain ⟨a', c', rfl, ho⟩ := own_mown hown
              obtain ⟨g, rfl, hg, -⟩ := ho.at (i := 0) (by omega)
              exact ⟨g, c', rfl, hg, ho, hb⟩
          have k1 : ((i : Int) == (j : Int)) = true → 0 ≤ q := fun h => by
            have : i = j := by have h2 := eq_of_beq h; omega
            by_cases hq : q < 0
            · exact absurd ⟨this, hq⟩ hij
            · omega
          have HIX := Lib.hid (fun w => index_any N i j hN hi hj w)
          have HIX2 := Lib.hid (fun w => index_any N (acr j) (acr i) hN (acr_lt hj) (acr_lt hi) w)
          have HAI := Lib.hid (fun w => across_any i (by omega) w)
          have HAJ := Lib.hid (fun w => across_any j (by omega) w)
          have hV : withM (2 * N) m i j q = (m.set (i * (2 * N) + j) (lessV (gM (2 * N) m i j) q)).set (acr j * (2 * N) + acr i) (lessV (gM (2 * N) m i j) q) := rfl
          obtain ⟨I, hI⟩ : ∃ I, acr i = I := ⟨_, rfl⟩
          obtain ⟨J, hJ⟩ : ∃ I, acr j = I := ⟨_, rfl⟩
          rw [hI] at HAI HIX2 hR0 hV
          rw [hJ] at HAJ HIX2 hR0 hV
          have hC : m.getD (i * (2 * N) + j) 0 = gM (2 * N) m i j := rfl
          obtain ⟨T, hT⟩ : ∃ T, i * (2 * N) + j = T := ⟨_, rfl⟩
          obtain ⟨R, hR⟩ : ∃ T, J * (2 * N) + I = T := ⟨_, rfl⟩
          rw [hT] at HIX hT0 hV hC
          rw [hR] at HIX2 hR0 hV
          obtain ⟨C, hCC⟩ : ∃ C, gM (2 * N) m i j = C := ⟨_, rfl⟩
          rw [hCC] at hC hV
          have HLE := Lib.hid (fun w => less_any C q w)
          obtain ⟨V, hVV⟩ : ∃ V, lessV C q = V := ⟨_, rfl⟩
          rw [hVV] at HLE hV
          have HTL := Lib.hid (And.intro (show T < m.length by omega) (show R < m.length by omega))
          have tl : (T : Int) < (L : Int) := by omega
          have rl : (R : Int) < (L : Int) := by omega
          have HV := Lib.hid (And.intro hC hV)
          have HL := Lib.hid hL
          rw [e]
          rw [hL] at x2 HW HC HKP ⊢
          clear hW1 hX hm1 hx1 hy1 hb1 hm hF hem hok hw e hs1 hT hR hI hJ hlen hCC hC hV hVV hi hj hi0 hi1 hj0 hj1 hT0 hR0 hL hc hN
          cases hk : ((i : Int) == (j : Int)) with
          | true =>
            have k2 : 0 ≤ q := k1 hk
            clear hij k1
            go_enter Try.func22, Try.ntmps22
            go_upto_region 1 with fail
            simp only [HW.out.1]
            rw [HW.out.2]
            go_upto_region 9 with (first | (go_at_call 10; ((with_reducible refine HC.out.mono ?_); rintro e w2 ⟨rfl, hb2⟩; have HK2 := Lib.hid (HKP.out _ hb2); have y0 := HK2.out.1.cell 0; have y1 := HK2.out.1.cell 1; have y2 := HK2.out.1.cell 2)) | (go_at_call 43; ((with_reducible refine (cw _).mono ?_); rintro e w2 ⟨rfl, rfl⟩)))
            have HSZ := Lib.hid (show X + 2 ≤ w2.heap.size by have := hb2.size; have := HB.out.2; omega)
            go_upto_region 10 with (first | (go_at_call 45; ((with_reducible refine (HCL.out _ HK2.out.2.2.1).mono ?_); rintro e w4 ⟨g, c', rfl, hg, hown, hb4⟩)) | fail)
            have HG := Lib.hid (show X + 2 ≤ g by have := HSZ.out; omega)
            have HO := Lib.hid (hown.lower HSZ.out)
            have HXY := Lib.hid (And.intro (HK2.out.1.below hb4 HK2.out.1.lt) (And.intro (HK2.out.2.1.below hb4 HK2.out.2.1.lt) (HK2.out.2.2.2.trans (hb4.mono (by have := HSZ.out; omega)))))
            have HX := Lib.hid (And.intro (HXY.out.1.cell 0) True.intro)
            clear y0 y1 y2 x0 x1 x2 cw HC HK2 hb2 hb4 hown hg HKP HCL HE
            refine wp_region_any (by kernel_rfl) ?_
            refine wpAny_vals [46, 47, 48, 49, 50, 51, 52, 53, 54, 55, 56, 57, 12, 13] [.pointer (some ⟨X, 0, none⟩), .int .i64 (N : Int), .int .i64 (i : Int), .int .i64 (j : Int), .int .i64 (T : Int), .pointer (some ⟨X, 0, none⟩), .int .i64 (N : Int), .int .i64 (j : Int), .int .i64 (J : Int), .int .i64 (i : Int), .int .i64 (I : Int), .int .i64 (R : Int), .int .i64 (T : Int), .int .i64 (R : Int)] (fun w' => w' = w4.drew) rfl (by kernel_rfl) (by decide) (by kernel_rfl) ?hs ?he ?hj
            case hj => exact rfl
            case hs =>
              intro i o ho fr0 hv hx w' hJ
              have hi : i < 14 := (Array.getElem?_eq_some_iff.1 ho).1
              have c0 : w'.cell? ⟨X, 0, none⟩ = some (.int .i64 N) := by rw [hJ]; exact HX.out.1
              have HJ := Lib.hid hJ
              clear hJ
              have hcase : i = 0 ∨ i = 1 ∨ i = 2 ∨ i = 3 ∨ i = 4 ∨ i = 5 ∨ i = 6 ∨ i = 7 ∨ i = 8 ∨ i = 9 ∨ i = 10 ∨ i = 11 ∨ i = 12 ∨ i = 13 := by omega
              clear hi
              rcases hcase with rfl | rfl | rfl | rfl | rfl | rfl | rfl | rfl | rfl | rfl | rfl | rfl | rfl | rfl
              · obtain rfl := Option.some.inj ho.symm
                clear ho
                have x4 : fr0.tmps[(4 : Nat)]? = some (.pointer (some ⟨X, 0, none⟩)) := hx 4 (by decide)
                clear hv hx
                refine wpOp_step rfl (fun K hK => ?_)
                go_simp
                exact hK _ _ ⟨rfl, HJ.out⟩
              · obtain rfl := Option.some.inj ho.symm
                clear ho
                have d0 : fr0.tmps[(46 : Nat)]? = some (.pointer (some ⟨X, 0, none⟩)) := hv ⟨0, .data⟩ (by simp) rfl
                clear hv hx
                refine wpOp_step rfl (fun K hK => ?_)
                go_simp
                exact hK _ _ ⟨rfl, HJ.out⟩
              · obtain rfl := Option.some.inj ho.symm
                clear ho
                have x1 : fr0.tmps[(1 : Nat)]? = some (.int .i64 (i : Int)) := hx 1 (by decide)
                clear hv hx
                refine wpOp_step rfl (fun K hK => ?_)
                go_simp
                exact hK _ _ ⟨rfl, HJ.out⟩
              · obtain rfl := Option.some.inj ho.symm
                clear ho
                have x2 : fr0.tmps[(2 : Nat)]? = some (.int .i64 (j : Int)) := hx 2 (by decide)
                clear hv hx
                refine wpOp_step rfl (fun K hK => ?_)
                go_simp
                exact hK _ _ ⟨rfl, HJ.out⟩
              · obtain rfl := Option.some.inj ho.symm
                clear ho
                have d1 : fr0.tmps[(47 : Nat)]? = some (.int .i64 (N : Int)) := hv ⟨1, .data⟩ (by simp) rfl
                have d2 : fr0.tmps[(48 : Nat)]? = some (.int .i64 (i : Int)) := hv ⟨2, .data⟩ (by simp) rfl
                have d3 : fr0.tmps[(49 : Nat)]? = some (.int .i64 (j : Int)) := hv ⟨3, .data⟩ (by simp) rfl
                clear hv hx
                refine wpOp_step rfl (fun K hK => ?_)
                go_simp
                go_at_call 42
                refine (HIX.out _).mono ?_
                rintro e w2 ⟨rfl, rfl⟩
                exact hK _ _ ⟨rfl, HJ.out⟩
              · obtain rfl := Option.some.inj ho.symm
                clear ho
                have x4 : fr0.tmps[(4 : Nat)]? = some (.pointer (some ⟨X, 0, none⟩)) := hx 4 (by decide)
                clear hv hx
                refine wpOp_step rfl (fun K hK => ?_)
                go_simp
                exact hK _ _ ⟨rfl, HJ.out⟩
              · obtain rfl := Option.some.inj ho.symm
                clear ho
                have d5 : fr0.tmps[(51 : Nat)]? = some (.pointer (some ⟨X, 0, none⟩)) := hv ⟨5, .data⟩ (by simp) rfl
                clear hv hx
                refine wpOp_step rfl (fun K hK => ?_)
                go_simp
                exact hK _ _ ⟨rfl, HJ.out⟩
              · obtain rfl := Option.some.inj ho.symm
                clear ho
                have x2 : fr0.tmps[(2 : Nat)]? = some (.int .i64 (j : Int)) := hx 2 (by decide)
                clear hv hx
                refine wpOp_step rfl (fun K hK => ?_)
                go_simp
                exact hK _ _ ⟨rfl, HJ.out⟩
              · obtain rfl := Option.some.inj ho.symm
                clear ho
                have d7 : fr0.tmps[(53 : Nat)]? = some (.int .i64 (j : Int)) := hv ⟨7, .data⟩ (by simp) rfl
                clear hv hx
                refine wpOp_step rfl (fun K hK => ?_)
                go_simp
                go_at_call 46
                refine (HAJ.out _).mono ?_
                rintro e w2 ⟨rfl, rfl⟩
                exact hK _ _ ⟨rfl, HJ.out⟩
              · obtain rfl := Option.some.inj ho.symm
                clear ho
                have x1 : fr0.tmps[(1 : Nat)]? = some (.int .i64 (i : Int)) := hx 1 (by decide)
                clear hv hx
                refine wpOp_step rfl (fun K hK => ?_)
                go_simp
                exact hK _ _ ⟨rfl, HJ.out⟩
              · obtain rfl := Option.some.inj ho.symm
                clear ho
                have d9 : fr0.tmps[(55 : Nat)]? = some (.int .i64 (i : Int)) := hv ⟨9, .data⟩ (by simp) rfl
                clear hv hx
                refine wpOp_step rfl (fun K hK => ?_)
                go_simp
                go_at_call 46
                refine (HAI.out _).mono ?_
                rintro e w2 ⟨rfl, rfl⟩
                exact hK _ _ ⟨rfl, HJ.out⟩
              · obtain rfl := Option.some.inj ho.symm
                clear ho
                have d6 : fr0.tmps[(52 : Nat)]? = some (.int .i64 (N : Int)) := hv ⟨6, .data⟩ (by simp) rfl
                have d8 : fr0.tmps[(54 : Nat)]? = some (.int .i64 (J : Int)) := hv ⟨8, .data⟩ (by simp) rfl
                have d10 : fr0.tmps[(56 : Nat)]? = some (.int .i64 (I : Int)) := hv ⟨10, .data⟩ (by simp) rfl
                clear hv hx
                refine wpOp_step rfl (fun K hK => ?_)
                go_simp
                go_at_call 42
                refine (HIX2.out _).mono ?_
                rintro e w2 ⟨rfl, rfl⟩
                exact hK _ _ ⟨rfl, HJ.out⟩
              · obtain rfl := Option.some.inj ho.symm
                clear ho
                have d4 : fr0.tmps[(50 : Nat)]? = some (.int .i64 (T : Int)) := hv ⟨4, .data⟩ (by simp) rfl
                clear hv hx
                refine wpOp_step rfl (fun K hK => ?_)
                go_simp
                exact hK _ _ ⟨rfl, HJ.out⟩
              · obtain rfl := Option.some.inj ho.symm
                clear ho
                have d11 : fr0.tmps[(57 : Nat)]? = some (.int .i64 (R : Int)) := hv ⟨11, .data⟩ (by simp) rfl
                clear hv hx
                refine wpOp_step rfl (fun K hK => ?_)
                go_simp
                exact hK _ _ ⟨rfl, HJ.out⟩
            case he =>
              intro w' hJ
              simp only [putF, valsAt, Nat.reduceAdd, Nat.zero_add, List.getD_cons_zero, List.getD_cons_succ, Act.put, List.setIfInBounds_toArray, List.set_cons_succ, List.set_cons_zero]
              rw [hJ]
              clear hJ
              have ho4 : MOwn (X + 2) w4.drew m (some ⟨g, 0, none⟩) c' := HO.out
              obtain ⟨g1, e1, -, -, cT, fT⟩ := ho4.at (i := T) HTL.out.1
              cases e1
              rw [HV.out.1] at cT
              go_upto_region 12 with (go_at_call 47; ((with_reducible refine (HLE.out _).mono ?_); rintro e w5 ⟨rfl, rfl⟩))
              have ho5 : MOwn (X + 2) (w4.setCell ⟨g, T, none⟩ (.int .i64 V)).drew (m.set T V) (some ⟨g, 0, none⟩) c' := HO.out.set T V
              obtain ⟨W5, hW5⟩ : ∃ W, (w4.setCell ⟨g, T, none⟩ (.int .i64 V)).drew = W := ⟨_, rfl⟩
              have hbx5 : Blk W5 X #[.int .i64 N, .bool false, .slice (some ⟨b, ob, none⟩) L c] 24 := by rw [← hW5]; exact (HXY.out.1.other (a := ⟨g, T, none⟩) (by have := HG.out; simp; omega) (.int .i64 V)).drew
              have hby5 : Blk W5 (X + 1) #[.int .i64 0, .bool false, .slice none 0 0] 24 := by rw [← hW5]; exact (HXY.out.2.1.other (a := ⟨g, T, none⟩) (by have := HG.out; simp; omega) (.int .i64 V)).drew
              have hbb5 : Below X w W5 := by rw [← hW5]; exact (HXY.out.2.2.setCell (p := ⟨g, T, none⟩) (by have := HG.out; simp; omega) (.int .i64 V)).drew
              rw [hW5] at ho5 ⊢
              obtain ⟨g2, e2, -, -, cT5, -⟩ := ho5.at (i := T) (by rw [List.length_set]; exact HTL.out.1)
              cases e2
              rw [show (m.set T V).getD T 0 = V by rw [List.getD_eq_getElem?_getD, List.getElem?_set_self HTL.out.1]; rfl] at cT5
              obtain ⟨g3, e3, -, -, cR5, fR5⟩ := ho5.at (i := R) (by rw [List.length_set]; exact HTL.out.2)
              cases e3
              have HO5 := Lib.hid (And.intro ho5 (And.intro hbx5 (And.intro hby5 hbb5)))
              clear hW5 ho4 cT fT ho5 hbx5 hby5 hbb5
              go_upto_region 13 with fail
              have ho6 := HO5.out.1.set R V
              obtain ⟨W6, hW6⟩ : ∃ W, W5.setCell ⟨g, R, none⟩ (.int .i64 V) = W := ⟨_, rfl⟩
              have hbx6 : Blk W6 X #[.int .i64 N, .bool false, .slice (some ⟨b, ob, none⟩) L c] 24 := by rw [← hW6]; exact HO5.out.2.1.other (by have := HG.out; simp; omega) _
              have hby6 : Blk W6 (X + 1) #[.int .i64 0, .bool false, .slice none 0 0] 24 := by rw [← hW6]; exact HO5.out.2.2.1.other (by have := HG.out; simp; omega) _
              have hbb6 : Below X w W6 := by rw [← hW6]; exact HO5.out.2.2.2.setCell (by have := HG.out; simp; omega) _
              rw [hW6] at ho6 ⊢
              have z0 := hbx6.cell 0
              have z1 := hby6.cell 0
              have z2 := hby6.cell 1
              have z3 := hby6.cell 2
              have z4 := hby6.free 0
              have z5 := hby6.free 1
              have z6 := hby6.free 2
              have HO6 := Lib.hid (And.intro ho6 (And.intro hby6 hbb6))
              clear hW6 ho6 hbx6 hby6 hbb6 cT5 cR5 fR5
              go_wp2_with fail
              refine bodyPost_ret (results_row_tmp rfl _ _ (X + 1) _ #[.int .i64 N, .bool false, .slice (some ⟨g, 0, none⟩) L c'] _ _ rfl (set3_blk HO6.out.2.1) rfl rfl (by kernel_rfl)) rfl ?_
              refine ⟨some ⟨g, 0, none⟩, c', ?_, ?_, ?_⟩
              · show _ = Ending.returned (.tuple #[.agg #[.int .i64 N, .bool false, .slice (some ⟨g, 0, none⟩) (withM (2 * N) m i j q).length c'], .int .i64 0])
                rw [HV.out.2, List.length_set, List.length_set, HL.out]; rfl
              · show MOwn _ _ (withM (2 * N) m i j q) _ _
                rw [HV.out.2, HW.out.1]
                exact (HO6.out.1.set3 (by omega)).lower (by omega)
              · rw [HW.out.1]
                exact set3_below HO6.out.2.2 (by omega)
          | false =>
            clear hij k1
            go_enter Try.func22, Try.ntmps22
            go_upto_region 1 with fail
            simp only [HW.out.1]
            rw [HW.out.2]
            go_upto_region 9 with (first | (go_at_call 10; ((with_reducible refine HC.out.mono ?_); rintro e w2 ⟨rfl, hb2⟩; have HK2 := Lib.hid (HKP.out _ hb2); have y0 := HK2.out.1.cell 0; have y1 := HK2.out.1.cell 1; have y2 := HK2.out.1.cell 2)) | (go_at_call 43; ((with_reducible refine (cw _).mono ?_); rintro e w2 ⟨rfl, rfl⟩)))
            have HSZ := Lib.hid (show X + 2 ≤ w2.heap.size by have := hb2.size; have := HB.out.2; omega)
            go_upto_region 10 with (first | (go_at_call 45; ((with_reducible refine (HCL.out _ HK2.out.2.2.1).mono ?_); rintro e w4 ⟨g, c', rfl, hg, hown, hb4⟩)) | fail)
            have HG := Lib.hid (show X + 2 ≤ g by have := HSZ.out; omega)
            have HO := Lib.hid (hown.lower HSZ.out)
            have HXY := Lib.hid (And.intro (HK2.out.1.below hb4 HK2.out.1.lt) (And.intro (HK2.out.2.1.below hb4 HK2.out.2.1.lt) (HK2.out.2.2.2.trans (hb4.mono (by have := HSZ.out; omega)))))
            have HX := Lib.hid (And.intro (HXY.out.1.cell 0) True.intro)
            clear y0 y1 y2 x0 x1 x2 cw HC HK2 hb2 hb4 hown hg HKP HCL HE
            refine wp_region_any (by kernel_rfl) ?_
            refine wpAny_vals [46, 47, 48, 49, 50, 51, 52, 53, 54, 55, 56, 57, 12, 13] [.pointer (some ⟨X, 0, none⟩), .int .i64 (N : Int), .int .i64 (i : Int), .int .i64 (j : Int), .int .i64 (T : Int), .pointer (some ⟨X, 0, none⟩), .int .i64 (N : Int), .int .i64 (j : Int), .int .i64 (J : Int), .int .i64 (i : Int), .int .i64 (I : Int), .int .i64 (R : Int), .int .i64 (T : Int), .int .i64 (R : Int)] (fun w' => w' = w4.drew) rfl (by kernel_rfl) (by decide) (by kernel_rfl) ?hs ?he ?hj
            case hj => exact rfl
            case hs =>
              intro i o ho fr0 hv hx w' hJ
              have hi : i < 14 := (Array.getElem?_eq_some_iff.1 ho).1
              have c0 : w'.cell? ⟨X, 0, none⟩ = some (.int .i64 N) := by rw [hJ]; exact HX.out.1
              have HJ := Lib.hid hJ
              clear hJ
              have hcase : i = 0 ∨ i = 1 ∨ i = 2 ∨ i = 3 ∨ i = 4 ∨ i = 5 ∨ i = 6 ∨ i = 7 ∨ i = 8 ∨ i = 9 ∨ i = 10 ∨ i = 11 ∨ i = 12 ∨ i = 13 := by omega
              clear hi
              rcases hcase with rfl | rfl | rfl | rfl | rfl | rfl | rfl | rfl | rfl | rfl | rfl | rfl | rfl | rfl
              · obtain rfl := Option.some.inj ho.symm
                clear ho
                have x4 : fr0.tmps[(4 : Nat)]? = some (.pointer (some ⟨X, 0, none⟩)) := hx 4 (by decide)
                clear hv hx
                refine wpOp_step rfl (fun K hK => ?_)
                go_simp
                exact hK _ _ ⟨rfl, HJ.out⟩
              · obtain rfl := Option.some.inj ho.symm
                clear ho
                have d0 : fr0.tmps[(46 : Nat)]? = some (.pointer (some ⟨X, 0, none⟩)) := hv ⟨0, .data⟩ (by simp) rfl
                clear hv hx
                refine wpOp_step rfl (fun K hK => ?_)
                go_simp
                exact hK _ _ ⟨rfl, HJ.out⟩
              · obtain rfl := Option.some.inj ho.symm
                clear ho
                have x1 : fr0.tmps[(1 : Nat)]? = some (.int .i64 (i : Int)) := hx 1 (by decide)
                clear hv hx
                refine wpOp_step rfl (fun K hK => ?_)
                go_simp
                exact hK _ _ ⟨rfl, HJ.out⟩
              · obtain rfl := Option.some.inj ho.symm
                clear ho
                have x2 : fr0.tmps[(2 : Nat)]? = some (.int .i64 (j : Int)) := hx 2 (by decide)
                clear hv hx
                refine wpOp_step rfl (fun K hK => ?_)
                go_simp
                exact hK _ _ ⟨rfl, HJ.out⟩
              · obtain rfl := Option.some.inj ho.symm
                clear ho
                have d1 : fr0.tmps[(47 : Nat)]? = some (.int .i64 (N : Int)) := hv ⟨1, .data⟩ (by simp) rfl
                have d2 : fr0.tmps[(48 : Nat)]? = some (.int .i64 (i : Int)) := hv ⟨2, .data⟩ (by simp) rfl
                have d3 : fr0.tmps[(49 : Nat)]? = some (.int .i64 (j : Int)) := hv ⟨3, .data⟩ (by simp) rfl
                clear hv hx
                refine wpOp_step rfl (fun K hK => ?_)
                go_simp
                go_at_call 42
                refine (HIX.out _).mono ?_
                rintro e w2 ⟨rfl, rfl⟩
                exact hK _ _ ⟨rfl, HJ.out⟩
              · obtain rfl := Option.some.inj ho.symm
                clear ho
                have x4 : fr0.tmps[(4 : Nat)]? = some (.pointer (some ⟨X, 0, none⟩)) := hx 4 (by decide)
                clear hv hx
                refine wpOp_step rfl (fun K hK => ?_)
                go_simp
                exact hK _ _ ⟨rfl, HJ.out⟩
              · obtain rfl := Option.some.inj ho.symm
                clear ho
                have d5 : fr0.tmps[(51 : Nat)]? = some (.pointer (some ⟨X, 0, none⟩)) := hv ⟨5, .data⟩ (by simp) rfl
                clear hv hx
                refine wpOp_step rfl (fun K hK => ?_)
                go_simp
                exact hK _ _ ⟨rfl, HJ.out⟩
              · obtain rfl := Option.some.inj ho.symm
                clear ho
                have x2 : fr0.tmps[(2 : Nat)]? = some (.int .i64 (j : Int)) := hx 2 (by decide)
                clear hv hx
                refine wpOp_step rfl (fun K hK => ?_)
                go_simp
                exact hK _ _ ⟨rfl, HJ.out⟩
              · obtain rfl := Option.some.inj ho.symm
                clear ho
                have d7 : fr0.tmps[(53 : Nat)]? = some (.int .i64 (j : Int)) := hv ⟨7, .data⟩ (by simp) rfl
                clear hv hx
                refine wpOp_step rfl (fun K hK => ?_)
                go_simp
                go_at_call 46
                refine (HAJ.out _).mono ?_
                rintro e w2 ⟨rfl, rfl⟩
                exact hK _ _ ⟨rfl, HJ.out⟩
              · obtain rfl := Option.some.inj ho.symm
                clear ho
                have x1 : fr0.tmps[(1 : Nat)]? = some (.int .i64 (i : Int)) := hx 1 (by decide)
                clear hv hx
                refine wpOp_step rfl (fun K hK => ?_)
                go_simp
                exact hK _ _ ⟨rfl, HJ.out⟩
              · obtain rfl := Option.some.inj ho.symm
                clear ho
                have d9 : fr0.tmps[(55 : Nat)]? = some (.int .i64 (i : Int)) := hv ⟨9, .data⟩ (by simp) rfl
                clear hv hx
                refine wpOp_step rfl (fun K hK => ?_)
                go_simp
                go_at_call 46
                refine (HAI.out _).mono ?_
                rintro e w2 ⟨rfl, rfl⟩
                exact hK _ _ ⟨rfl, HJ.out⟩
              · obtain rfl := Option.some.inj ho.symm
                clear ho
                have d6 : fr0.tmps[(52 : Nat)]? = some (.int .i64 (N : Int)) := hv ⟨6, .data⟩ (by simp) rfl
                have d8 : fr0.tmps[(54 : Nat)]? = some (.int .i64 (J : Int)) := hv ⟨8, .data⟩ (by simp) rfl
                have d10 : fr0.tmps[(56 : Nat)]? = some (.int .i64 (I : Int)) := hv ⟨10, .data⟩ (by simp) rfl
                clear hv hx
                refine wpOp_step rfl (fun K hK => ?_)
                go_simp
                go_at_call 42
                refine (HIX2.out _).mono ?_
                rintro e w2 ⟨rfl, rfl⟩
                exact hK _ _ ⟨rfl, HJ.out⟩
              · obtain rfl := Option.some.inj ho.symm
                clear ho
                have d4 : fr0.tmps[(50 : Nat)]? = some (.int .i64 (T : Int)) := hv ⟨4, .data⟩ (by simp) rfl
                clear hv hx
                refine wpOp_step rfl (fun K hK => ?_)
                go_simp
                exact hK _ _ ⟨rfl, HJ.out⟩
              · obtain rfl := Option.some.inj ho.symm
                clear ho
                have d11 : fr0.tmps[(57 : Nat)]? = some (.int .i64 (R : Int)) := hv ⟨11, .data⟩ (by simp) rfl
                clear hv hx
                refine wpOp_step rfl (fun K hK => ?_)
                go_simp
                exact hK _ _ ⟨rfl, HJ.out⟩
            case he =>
              intro w' hJ
              simp only [putF, valsAt, Nat.reduceAdd, Nat.zero_add, List.getD_cons_zero, List.getD_cons_succ, Act.put, List.setIfInBounds_toArray, List.set_cons_succ, List.set_cons_zero]
              rw [hJ]
              clear hJ
              have ho4 : MOwn (X + 2) w4.drew m (some ⟨g, 0, none⟩) c' := HO.out
              obtain ⟨g1, e1, -, -, cT, fT⟩ := ho4.at (i := T) HTL.out.1
              cases e1
              rw [HV.out.1] at cT
              go_upto_region 12 with (go_at_call 47; ((with_reducible refine (HLE.out _).mono ?_); rintro e w5 ⟨rfl, rfl⟩))
              have ho5 : MOwn (X + 2) (w4.setCell ⟨g, T, none⟩ (.int .i64 V)).drew (m.set T V) (some ⟨g, 0, none⟩) c' := HO.out.set T V
              obtain ⟨W5, hW5⟩ : ∃ W, (w4.setCell ⟨g, T, none⟩ (.int .i64 V)).drew = W := ⟨_, rfl⟩
              have hbx5 : Blk W5 X #[.int .i64 N, .bool false, .slice (some ⟨b, ob, none⟩) L c] 24 := by rw [← hW5]; exact (HXY.out.1.other (a := ⟨g, T, none⟩) (by have := HG.out; simp; omega) (.int .i64 V)).drew
              have hby5 : Blk W5 (X + 1) #[.int .i64 0, .bool false, .slice none 0 0] 24 := by rw [← hW5]; exact (HXY.out.2.1.other (a := ⟨g, T, none⟩) (by have := HG.out; simp; omega) (.int .i64 V)).drew
              have hbb5 : Below X w W5 := by rw [← hW5]; exact (HXY.out.2.2.setCell (p := ⟨g, T, none⟩) (by have := HG.out; simp; omega) (.int .i64 V)).drew
              rw [hW5] at ho5 ⊢
              obtain ⟨g2, e2, -, -, cT5, -⟩ := ho5.at (i := T) (by rw [List.length_set]; exact HTL.out.1)
              cases e2
              rw [show (m.set T V).getD T 0 = V by rw [List.getD_eq_getElem?_getD, List.getElem?_set_self HTL.out.1]; rfl] at cT5
              obtain ⟨g3, e3, -, -, cR5, fR5⟩ := ho5.at (i := R) (by rw [List.length_set]; exact HTL.out.2)
              cases e3
              have HO5 := Lib.hid (And.intro ho5 (And.intro hbx5 (And.intro hby5 hbb5)))
              clear hW5 ho4 cT fT ho5 hbx5 hby5 hbb5
              go_upto_region 13 with fail
              have ho6 := HO5.out.1.set R V
              obtain ⟨W6, hW6⟩ : ∃ W, W5.setCell ⟨g, R, none⟩ (.int .i64 V) = W := ⟨_, rfl⟩
              have hbx6 : Blk W6 X #[.int .i64 N, .bool false, .slice (some ⟨b, ob, none⟩) L c] 24 := by rw [← hW6]; exact HO5.out.2.1.other (by have := HG.out; simp; omega) _
              have hby6 : Blk W6 (X + 1) #[.int .i64 0, .bool false, .slice none 0 0] 24 := by rw [← hW6]; exact HO5.out.2.2.1.other (by have := HG.out; simp; omega) _
              have hbb6 : Below X w W6 := by rw [← hW6]; exact HO5.out.2.2.2.setCell (by have := HG.out; simp; omega) _
              rw [hW6] at ho6 ⊢
              have z0 := hbx6.cell 0
              have z1 := hby6.cell 0
              have z2 := hby6.cell 1
              have z3 := hby6.cell 2
              have z4 := hby6.free 0
              have z5 := hby6.free 1
              have z6 := hby6.free 2
              have HO6 := Lib.hid (And.intro ho6 (And.intro hby6 hbb6))
              clear hW6 ho6 hbx6 hby6 hbb6 cT5 cR5 fR5
              go_wp2_with fail
              refine bodyPost_ret (results_row_tmp rfl _ _ (X + 1) _ #[.int .i64 N, .bool false, .slice (some ⟨g, 0, none⟩) L c'] _ _ rfl (set3_blk HO6.out.2.1) rfl rfl (by kernel_rfl)) rfl ?_
              refine ⟨some ⟨g, 0, none⟩, c', ?_, ?_, ?_⟩
              · show _ = Ending.returned (.tuple #[.agg #[.int .i64 N, .bool false, .slice (some ⟨g, 0, none⟩) (withM (2 * N) m i j q).length c'], .int .i64 0])
                rw [HV.out.2, List.length_set, List.length_set, HL.out]; rfl
              · show MOwn _ _ (withM (2 * N) m i j q) _ _
                rw [HV.out.2, HW.out.1]
                exact (HO6.out.1.set3 (by omega)).lower (by omega)
              · rw [HW.out.1]
                exact set3_below HO6.out.2.2 (by omega)
  · have e : withO ⟨n, em, m⟩ i j q = (zeroOc, F) := by unfold withO; rw [if_pos (by rw [hF]; exact h0), hF]
    have k0 : (F != 0) = true := by simpa using h0
    rw [e]
    rw [hF] at HC
    rw [hL] at x2 HW HC HKP ⊢
    clear hW1 hX hm1 hx1 hy1 hb1 hm hF h0 e hs1
    go_enter Try.func22, Try.ntmps22
    go_upto_region 1 with fail
    simp only [HW.out.1]
    rw [HW.out.2]
    go_upto_region 3 with (go_at_call 10; ((with_reducible refine HC.out.mono ?_); rintro e w2 ⟨rfl, hb2⟩; have HK2 := Lib.hid (HKP.out _ hb2)))
    have z1 := HK2.out.2.1.cell 0
    have z2 := HK2.out.2.1.cell 1
    have z3 := HK2.out.2.1.cell 2
    have z4 := HK2.out.2.1.free 0
    have z5 := HK2.out.2.1.free 1
    have z6 := HK2.out.2.1.free 2
    go_wp2_with fail
    refine bodyPost_ret (results_row_tmp rfl _ _ (X + 1) _ #[.int .i64 0, .bool false, .slice none 0 0] _ _ rfl (set3_blk HK2.out.2.1) rfl rfl (by kernel_rfl)) rfl ?_
    exact ⟨none, 0, rfl, mown_nil _ _, by rw [HW.out.1]; exact set3_below HK2.out.2.2.2 (by omega)⟩
end Go.Proofs.Ythnefcafhpioaaa
