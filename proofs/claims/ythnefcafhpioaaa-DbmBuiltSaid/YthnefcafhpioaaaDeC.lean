/-
  Package dbm: Points.
-/
import Derived.Test.YthnefcafhpioaaaDeB
import Derived.Test.YthnefcafhpioaaaDcC
namespace Go.Proofs.Ythnefcafhpioaaa
open Go Go.RowKit Go.Shelf
attribute [local go_sem] Oper.semAt_some
set_option maxRecDepth 100000 in
set_option maxHeartbeats 8000000 in
theorem points_any (n : Int) (l : List (List Int)) (a : Option Addr) (c : Nat) (w : World) (hl : RsAt w l a) (hll : l.length ≤ maxLen) (hli : ∀ r ∈ l, ∀ v ∈ r, isI v) :
    Calls Try.prog 27 #[.int .i64 n, .slice a l.length c] w (OctTo w (ptsO n l).1 (ptsO n l).2) := by
  obtain ⟨X, hX⟩ : ∃ X, w.heap.size = X := ⟨_, rfl⟩
  obtain ⟨W1, hW1⟩ : ∃ W, (w.alloc (.cells #[.int .i64 n] 3)).alloc (.cells #[.int .i64 0, .bool false, .slice none 0 0] 24) = W := ⟨_, rfl⟩
  have hx1 : Blk W1 X #[.int .i64 n] 3 := by rw [← hW1, ← hX]; exact (Blk.new w _ _).alloc _
  have hr1 : Blk W1 (X + 1) #[.int .i64 0, .bool false, .slice none 0 0] 24 := by
    have h := Blk.new (w.alloc (.cells #[.int .i64 n] 3)) #[.int .i64 0, .bool false, .slice none 0 0] 24
    rw [World.size_alloc, hX] at h
    rw [← hW1]; exact h
  have hb1 : Below X w W1 := by rw [← hW1, ← hX]; exact ((Below.refl _ w).alloc (Nat.le_refl _) _).alloc (by simp) _
  have hs1 : W1.heap.size = X + 2 := by rw [← hW1, ← hX]; simp
  have hl1 : RsAt W1 l a := hl.next (by rw [hX]; exact hb1)
  have HC : Hid (Calls Try.prog 54 #[.slice a l.length c, .func (.func 53) #[] #[.pointer (some ⟨X, 0, none⟩)]] W1 fun e w' => e = .returned (.bool (unl n l)) ∧ Below W1.heap.size W1 w') := Lib.hid (contains_any X n l a c W1 (hx1.cell 0) hl1 hll)
  have HNU := Lib.hid (fun w => numbered_any n w)
  have HW := Lib.hid (And.intro hX hW1)
  have HKP : Hid (∀ ww : World, Below W1.heap.size W1 ww → Blk ww X #[.int .i64 n] 3 ∧ Blk ww (X + 1) #[.int .i64 0, .bool false, .slice none 0 0] 24 ∧ RsAt ww l a ∧ Below X w ww ∧ X + 2 ≤ ww.heap.size) := Lib.hid fun ww hb => ⟨hx1.below hb hx1.lt, hr1.below hb hr1.lt, hl1.next hb, hb1.trans (hb.mono (by omega)), by rw [← hs1]; exact hb.size⟩
  have x0 := hx1.cell 0
  have r0 := hr1.cell 0
  have r1 := hr1.cell 1
  have r2 := hr1.cell 2
  have r3 := hr1.free 0
  have r4 := hr1.free 1
  have r5 := hr1.free 2
  cases hnb : numB n with
  | false =>
    have e : ptsO n l = (zeroOc, 120) := by unfold ptsO; rw [if_pos (.inl hnb)]
    rw [e]
    rw [hnb] at HNU
    have HB := Lib.hid (And.intro hr1 hb1)
    obtain ⟨LL, hLL⟩ : ∃ L, l.length = L := ⟨_, rfl⟩
    rw [hLL]
    clear hW1 hX hx1 hr1 hb1 hs1 hl1 hl hll hli hnb HC HKP e hLL
    refine calls_of_wp_marks Try.func27 rfl ?_
    simp only [Try.ntmps27, List.size_toArray, List.length_cons, List.length_nil, Nat.reduceAdd, Nat.reduceSub, Array.replicate_succ, Array.replicate_zero, List.push_toArray, List.append_toArray, List.nil_append, List.cons_append]
    go_upto_region 1 with fail
    simp only [HW.out.1]
    rw [HW.out.2]
    go_wp2_with (first | (go_at_call 33; (with_reducible refine (HNU.out _).mono ?_); rintro e W1 ⟨rfl, rfl⟩) | fail)
    refine ⟨_, results_row_tmp rfl _ _ (X + 1) _ #[.int .i64 0, .bool false, .slice none 0 0] _ _ rfl (set3_blk HB.out.1) rfl rfl (by kernel_rfl), ?_⟩
    exact ⟨none, 0, rfl, mown_nil _ _, by rw [HW.out.1]; exact set3_below HB.out.2 (by omega)⟩
  | true =>
    rw [hnb] at HNU
    obtain ⟨h0, h64⟩ := numB_true hnb
    obtain ⟨N, rfl⟩ : ∃ N : Nat, n = (N : Int) := ⟨n.toNat, by omega⟩
    have hN : N ≤ 64 := by omega
    cases hu : unl (N : Int) l with
    | true =>
      have e : ptsO N l = (zeroOc, 120) := by unfold ptsO; rw [if_pos (.inr hu)]
      rw [e]
      rw [hu] at HC
      obtain ⟨LL, hLL⟩ : ∃ L, l.length = L := ⟨_, rfl⟩
      rw [hLL] at HC ⊢
      clear hW1 hX hx1 hr1 hb1 hs1 hl1 hl hll hli hnb e hLL hu
      refine calls_of_wp_marks Try.func27 rfl ?_
      simp only [Try.ntmps27, List.size_toArray, List.length_cons, List.length_nil, Nat.reduceAdd, Nat.reduceSub, Array.replicate_succ, Array.replicate_zero, List.push_toArray, List.append_toArray, List.nil_append, List.cons_append]
      go_upto_region 1 with fail
      simp only [HW.out.1]
      rw [HW.out.2]
      go_upto_region 4 with (first | (go_at_call 33; (with_reducible refine (HNU.out _).mono ?_); rintro e W1 ⟨rfl, rfl⟩) | (go_at_call 54; (with_reducible refine HC.out.mono ?_); rintro e w2 ⟨rfl, hb2⟩; have HK2 := Lib.hid (HKP.out _ hb2)) | fail)
      have z0 := HK2.out.2.1.cell 0
      have z1 := HK2.out.2.1.cell 1
      have z2 := HK2.out.2.1.cell 2
      have z3 := HK2.out.2.1.free 0
      have z4 := HK2.out.2.1.free 1
      have z5 := HK2.out.2.1.free 2
      go_wp2_with fail
      refine ⟨_, results_row_tmp rfl _ _ (X + 1) _ #[.int .i64 0, .bool false, .slice none 0 0] _ _ rfl (set3_blk HK2.out.2.1) rfl rfl (by kernel_rfl), ?_⟩
      exact ⟨none, 0, rfl, mown_nil _ _, by rw [HW.out.1]; exact set3_below HK2.out.2.2.2.1 (by omega)⟩
    | false =>
      rw [hu] at HC
      by_cases h00 : l.length = 0
      · have e : ptsO N l = (emptyOc N, 0) := by unfold ptsO; rw [if_neg (by simp [hnb, hu]), if_pos h00]
        rw [e]
        have HE : Hid (∀ w : World, Calls Try.prog 15 #[.int .i64 N] w fun e w' => e = .returned (.tuple #[.agg #[.int .i64 N, .bool true, .slice none 0 0], .int .i64 0]) ∧ Below w.heap.size w w') := Lib.hid fun w => by have h := empty_any (N : Int) w; rw [if_pos (numB_of hN)] at h; exact h
        rw [h00] at HC ⊢
        clear hW1 hX hx1 hr1 hb1 hs1 hl1 hl hll hli hnb e hu h00
        refine calls_of_wp_marks Try.func27 rfl ?_
        simp only [Try.ntmps27, List.size_toArray, List.length_cons, List.length_nil, Nat.reduceAdd, Nat.reduceSub, Array.replicate_succ, Array.replicate_zero, List.push_toArray, List.append_toArray, List.nil_append, List.cons_append]
        go_upto_region 1 with fail
        simp only [HW.out.1]
        rw [HW.out.2]
        go_upto_region 5 with (first | (go_at_call 33; (with_reducible refine (HNU.out _).mono ?_); rintro e W1 ⟨rfl, rfl⟩) | (go_at_call 54; (with_reducible refine HC.out.mono ?_); rintro e w2 ⟨rfl, hb2⟩; have HK2 := Lib.hid (HKP.out _ hb2)) | fail)
        have HSZ := Lib.hid (show X + 2 ≤ w2.heap.size from HK2.out.2.2.2.2)
        have y0 := HK2.out.1.cell 0
        go_wp2_with (first | (go_at_call 15; ((with_reducible refine (HE.out _).mono ?_); rintro e w5 ⟨rfl, hb5⟩; have HK5 := Lib.hid (HK2.out.2.1.below hb5 HK2.out.2.1.lt); have z1 := HK5.out.cell 0; have z2 := HK5.out.cell 1; have z3 := HK5.out.cell 2; have z4 := HK5.out.free 0; have z5 := HK5.out.free 1; have z6 := HK5.out.free 2)) | fail)
        refine ⟨_, results_row_tmp rfl _ _ (X + 1) _ #[.int .i64 N, .bool true, .slice none 0 0] _ _ rfl (set3_blk HK5.out) rfl rfl (by kernel_rfl), ?_⟩
        exact ⟨none, 0, rfl, mown_nil _ _, by rw [HW.out.1]; exact set3_below (HK2.out.2.2.2.1.trans (hb5.mono (by have := HSZ.out; omega))) (by omega)⟩
      · have e : ptsO N l = (⟨N, false, ptsM (2 * N) l⟩, 0) := by unfold ptsO; rw [if_neg (by simp [hnb, hu]), if_neg h00]; rfl
        rw [e]
        have cc := Lib.hid (fun w => cells_any N hN w)
        obtain ⟨S, hS⟩ : ∃ S, 4 * (N * N) = S := ⟨_, rfl⟩
        have hS2 : 2 * N * (2 * N) = S := by rw [← hS, ← sq4]
        rw [hS] at cc
        have hSS : S ≤ 16384 := by rw [← hS2]; exact Nat.mul_le_mul (show 2 * N ≤ 128 by omega) (show 2 * N ≤ 128 by omega)
        have HRE := Lib.hid (fun (b : Nat) (w : World) (h1 : w.cell? ⟨b, 0, none⟩ = some (.int .i64 (-4611686018427387904))) (h2 : b < w.heap.size) => repeat_any (-4611686018427387904) S b hSS w h1 h2)
        have HZ := Lib.hid (And.intro hN (And.intro hu (And.intro hli (And.intro hS2 hSS))))
        obtain ⟨LL, hLL⟩ : ∃ L, l.length = L := ⟨_, rfl⟩
        have HLL := Lib.hid hLL
        have hLm : LL ≤ maxLen := by omega
        rw [hLL] at HC h00 ⊢
        have h01 : ((LL : Int) == 0) = false := by simp; omega
        clear hW1 hX hx1 hr1 hb1 hs1 hl1 hll hli hnb e hu h00 hLL hS hS2 hSS
        refine calls_of_wp_marks Try.func27 rfl ?_
        simp only [Try.ntmps27, List.size_toArray, List.length_cons, List.length_nil, Nat.reduceAdd, Nat.reduceSub, Array.replicate_succ, Array.replicate_zero, List.push_toArray, List.append_toArray, List.nil_append, List.cons_append]
        go_upto_region 1 with fail
        simp only [HW.out.1]
        rw [HW.out.2]
        go_upto_region 5 with (first | (go_at_call 33; (with_reducible refine (HNU.out _).mono ?_); rintro e W1 ⟨rfl, rfl⟩) | (go_at_call 54; (with_reducible refine HC.out.mono ?_); rintro e w2 ⟨rfl, hb2⟩; have HK2 := Lib.hid (HKP.out _ hb2)) | fail)
        have HSZ := Lib.hid (show X + 2 ≤ w2.heap.size from HK2.out.2.2.2.2)
        have y0 := HK2.out.1.cell 0
        go_upto_region 7 with fail
        have y1 : (w2.alloc (.cells #[.int .i64 (-4611686018427387904)] 2)).cell? ⟨X, 0, none⟩ = some (.int .i64 N) := (HK2.out.1.alloc (.cells #[.int .i64 (-4611686018427387904)] 2)).cell 0
        go_upto_region 8 with (first | (go_at_call 41; (with_reducible refine (cc.out _).mono ?_); rintro e w4 ⟨rfl, rfl⟩) | (go_at_call 40; (with_reducible refine (HRE.out _ _ (Blk.cell (Blk.new _ _ _) 0) (by simp)).mono ?_); rintro e w3 ⟨g, rfl, hg, hrow, hb3⟩) | fail)
        obtain ⟨Q2, hQ2⟩ : ∃ Y, w2.heap.size = Y := ⟨_, rfl⟩
        obtain ⟨Y, hY⟩ : ∃ Y, w3.heap.size = Y := ⟨_, rfl⟩
        obtain ⟨W4, hW4⟩ : ∃ W, w3.alloc (.cells #[.slice (some ⟨g, 0, none⟩) S S] 22) = W := ⟨_, rfl⟩
        have HJ0 : Hid (PtJ N S X Y g l w 0 [] W4 ∧ g < Y ∧ X + 2 ≤ g) := Lib.hid (by
          have hz : (w2.alloc (.cells #[.int .i64 (-4611686018427387904)] 2)).heap.size = Q2 + 1 := by rw [World.size_alloc, hQ2]
          rw [hz] at hb3 hg
          have hq : X + 2 ≤ Q2 := by rw [← hQ2]; exact HSZ.out
          have hq3 : Q2 + 1 ≤ Y := by rw [← hY]; have := hb3.size; omega
          have hb4 : Below Y w3 W4 := by rw [← hW4, ← hY]; exact (Below.refl _ w3).alloc (Nat.le_refl _) _
          have hgY : g < Y := by rw [← hY]; exact hrow.lt
          have ho3 : MOwn (X + 2) w3 (ptsM (2 * N) (l.take 0)) (some ⟨g, 0, none⟩) S := by
            have e : ptsM (2 * N) (l.take 0) = List.replicate S (-4611686018427387904) := by show List.replicate (2 * N * (2 * N)) _ = _; rw [HZ.out.2.2.2.1]
            rw [e]
            refine ⟨by simp, by unfold maxLen; have := HZ.out.2.2.2.2; omega, .inr ⟨g, _, rfl, by omega, hrow, fun i hi => ?_⟩⟩
            rw [List.getElem?_toArray, cvI_at _ i hi]
          refine ⟨⟨ho3.below hb4 hgY, ((HK2.out.1.alloc _).below hb3 (by omega)).below hb4 (by omega), ((HK2.out.2.1.alloc _).below hb3 (by omega)).below hb4 (by omega), by rw [← hW4, ← hY]; exact Blk.new _ _ _, ((HK2.out.2.2.2.1.alloc (by omega) _).trans (hb3.mono (by omega))).trans (hb4.mono (by omega)), List.nodup_nil, by simp⟩, hgY, by omega⟩)
        rw [hY, hW4]
        have HRS := Lib.hid hl
        clear hl hY hW4 hg hrow hb3 y0 y1 HK2 HSZ HRE cc HC HKP HNU hb2 x0 r0 r1 r2 r3 r4 r5
        have HLT := Lib.hid HJ0.out.2
        go_wp2_with fail
        refine wp_loop (fun a' w' => ∃ (k : Nat) (lD : List Nat) (u9 u10 u38 u39 u40 u41 u42 u43 u44 u63 : Value), PtJ N S X Y g l w k lD w' ∧ k ≤ LL ∧ a' = { tmps := #[.int .i64 N, .slice a LL c, .pointer (some ⟨X, 0, none⟩), undef, .pointer (some ⟨X + 1, 0, none⟩), .int .i64 0, .func (.func 53) #[] #[.pointer (some ⟨X, 0, none⟩)], .pointer (some ⟨Y, 0, none⟩), undef, u9, u10, undef, undef, undef, .func (.func 53) #[] #[.pointer (some ⟨X, 0, none⟩)], .bool false, .int .i64 N, .bool true, .bool false, .slice a LL c, .func (.func 53) #[] #[.pointer (some ⟨X, 0, none⟩)], .bool false, undef, .bool false, .slice a LL c, .int .i64 LL, .bool false, undef, undef, undef, undef, .slice (some ⟨Q2, 0, none⟩) 1 1, .int .i64 N, .int .i64 S, .slice (some ⟨g, 0, none⟩) S S, .slice a LL c, .int .i64 LL, .int .i64 k, u38, u39, u40, u41, u42, u43, u44, undef, undef, undef, undef, undef, undef, undef, undef, undef, undef, undef, undef, undef, undef, undef, undef, undef, undef, u63, undef, undef, undef], defers := marks lD }) (fun a' _ => LL - (intOf (a'.tmps.getD 37 undef)).toNat) ?start ?round
        case start => exact ⟨0, [], _, _, _, _, _, _, _, _, _, _, HJ0.out.1, by omega, by rw [hQ2]; rfl⟩
        case round =>
          rintro a' wr ⟨k, lD, u9, u10, u38, u39, u40, u41, u42, u43, u44, u63, hJ, hk, rfl⟩
          clear HJ0 hQ2
          by_cases hlt : k < LL
          · obtain ⟨p, hp⟩ : ∃ p, l[k]? = some p := ⟨_, List.getElem?_eq_getElem (by rw [HLL.out]; exact hlt)⟩
            have hpm : p ∈ l := List.mem_of_getElem? hp
            have hpl : p.length = N := by
              have h1 := HZ.out.2.1
              unfold unl at h1
              have h2 := List.any_eq_false.1 h1 p hpm
              have h3 : (p.length : Int) = N := by simpa using h2
              omega
            have hpi := HZ.out.2.2.1 p hpm
            obtain ⟨b, o, ap, cp, rfl, hc, hmp⟩ := (HRS.out.next (by rw [HW.out.1]; exact hJ.low)).at hp
            rw [hpl] at hc
            have HS : Hid (∀ ww : World, MAt ww p ap → Calls Try.prog 50 #[.slice ap N cp] ww fun e w' => ∃ a' c', e = .returned (.slice a' (2 * N) c') ∧ WAt w' p a' ∧ Below ww.heap.size ww w') := Lib.hid fun ww h => by
              have h2 := sides_any p ap cp ww h (by omega) hpi
              rw [hpl] at h2
              exact h2
            have k1 : (k : Int) < (LL : Int) := by omega
            have HMP := Lib.hid hmp
            have HJ := Lib.hid hJ
            have HP := Lib.hid (And.intro hp (And.intro hpl hpi))
            clear hJ hp hpl hpi hmp hpm
            go_upto_region 11 with fail
            go_upto_region 12 with (first | (go_at_call 50; ((with_reducible refine (HS.out _ HMP.out).mono ?_); rintro e w3 ⟨av, cvv, rfl, hwa, hb3⟩)) | fail)
            obtain ⟨V, hV⟩ : ∃ V, w3.heap.size = V := ⟨_, rfl⟩
            obtain ⟨W5, hW5⟩ : ∃ W, w3.alloc (.cells #[.slice av (2 * N) cvv] 73) = W := ⟨_, rfl⟩
            have HV : Hid (Below wr.heap.size wr W5 ∧ W5.heap.size = V + 1 ∧ WAt W5 p av ∧ Blk W5 V #[.slice av (2 * N) cvv] 73) := Lib.hid (by
              have hb4 : Below w3.heap.size w3 W5 := by rw [← hW5]; exact (Below.refl _ w3).alloc (Nat.le_refl _) _
              exact ⟨hb3.trans (hb4.mono hb3.size), by rw [← hW5, World.size_alloc, hV], hwa.next hb4, by rw [← hW5, ← hV]; exact Blk.new _ _ _⟩)
            rw [hV, hW5]
            have u0 : W5.cell? ⟨X, 0, none⟩ = some (.int .i64 N) := (HJ.out.bx.below HV.out.1 HJ.out.bx.lt).cell 0
            clear hV hW5 hwa hb3 HS HMP hc
            go_wp2_with (go_at_call 51; ((with_reducible refine (places_any N _).mono ?_); rintro e w' ⟨rfl, rfl⟩))
            obtain ⟨W0, hW0⟩ : ∃ W0, W5.alloc (.cells #[.int .i64 N] 3) = W0 := ⟨_, rfl⟩
            have HQ : Hid (Below wr.heap.size wr W0 ∧ W0.heap.size = V + 2 ∧ WAt W0 p av ∧ Blk W0 V #[.slice av (2 * N) cvv] 73 ∧ Blk W0 (V + 1) #[.int .i64 N] 3) := Lib.hid (by
              have hb5 : Below W5.heap.size W5 W0 := by rw [← hW0]; exact (Below.refl _ W5).alloc (Nat.le_refl _) _
              have hs5 := HV.out.2.1
              exact ⟨HV.out.1.trans (hb5.mono HV.out.1.size), by rw [← hW0, World.size_alloc, hs5], HV.out.2.2.1.next hb5, HV.out.2.2.2.below hb5 HV.out.2.2.2.lt, by rw [← hW0, ← hs5]; exact Blk.new _ _ _⟩)
            rw [hW0]
            rw [HV.out.2.1]
            have HRW : Hid (wr.heap.size ≤ V + 2 ∧ g < V + 2 ∧ X + 2 ≤ V) := Lib.hid (by
              have h1 := HQ.out.1.size
              have h2 := HQ.out.2.1
              have h3 := HJ.out.bm.lt
              have h4 := HLT.out
              have h5 := HV.out.1.size
              have h6 := HV.out.2.1
              omega)
            have HO0 : Hid (MOwn (X + 2) W0 (ptsM (2 * N) (l.take k)) (some ⟨g, 0, none⟩) S ∧ Blk W0 X #[.int .i64 N] 3 ∧ Blk W0 Y #[.slice (some ⟨g, 0, none⟩) S S] 22 ∧ Below X w W0) := Lib.hid (by
              have hj := HJ.out
              have h3 := hj.bm.lt
              have h4 := HLT.out
              exact ⟨hj.own.below HQ.out.1 (by omega), hj.bx.below HQ.out.1 hj.bx.lt, hj.bm.below HQ.out.1 hj.bm.lt, hj.low.trans (HQ.out.1.mono (by omega))⟩)
            clear hW0 u0
            obtain ⟨m0, hm0⟩ : ∃ m, ptsM (2 * N) (l.take k) = m := ⟨_, rfl⟩
            have hm0l : m0.length = S := by rw [← hm0, ptsM_len, HZ.out.2.2.2.1]
            rw [hm0] at HO0
            have HM0 := Lib.hid hm0l
            refine wp_rangeFunc_oneK (gf := 66) (lb := #[.pointer (some ⟨V + 1, 0, none⟩)]) rfl (enters_of Try.func66 (by kernel_rfl) rfl)
              (places1_seq N (V + 1) hN W0) (Below.refl _ _) (fun _ => rfl)
              (fun pre A => MOwn (X + 2) A (pre.foldl (stM (2 * N) p) m0) (some ⟨g, 0, none⟩) S ∧ Oth g W0 A ∧ Below X w A) (fun _ _ _ => False)
              (fun pre A B h hb => ⟨h.1.below hb (by rw [HQ.out.2.1]; exact HRW.out.2.1), h.2.1.below hb, h.2.2.trans (hb.mono (by rw [HQ.out.2.1]; have := HRW.out.2.2; omega))⟩) (fun c pre A B h hb => h)
              (fun pre A h => (h.2.1.cell (p := ⟨V + 1, 0, none⟩) HQ.out.2.2.2.2.lt (by have h1 := HLT.out; have h2 := HJ.out.bm.lt; have h3 := HV.out.1.size; have h4 := HV.out.2.1; show V + 1 ≠ g; omega)).trans (HQ.out.2.2.2.2.cell 0)) ⟨HO0.out.1, Oth.refl _ _, HO0.out.2.2.2⟩ ?round ?done ?stop
            case round =>
              intro l0 pre x A hI hpre hle hl2
              obtain ⟨i, j⟩ := x
              obtain ⟨hi, hj⟩ := allP_lt (hpre.subset (by simp : (i, j) ∈ pre ++ [(i, j)]))
              simp only at hi hj
              dsimp only [encP]
              gi_wp2
              refine ⟨Above.refl _ _, fun r o' hr => ?_⟩
              have hbp := below_put W0.heap.size A hl2 (.loop o')
              have hI2 : MOwn (X + 2) (A.putObj l0 (.loop o')) (pre.foldl (stM (2 * N) p) m0) (some ⟨g, 0, none⟩) S ∧ Oth g W0 (A.putObj l0 (.loop o')) ∧ Below X w (A.putObj l0 (.loop o')) := ⟨hI.1.below hbp (by rw [HQ.out.2.1]; exact HRW.out.2.1), hI.2.1.below hbp, hI.2.2.trans (hbp.mono (by rw [HQ.out.2.1]; have := HRW.out.2.2; omega))⟩
              obtain ⟨A2, hA2⟩ : ∃ A2, A.putObj l0 (.loop o') = A2 := ⟨_, rfl⟩
              rw [hA2] at hI2 ⊢
              clear hA2 hr hI hle hl2 hpre hbp
              obtain ⟨m1, hm1⟩ : ∃ m, pre.foldl (stM (2 * N) p) m0 = m := ⟨_, rfl⟩
              rw [hm1] at hI2
              have hml : m1.length = S := by rw [← hm1, foldl_len _ (stM_len _ p)]; exact HM0.out
              have hT0 := cell_lt hi hj
              rw [HZ.out.2.2.2.1] at hT0
              obtain ⟨g', hg', -, hgA, cT, fT⟩ := hI2.1.at (i := i * (2 * N) + j) (by rw [hml]; exact hT0)
              cases hg'
              have HIX := Lib.hid (fun w => index_any N i j hN hi hj w)
              have HAP := Lib.hid (fun (w : World) (hw : WAt w p av) => by
                have h := apart_any p HP.out.2.2 av cvv i j (by rw [HP.out.2.1]; exact hi) (by rw [HP.out.2.1]; exact hj) w hw
                rw [HP.out.2.1] at h
                exact h)
              have hst : (pre ++ [(i, j)]).foldl (stM (2 * N) p) m0 = m1.set (i * (2 * N) + j) (max (m1.getD (i * (2 * N) + j) 0) (apV p i j)) := by rw [List.foldl_append, hm1]; rfl
              have u1 := (hI2.2.1.blk HO0.out.2.1 (by have := HLT.out; omega)).cell 0
              have u2 := (hI2.2.1.blk HO0.out.2.2.1 (by have := HLT.out; omega)).cell 0
              have u3 := (hI2.2.1.blk HQ.out.2.2.2.1 (by have h1 := HLT.out; have h2 := HJ.out.bm.lt; have h3 := HV.out.1.size; have h4 := HV.out.2.1; omega)).cell 0
              have hwA := HQ.out.2.2.1.oth hI2.2.1 HO0.out.1 (fun h => by rw [HM0.out]; omega)
              obtain ⟨NV, hNV⟩ : ∃ NV, 2 * N = NV := ⟨_, rfl⟩
              obtain ⟨T, hT⟩ : ∃ T, i * (2 * N) + j = T := ⟨_, rfl⟩
              rw [hT] at HIX cT fT hT0 hst
              obtain ⟨C, hC⟩ : ∃ C, m1.getD T 0 = C := ⟨_, rfl⟩
              obtain ⟨E, hE⟩ : ∃ D, apV p i j = D := ⟨_, rfl⟩
              obtain ⟨M, hM⟩ : ∃ M, max C E = M := ⟨_, rfl⟩
              rw [hC] at cT
              rw [hC, hE, hM] at hst
              rw [hE, hNV] at HAP
              rw [hNV] at u3
              have hTS : (T : Int) < (S : Int) := by omega
              have HX := Lib.hid (And.intro u1 (And.intro u2 u3))
              have HL := Lib.hid (And.intro (World.block_lt_of_cell? A2 _ u1) (And.intro (World.block_lt_of_cell? A2 _ u2) (And.intro (World.block_lt_of_cell? A2 _ u3) hgA)))
              have HT := Lib.hid (And.intro cT fT)
              have HWA := Lib.hid hwA
              have HMX := Lib.hid hM
              have HST := Lib.hid hst
              have HI2 := Lib.hid hI2
              clear hm1 hml hst u2 u3 hwA hT hC hE hM hI2 cT fT hT0 hi hj hgA hNV
              gi_wp2_with (first | (refine ⟨trivial, ?_⟩; gi_at_call 42; (with_reducible refine (CallsIn.inRound l0 (callsIn_wide.2 (HIX.out _))).mono ?_); rintro e A2 ⟨rfl, rfl⟩) | fail)
              refine wp_region_round (by kernel_rfl) (by kernel_rfl) ?lo ?_
              case lo => rintro ⟨_, _, h⟩; exact h
              refine wpAny_mem2 [some 51, some 52, some 53, some 54, some 55, some 56, some 57, some 58, some 59, some 60, some 61, some 62, none] (fun _ => valsAt [.slice (some ⟨g, 0, none⟩) S S, .int .i64 (T : Int), .slice (some ⟨g, 0, none⟩) S S, .int .i64 (T : Int), .pointer (some ⟨g, T, none⟩), .int .i64 C, .slice av NV cvv, .int .i64 (i : Int), .int .i64 (j : Int), .int .i64 E, .int .i64 M, .pointer (some ⟨g, T, none⟩), undef]) (fun l _ w' => (l.getD 12 false = false ∧ Below A2.heap.size A2 w') ∨ (l.getD 12 false = true ∧ ∃ w1, Below A2.heap.size A2 w1 ∧ w' = w1.setCell ⟨g, T, none⟩ (.int .i64 M))) 100 undef rfl ?hvs (by kernel_rfl) (by kernel_rfl) (by kernel_rfl) ?hs ?he ?hj
              case hvs => intro R R' j _; rfl
              case hj => exact .inl ⟨rfl, (Below.refl _ _).drew⟩
              case hs =>
                intro qi qo ho hi lz Rz fr0 hl hl0 hup hv hx hcl w' hJ
                have HH := Lib.hid (And.intro hl hJ)
                clear hl hJ hup
                have hi : qi < 13 := (Array.getElem?_eq_some_iff.1 ho).1
                have hcase : qi = 0 ∨ qi = 1 ∨ qi = 2 ∨ qi = 3 ∨ qi = 4 ∨ qi = 5 ∨ qi = 6 ∨ qi = 7 ∨ qi = 8 ∨ qi = 9 ∨ qi = 10 ∨ qi = 11 ∨ qi = 12 := by omega
                clear hi
                rcases hcase with rfl | rfl | rfl | rfl | rfl | rfl | rfl | rfl | rfl | rfl | rfl | rfl | rfl
                · obtain rfl := Option.some.inj ho.symm
                  clear ho
                  have x7 : fr0.tmps[(7 : Nat)]? = some (.pointer (some ⟨Y, 0, none⟩)) := hx 7 (not_up (by decide))
                  have hn : lz.getD 12 false = false := st_notyet hcl hl0 (j := 12) rfl (by kernel_rfl)
                  have hJ := stb_first HH.out.2 hn
                  clear hv hx hcl hl0
                  have c1 : w'.cell? ⟨Y, 0, none⟩ = some (.slice (some ⟨g, 0, none⟩) S S) := (hJ.cell (p := ⟨Y, 0, none⟩) HL.out.2.1).trans HX.out.2.1
                  have c2 : w'.cell? ⟨V, 0, none⟩ = some (.slice av NV cvv) := (hJ.cell (p := ⟨V, 0, none⟩) HL.out.2.2.1).trans HX.out.2.2
                  have cT : w'.cell? ⟨g, T, none⟩ = some (.int .i64 C) := (hJ.cell (p := ⟨g, T, none⟩) HL.out.2.2.2).trans HT.out.1
                  have hmx := HMX.out
                  have HWW := Lib.hid (HWA.out.next hJ)
                  have HJ := Lib.hid hJ
                  clear hJ
                  refine wpOp_step rfl (fun K hK => ?_)
                  go_simp
                  exact hK _ _ ⟨Rz, fun _ => rfl, rfl, .inl ⟨(getD_set_ne false (by decide)).trans hn, HJ.out⟩⟩
                · obtain rfl := Option.some.inj ho.symm
                  clear ho
                  have x13 : fr0.tmps[(13 : Nat)]? = some (.int .i64 (T : Int)) := hx 13 (not_up (by decide))
                  have hn : lz.getD 12 false = false := st_notyet hcl hl0 (j := 12) rfl (by kernel_rfl)
                  have hJ := stb_first HH.out.2 hn
                  clear hv hx hcl hl0
                  have c1 : w'.cell? ⟨Y, 0, none⟩ = some (.slice (some ⟨g, 0, none⟩) S S) := (hJ.cell (p := ⟨Y, 0, none⟩) HL.out.2.1).trans HX.out.2.1
                  have c2 : w'.cell? ⟨V, 0, none⟩ = some (.slice av NV cvv) := (hJ.cell (p := ⟨V, 0, none⟩) HL.out.2.2.1).trans HX.out.2.2
                  have cT : w'.cell? ⟨g, T, none⟩ = some (.int .i64 C) := (hJ.cell (p := ⟨g, T, none⟩) HL.out.2.2.2).trans HT.out.1
                  have hmx := HMX.out
                  have HWW := Lib.hid (HWA.out.next hJ)
                  have HJ := Lib.hid hJ
                  clear hJ
                  refine wpOp_step rfl (fun K hK => ?_)
                  go_simp
                  exact hK _ _ ⟨Rz, fun _ => rfl, rfl, .inl ⟨(getD_set_ne false (by decide)).trans hn, HJ.out⟩⟩
                · obtain rfl := Option.some.inj ho.symm
                  clear ho
                  have x7 : fr0.tmps[(7 : Nat)]? = some (.pointer (some ⟨Y, 0, none⟩)) := hx 7 (not_up (by decide))
                  have hn : lz.getD 12 false = false := st_notyet hcl hl0 (j := 12) rfl (by kernel_rfl)
                  have hJ := stb_first HH.out.2 hn
                  clear hv hx hcl hl0
                  have c1 : w'.cell? ⟨Y, 0, none⟩ = some (.slice (some ⟨g, 0, none⟩) S S) := (hJ.cell (p := ⟨Y, 0, none⟩) HL.out.2.1).trans HX.out.2.1
                  have c2 : w'.cell? ⟨V, 0, none⟩ = some (.slice av NV cvv) := (hJ.cell (p := ⟨V, 0, none⟩) HL.out.2.2.1).trans HX.out.2.2
                  have cT : w'.cell? ⟨g, T, none⟩ = some (.int .i64 C) := (hJ.cell (p := ⟨g, T, none⟩) HL.out.2.2.2).trans HT.out.1
                  have hmx := HMX.out
                  have HWW := Lib.hid (HWA.out.next hJ)
                  have HJ := Lib.hid hJ
                  clear hJ
                  refine wpOp_step rfl (fun K hK => ?_)
                  go_simp
                  exact hK _ _ ⟨Rz, fun _ => rfl, rfl, .inl ⟨(getD_set_ne false (by decide)).trans hn, HJ.out⟩⟩
                · obtain rfl := Option.some.inj ho.symm
                  clear ho
                  have x13 : fr0.tmps[(13 : Nat)]? = some (.int .i64 (T : Int)) := hx 13 (not_up (by decide))
                  have hn : lz.getD 12 false = false := st_notyet hcl hl0 (j := 12) rfl (by kernel_rfl)
                  have hJ := stb_first HH.out.2 hn
                  clear hv hx hcl hl0
                  have c1 : w'.cell? ⟨Y, 0, none⟩ = some (.slice (some ⟨g, 0, none⟩) S S) := (hJ.cell (p := ⟨Y, 0, none⟩) HL.out.2.1).trans HX.out.2.1
                  have c2 : w'.cell? ⟨V, 0, none⟩ = some (.slice av NV cvv) := (hJ.cell (p := ⟨V, 0, none⟩) HL.out.2.2.1).trans HX.out.2.2
                  have cT : w'.cell? ⟨g, T, none⟩ = some (.int .i64 C) := (hJ.cell (p := ⟨g, T, none⟩) HL.out.2.2.2).trans HT.out.1
                  have hmx := HMX.out
                  have HWW := Lib.hid (HWA.out.next hJ)
                  have HJ := Lib.hid hJ
                  clear hJ
                  refine wpOp_step rfl (fun K hK => ?_)
                  go_simp
                  exact hK _ _ ⟨Rz, fun _ => rfl, rfl, .inl ⟨(getD_set_ne false (by decide)).trans hn, HJ.out⟩⟩
                · obtain rfl := Option.some.inj ho.symm
                  clear ho
                  have d2 : fr0.tmps[(53 : Nat)]? = some (.slice (some ⟨g, 0, none⟩) S S) := hv ⟨2, .data⟩ (by simp) rfl _ rfl
                  have d3 : fr0.tmps[(54 : Nat)]? = some (.int .i64 (T : Int)) := hv ⟨3, .data⟩ (by simp) rfl _ rfl
                  have hn : lz.getD 12 false = false := st_notyet hcl hl0 (j := 12) rfl (by kernel_rfl)
                  have hJ := stb_first HH.out.2 hn
                  clear hv hx hcl hl0
                  have c1 : w'.cell? ⟨Y, 0, none⟩ = some (.slice (some ⟨g, 0, none⟩) S S) := (hJ.cell (p := ⟨Y, 0, none⟩) HL.out.2.1).trans HX.out.2.1
                  have c2 : w'.cell? ⟨V, 0, none⟩ = some (.slice av NV cvv) := (hJ.cell (p := ⟨V, 0, none⟩) HL.out.2.2.1).trans HX.out.2.2
                  have cT : w'.cell? ⟨g, T, none⟩ = some (.int .i64 C) := (hJ.cell (p := ⟨g, T, none⟩) HL.out.2.2.2).trans HT.out.1
                  have hmx := HMX.out
                  have HWW := Lib.hid (HWA.out.next hJ)
                  have HJ := Lib.hid hJ
                  clear hJ
                  refine wpOp_step rfl (fun K hK => ?_)
                  go_simp
                  exact hK _ _ ⟨Rz, fun _ => rfl, rfl, .inl ⟨(getD_set_ne false (by decide)).trans hn, HJ.out⟩⟩
                · obtain rfl := Option.some.inj ho.symm
                  clear ho
                  have d4 : fr0.tmps[(55 : Nat)]? = some (.pointer (some ⟨g, T, none⟩)) := hv ⟨4, .data⟩ (by simp) rfl _ rfl
                  have hn : lz.getD 12 false = false := st_notyet hcl hl0 (j := 12) rfl (by kernel_rfl)
                  have hJ := stb_first HH.out.2 hn
                  clear hv hx hcl hl0
                  have c1 : w'.cell? ⟨Y, 0, none⟩ = some (.slice (some ⟨g, 0, none⟩) S S) := (hJ.cell (p := ⟨Y, 0, none⟩) HL.out.2.1).trans HX.out.2.1
                  have c2 : w'.cell? ⟨V, 0, none⟩ = some (.slice av NV cvv) := (hJ.cell (p := ⟨V, 0, none⟩) HL.out.2.2.1).trans HX.out.2.2
                  have cT : w'.cell? ⟨g, T, none⟩ = some (.int .i64 C) := (hJ.cell (p := ⟨g, T, none⟩) HL.out.2.2.2).trans HT.out.1
                  have hmx := HMX.out
                  have HWW := Lib.hid (HWA.out.next hJ)
                  have HJ := Lib.hid hJ
                  clear hJ
                  refine wpOp_step rfl (fun K hK => ?_)
                  go_simp
                  exact hK _ _ ⟨Rz, fun _ => rfl, rfl, .inl ⟨(getD_set_ne false (by decide)).trans hn, HJ.out⟩⟩
                · obtain rfl := Option.some.inj ho.symm
                  clear ho
                  have x10 : fr0.tmps[(10 : Nat)]? = some (.pointer (some ⟨V, 0, none⟩)) := hx 10 (not_up (by decide))
                  have hn : lz.getD 12 false = false := st_notyet hcl hl0 (j := 12) rfl (by kernel_rfl)
                  have hJ := stb_first HH.out.2 hn
                  clear hv hx hcl hl0
                  have c1 : w'.cell? ⟨Y, 0, none⟩ = some (.slice (some ⟨g, 0, none⟩) S S) := (hJ.cell (p := ⟨Y, 0, none⟩) HL.out.2.1).trans HX.out.2.1
                  have c2 : w'.cell? ⟨V, 0, none⟩ = some (.slice av NV cvv) := (hJ.cell (p := ⟨V, 0, none⟩) HL.out.2.2.1).trans HX.out.2.2
                  have cT : w'.cell? ⟨g, T, none⟩ = some (.int .i64 C) := (hJ.cell (p := ⟨g, T, none⟩) HL.out.2.2.2).trans HT.out.1
                  have hmx := HMX.out
                  have HWW := Lib.hid (HWA.out.next hJ)
                  have HJ := Lib.hid hJ
                  clear hJ
                  refine wpOp_step rfl (fun K hK => ?_)
                  go_simp
                  exact hK _ _ ⟨Rz, fun _ => rfl, rfl, .inl ⟨(getD_set_ne false (by decide)).trans hn, HJ.out⟩⟩
                · obtain rfl := Option.some.inj ho.symm
                  clear ho
                  have x11 : fr0.tmps[(11 : Nat)]? = some (.int .i64 (i : Int)) := hx 11 (not_up (by decide))
                  have hn : lz.getD 12 false = false := st_notyet hcl hl0 (j := 12) rfl (by kernel_rfl)
                  have hJ := stb_first HH.out.2 hn
                  clear hv hx hcl hl0
                  have c1 : w'.cell? ⟨Y, 0, none⟩ = some (.slice (some ⟨g, 0, none⟩) S S) := (hJ.cell (p := ⟨Y, 0, none⟩) HL.out.2.1).trans HX.out.2.1
                  have c2 : w'.cell? ⟨V, 0, none⟩ = some (.slice av NV cvv) := (hJ.cell (p := ⟨V, 0, none⟩) HL.out.2.2.1).trans HX.out.2.2
                  have cT : w'.cell? ⟨g, T, none⟩ = some (.int .i64 C) := (hJ.cell (p := ⟨g, T, none⟩) HL.out.2.2.2).trans HT.out.1
                  have hmx := HMX.out
                  have HWW := Lib.hid (HWA.out.next hJ)
                  have HJ := Lib.hid hJ
                  clear hJ
                  refine wpOp_step rfl (fun K hK => ?_)
                  go_simp
                  exact hK _ _ ⟨Rz, fun _ => rfl, rfl, .inl ⟨(getD_set_ne false (by decide)).trans hn, HJ.out⟩⟩
                · obtain rfl := Option.some.inj ho.symm
                  clear ho
                  have x12 : fr0.tmps[(12 : Nat)]? = some (.int .i64 (j : Int)) := hx 12 (not_up (by decide))
                  have hn : lz.getD 12 false = false := st_notyet hcl hl0 (j := 12) rfl (by kernel_rfl)
                  have hJ := stb_first HH.out.2 hn
                  clear hv hx hcl hl0
                  have c1 : w'.cell? ⟨Y, 0, none⟩ = some (.slice (some ⟨g, 0, none⟩) S S) := (hJ.cell (p := ⟨Y, 0, none⟩) HL.out.2.1).trans HX.out.2.1
                  have c2 : w'.cell? ⟨V, 0, none⟩ = some (.slice av NV cvv) := (hJ.cell (p := ⟨V, 0, none⟩) HL.out.2.2.1).trans HX.out.2.2
                  have cT : w'.cell? ⟨g, T, none⟩ = some (.int .i64 C) := (hJ.cell (p := ⟨g, T, none⟩) HL.out.2.2.2).trans HT.out.1
                  have hmx := HMX.out
                  have HWW := Lib.hid (HWA.out.next hJ)
                  have HJ := Lib.hid hJ
                  clear hJ
                  refine wpOp_step rfl (fun K hK => ?_)
                  go_simp
                  exact hK _ _ ⟨Rz, fun _ => rfl, rfl, .inl ⟨(getD_set_ne false (by decide)).trans hn, HJ.out⟩⟩
                · obtain rfl := Option.some.inj ho.symm
                  clear ho
                  have d6 : fr0.tmps[(57 : Nat)]? = some (.slice av NV cvv) := hv ⟨6, .data⟩ (by simp) rfl _ rfl
                  have d7 : fr0.tmps[(58 : Nat)]? = some (.int .i64 (i : Int)) := hv ⟨7, .data⟩ (by simp) rfl _ rfl
                  have d8 : fr0.tmps[(59 : Nat)]? = some (.int .i64 (j : Int)) := hv ⟨8, .data⟩ (by simp) rfl _ rfl
                  have hn : lz.getD 12 false = false := st_notyet hcl hl0 (j := 12) rfl (by kernel_rfl)
                  have hJ := stb_first HH.out.2 hn
                  clear hv hx hcl hl0
                  have c1 : w'.cell? ⟨Y, 0, none⟩ = some (.slice (some ⟨g, 0, none⟩) S S) := (hJ.cell (p := ⟨Y, 0, none⟩) HL.out.2.1).trans HX.out.2.1
                  have c2 : w'.cell? ⟨V, 0, none⟩ = some (.slice av NV cvv) := (hJ.cell (p := ⟨V, 0, none⟩) HL.out.2.2.1).trans HX.out.2.2
                  have cT : w'.cell? ⟨g, T, none⟩ = some (.int .i64 C) := (hJ.cell (p := ⟨g, T, none⟩) HL.out.2.2.2).trans HT.out.1
                  have hmx := HMX.out
                  have HWW := Lib.hid (HWA.out.next hJ)
                  have HJ := Lib.hid hJ
                  clear hJ
                  refine wpOp_step rfl (fun K hK => ?_)
                  go_simp
                  go_at_call 52
                  refine (HAP.out _ HWW.out).mono ?_
                  rintro e w2 ⟨rfl, hb2⟩
                  exact hK _ _ ⟨Rz, fun _ => rfl, rfl, .inl ⟨(getD_set_ne false (by decide)).trans hn, HJ.out.trans (hb2.mono HJ.out.size)⟩⟩
                · obtain rfl := Option.some.inj ho.symm
                  clear ho
                  have d5 : fr0.tmps[(56 : Nat)]? = some (.int .i64 C) := hv ⟨5, .data⟩ (by simp) rfl _ rfl
                  have d9 : fr0.tmps[(60 : Nat)]? = some (.int .i64 E) := hv ⟨9, .data⟩ (by simp) rfl _ rfl
                  have hn : lz.getD 12 false = false := st_notyet hcl hl0 (j := 12) rfl (by kernel_rfl)
                  have hJ := stb_first HH.out.2 hn
                  clear hv hx hcl hl0
                  have c1 : w'.cell? ⟨Y, 0, none⟩ = some (.slice (some ⟨g, 0, none⟩) S S) := (hJ.cell (p := ⟨Y, 0, none⟩) HL.out.2.1).trans HX.out.2.1
                  have c2 : w'.cell? ⟨V, 0, none⟩ = some (.slice av NV cvv) := (hJ.cell (p := ⟨V, 0, none⟩) HL.out.2.2.1).trans HX.out.2.2
                  have cT : w'.cell? ⟨g, T, none⟩ = some (.int .i64 C) := (hJ.cell (p := ⟨g, T, none⟩) HL.out.2.2.2).trans HT.out.1
                  have hmx := HMX.out
                  have HWW := Lib.hid (HWA.out.next hJ)
                  have HJ := Lib.hid hJ
                  clear hJ
                  refine wpOp_step rfl (fun K hK => ?_)
                  go_simp
                  exact hK _ _ ⟨Rz, fun _ => rfl, rfl, .inl ⟨(getD_set_ne false (by decide)).trans hn, HJ.out⟩⟩
                · obtain rfl := Option.some.inj ho.symm
                  clear ho
                  have d0 : fr0.tmps[(51 : Nat)]? = some (.slice (some ⟨g, 0, none⟩) S S) := hv ⟨0, .data⟩ (by simp) rfl _ rfl
                  have d1 : fr0.tmps[(52 : Nat)]? = some (.int .i64 (T : Int)) := hv ⟨1, .data⟩ (by simp) rfl _ rfl
                  have hn : lz.getD 12 false = false := st_notyet hcl hl0 (j := 12) rfl (by kernel_rfl)
                  have hJ := stb_first HH.out.2 hn
                  clear hv hx hcl hl0
                  have c1 : w'.cell? ⟨Y, 0, none⟩ = some (.slice (some ⟨g, 0, none⟩) S S) := (hJ.cell (p := ⟨Y, 0, none⟩) HL.out.2.1).trans HX.out.2.1
                  have c2 : w'.cell? ⟨V, 0, none⟩ = some (.slice av NV cvv) := (hJ.cell (p := ⟨V, 0, none⟩) HL.out.2.2.1).trans HX.out.2.2
                  have cT : w'.cell? ⟨g, T, none⟩ = some (.int .i64 C) := (hJ.cell (p := ⟨g, T, none⟩) HL.out.2.2.2).trans HT.out.1
                  have hmx := HMX.out
                  have HWW := Lib.hid (HWA.out.next hJ)
                  have HJ := Lib.hid hJ
                  clear hJ
                  refine wpOp_step rfl (fun K hK => ?_)
                  go_simp
                  exact hK _ _ ⟨Rz, fun _ => rfl, rfl, .inl ⟨(getD_set_ne false (by decide)).trans hn, HJ.out⟩⟩
                · obtain rfl := Option.some.inj ho.symm
                  clear ho
                  have d11 : fr0.tmps[(62 : Nat)]? = some (.pointer (some ⟨g, T, none⟩)) := hv ⟨11, .data⟩ (by simp) rfl _ rfl
                  have d10 : fr0.tmps[(61 : Nat)]? = some (.int .i64 M) := hv ⟨10, .data⟩ (by simp) rfl _ rfl
                  have hn : lz.getD 12 false = false := up_not hl0
                  have hJ := stb_first HH.out.2 hn
                  clear hv hx hcl hl0
                  have c1 : w'.cell? ⟨Y, 0, none⟩ = some (.slice (some ⟨g, 0, none⟩) S S) := (hJ.cell (p := ⟨Y, 0, none⟩) HL.out.2.1).trans HX.out.2.1
                  have c2 : w'.cell? ⟨V, 0, none⟩ = some (.slice av NV cvv) := (hJ.cell (p := ⟨V, 0, none⟩) HL.out.2.2.1).trans HX.out.2.2
                  have cT : w'.cell? ⟨g, T, none⟩ = some (.int .i64 C) := (hJ.cell (p := ⟨g, T, none⟩) HL.out.2.2.2).trans HT.out.1
                  have hmx := HMX.out
                  have HWW := Lib.hid (HWA.out.next hJ)
                  have fT : w'.frozen? ⟨g, T, none⟩ = false := (hJ.frozen (p := ⟨g, T, none⟩) HL.out.2.2.2).trans HT.out.2
                  have HJ := Lib.hid hJ
                  clear hJ
                  refine wpOp_step rfl (fun K hK => ?_)
                  go_simp
                  exact hK _ _ ⟨Rz, fun _ => rfl, rfl, .inr ⟨up_self (by rw [HH.out.1]; decide), w', HJ.out, rfl⟩⟩
              case he =>
                intro lz Rz w' hall hJ
                simp only [putM, valsAt, Nat.reduceAdd, Nat.zero_add, List.getD_cons_zero, List.getD_cons_succ, Act.put, List.setIfInBounds_toArray, List.set_cons_succ, List.set_cons_zero]
                obtain ⟨w1, hJ, hw'⟩ := stb_last hJ (hall 12 (by decide))
                clear hall
                have HJJ := Lib.hid hJ
                clear hJ
                rw [hw']
                clear hw'
                gi_wp2
                have hgs := HL.out.2.2.2
                exact ⟨((Above.refl _ A2).below HJJ.out).setCell (by rw [HQ.out.2.1]; exact HRW.out.2.1) _, by rw [HST.out]; exact (HI2.out.1.below HJJ.out hgs).set T M, (HI2.out.2.1.below (HJJ.out.mono HI2.out.2.1.1)).setCell _ _, (HI2.out.2.2.trans (HJJ.out.mono (by have h1 := HI2.out.2.1.1; have h2 := HQ.out.2.1; have h3 := HRW.out.2.2; omega))).setCell (by have := HLT.out; simp; omega) _⟩
            case done =>
              intro D A hD hI hK
              have HI := Lib.hid hI
              have HK := Lib.hid hK
              have HD := Lib.hid hD
              have HM1 := Lib.hid hm0
              clear hI hK hD hm0 hm0l
              have w1 : wrap64 ((k : Int) + 1) = ((k + 1 : Nat) : Int) := by rw [IntWalk.wrap64_in _ (by unfold maxLen at hLm; omega)]; omega
              go_wp2_with fail
              refine ⟨⟨k + 1, D :: lD, _, _, _, _, _, _, _, _, _, _, HJ.out.step HP.out.1 HLT.out.1 HLT.out.2 HQ.out.1 HI.out.2.1 HI.out.2.2 (by rw [HM1.out]; exact HI.out.1) HD.out HK.out, by omega, by rw [w1]; rfl⟩, ?_⟩
              show LL - (intOf (.int .i64 (wrap64 ((k : Int) + 1)))).toNat < LL - (intOf (.int .i64 (k : Int))).toNat
              rw [w1]
              simp only [intOf]
              omega
            case stop => rintro D c pre A - - h -; exact h.elim
          · have k1 : (LL : Int) ≤ (k : Int) := by omega
            obtain rfl : k = LL := by omega
            have z0 := hJ.br.cell 0
            have z1 := hJ.br.cell 1
            have z2 := hJ.br.cell 2
            have z3 := hJ.br.free 0
            have z4 := hJ.br.free 1
            have z5 := hJ.br.free 2
            have z6 := hJ.bx.cell 0
            have z7 := hJ.bm.cell 0
            have HJ := Lib.hid hJ
            clear hJ
            go_wp2_with fail
            show LeavesInM _ _ _ _ _ _ (marks lD) .returning _
            have hZ := fun w => putAll_below (Y + 1) lD w (fun D hD => (HJ.out.ds D hD).1)
            refine leaves_all lD _ HJ.out.nd (fun D hD => ?_) ?_
            · have h1 := HJ.out.ds D hD
              have h2 : D ≠ X + 1 := by have := HLT.out; omega
              exact (Below.heap_setCell _ _ _ _ h2).trans ((Below.heap_setCell _ _ _ _ h2).trans ((Below.heap_setCell _ _ _ _ h2).trans h1.2))
            · refine ⟨_, results_row_tmp rfl _ _ (X + 1) _ #[.int .i64 N, .bool false, .slice (some ⟨g, 0, none⟩) S S] _ _ rfl ((set3_blk HJ.out.br).below (hZ _) (by have := HLT.out; omega)) rfl rfl (by kernel_rfl), ?_⟩
              have e1 : l.take k = l := List.take_of_length_le (by rw [HLL.out]; exact Nat.le_refl _)
              have hown := HJ.out.own
              rw [e1] at hown
              refine ⟨some ⟨g, 0, none⟩, S, ?_, ?_, ?_⟩
              · show _ = Ending.returned (.tuple #[.agg #[.int .i64 N, .bool false, .slice (some ⟨g, 0, none⟩) (ptsM (2 * N) l).length S], .int .i64 0])
                rw [ptsM_len, HZ.out.2.2.2.1]; rfl
              · rw [HW.out.1]
                exact ((hown.set3 (by omega)).below (hZ _) (by have := HLT.out; omega)).lower (by omega)
              · rw [HW.out.1]
                exact (set3_below HJ.out.low (by omega)).trans ((hZ _).mono (by have := HLT.out; omega))
end Go.Proofs.Ythnefcafhpioaaa
