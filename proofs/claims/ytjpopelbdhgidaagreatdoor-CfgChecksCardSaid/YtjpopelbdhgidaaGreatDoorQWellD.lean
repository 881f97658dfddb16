/-
  The project's kindOf, most and declare (package well): proved is what each answers, and that declare fills the map that it is handed.
-/
import Derived.Test.YtjpopelbdhgidaaGreatDoorQWellP
import Derived.Deep.RegionWith
import Derived.WalkMore
import Derived.Deep.QuietTactic
import Derived.BigQuiet

namespace Go.Proofs.YtjpopelbdhgidaaGreatDoor
open Go Go.RowKit Go.Maps

set_option maxRecDepth 100000 in
theorem kindOf_any (nm : ByteArray) (n : Int) (w : World) : Calls Tryz.prog 57 #[.agg #[.string nm, .int .i64 n]] w (fun e w' => e = .returned (.int .i64 (kD n)) ∧ Below w.heap.size w w') := by
  unfold kD
  by_cases h : n = 0
  · rw [if_pos h]
    have h1 : (n == 0) = true := by simpa using h
    clear h
    go_enter Tryz.func57, Tryz.ntmps57
    go_wp2_with fail
    go_ret
    exact ⟨rfl, (Below.refl _ w).alloc (Nat.le_refl _) _⟩
  · rw [if_neg h]
    have h1 : (n == 0) = false := by simpa using h
    clear h
    go_enter Tryz.func57, Tryz.ntmps57
    go_wp2_with fail
    go_ret
    exact ⟨rfl, (Below.refl _ w).alloc (Nat.le_refl _) _⟩
theorem most_one (w : World) : Calls Tryz.prog 132 #[.int .i64 1] w (fun e w' => e = .returned (.int .i64 32) ∧ w' = w) := by
  go_enter Tryz.func132, Tryz.ntmps132
  go_wp2_with fail
  go_ret
  exact ⟨rfl, rfl⟩
theorem most_two (w : World) : Calls Tryz.prog 132 #[.int .i64 2] w (fun e w' => e = .returned (.int .i64 16) ∧ w' = w) := by
  go_enter Tryz.func132, Tryz.ntmps132
  go_wp2_with fail
  go_ret
  exact ⟨rfl, rfl⟩
abbrev OwnM (w : World) (M n : Nat) (D : DataW Unit) : Prop := w.ownsMap Tryz.prog 9 (plainElem Tryz.prog 3) M n D
/-- What declare tells, and leaves. -/
def DeclTo (w : World) (M : Nat) (ds : List Nd) : Ending → World → Prop := fun e w' => e = .returned (.tuple #[.string (declW [] ds).1, .int .i64 (declW [] ds).2]) ∧ w.grownBy w' (some M) ∧ ((declW [] ds).2 = 0 → OwnM w' M ds.length (mapD ds))

set_option maxRecDepth 100000 in
set_option maxHeartbeats 16000000 in
theorem declare_any (w0 : World) (ds : List Nd) (vd : Value) (w : World) (M : Nat) (hd : SlIn w0 .D ds vd) (hw : Below w0.heap.size w0 w) (hM0 : w0.heap.size ≤ M) (hm : OwnM w M 0 (mapD [])) :
    Calls Tryz.prog 84 #[.map (some M), vd] w (DeclTo w M ds) := by
  obtain ⟨A, C, rfl, hlC, hcmC, hROW⟩ := hd
  have HROW := Lib.hid hROW; clear hROW
  have hMw := hm.lt
  have HHW := Lib.hid hw; clear hw
  have HM0 := Lib.hid hm; clear hm
  obtain ⟨POST, hPOST⟩ : ∃ P, declW [] ds = P := ⟨_, rfl⟩
  unfold DeclTo
  rw [hPOST]
  have HPOST := Lib.hid hPOST; clear hPOST
  obtain ⟨B, hBe⟩ : ∃ B, w.heap.size = B := ⟨_, rfl⟩
  obtain ⟨W1, hW1⟩ : ∃ W1, w.alloc (.cells #[.int .i64 0, .int .i64 0, .int .i64 0] 205) = W1 := ⟨_, rfl⟩
  have hX1 : Blk W1 B #[.int .i64 0, .int .i64 0, .int .i64 0] 205 := by rw [← hW1, ← hBe]; exact Blk.new w _ _
  have hG1 : Gr (some M) (some M) w W1 := by rw [← hW1]; exact (Gr.refl _ w).alloc _
  have hM1 : OwnM W1 M 0 (mapD []) := by rw [← hW1]; exact HM0.out.alloc _
  have hS1 : B < W1.heap.size := by rw [← hW1, World.size_alloc]; omega
  rw [hBe] at hMw
  have hMB : M ≠ B := by omega
  have HX1 := Lib.hid hX1; clear hX1
  have HG1 := Lib.hid hG1; clear hG1
  have HM1 := Lib.hid hM1; clear hM1 HM0
  have HS1 := Lib.hid hS1; clear hS1
  have HW1 := Lib.hid hW1; clear hW1
  have HBE := Lib.hid hBe; clear hBe
  go_enter Tryz.func84, Tryz.ntmps84
  go_wp2_with fail
  go_step3
  go_wp2_with fail
  go_step3
  rw [HW1.out, HBE.out]
  clear HW1
  have hGW : w0.heap.size ≤ w.heap.size := HHW.out.size
  have HGW := Lib.hid hGW; clear hGW
  go_wp2_with fail
  go_loopw [4, 5, 12] (fun s4 s5 x wr => ∃ (i : Nat), s4 = .string ⟨#[]⟩ ∧ s5 = .int .i64 0 ∧ x = .int .i64 i ∧ i ≤ ds.length ∧ declW (ds.take i) (ds.drop i) = POST ∧ OwnM wr M i (mapD (ds.take i)) ∧ Blk wr B #[.int .i64 0, .int .i64 (cntK (ds.take i) 1), .int .i64 (cntK (ds.take i) 2)] 205 ∧ Gr (some M) (some M) w wr) (fun _ _ x _ => ds.length - (intOf x).toNat)
  case atStart => exact ⟨0, rfl, rfl, rfl, by omega, by rw [List.take_zero, List.drop_zero]; exact HPOST.out, by rw [List.take_zero]; exact HM1.out, by rw [List.take_zero]; exact HX1.out, HG1.out⟩
  case round =>
    obtain ⟨i, rfl, rfl, rfl, hi, hPr, hMr, hXr, hGr⟩ := hrel
    clear HM1 HX1 HG1 HPOST
    have HG := Lib.hid hGr; clear hGr
    by_cases hlt : i < ds.length
    · have hbi : (i : Int) + 1 ≤ 9223372036854775807 := by unfold maxLen at hcmC; omega
      have hxl : ¬ ds.length = 0 := by omega
      obtain ⟨b, o, rfl, hrow⟩ := HROW.out.resolve_left hxl
      have hold : Below w0.heap.size w0 wr := HHW.out.trans (HG.out.old HGW.out (fun g hg => by cases hg; exact hM0))
      obtain ⟨hty, u0, u1, m0, m1, hnd⟩ := SlIn.item2 rfl hrow i hlt
      have kk := keeps_below hold
      have g0 := kk _ _ _ m0
      have g1 := kk _ _ _ m1
      have hpa := declW_at hlt
      have hma := mapD_snoc (ds.take i) ds[i]
      have hc1 := cntK_snoc (ds.take i) ds[i] 1
      have hc2 := cntK_snoc (ds.take i) ds[i] 2
      rw [List.take_append_getElem hlt] at hma hc1 hc2
      clear m0 m1 kk hrow hold
      obtain ⟨X, hX⟩ : ∃ X, ds[i] = X := ⟨_, rfl⟩
      rw [hX] at hnd hty hpa hma hc1 hc2
      clear hX
      obtain ⟨ty, k, n, nm, xs, cs, ts, es⟩ := X
      simp only [Nd.ty] at hty
      subst hty
      unfold NdIn at hnd
      obtain ⟨hz, -, -, hnm, vx, vc, vt, ve, hvs, -⟩ := hnd
      simp only [lay, List.cons.injEq, and_true] at hvs
      obtain ⟨rfl, rfl⟩ := hvs
      clear hz
      simp only [dNm, dSz] at hma hc1 hc2
      rw [hPr] at hpa
      have hat := mapD_at (ds.take i) nm
      have hkey : keyOf Tryz.prog 9 (.string nm) = some (keyS nm) := WideMaps.keyOf_string_mk (by kernel_rfl) hnm
      have hdf : dF (ds.take i) (.mk .D k n nm xs cs ts es) = if lookL (ds.take i) nm ≠ 0 then 60 else if 1024 < n then 61 else if mostK (kD n) < (cntK (ds.take i) (kD n) : Int) + 1 then 62 else 0 := rfl
      have hdn : dNm (.mk .D k n nm xs cs ts es) = nm := rfl
      rw [hdf, hdn] at hpa
      clear hdf hdn
      have hcl1 := cntK_le (ds.take i) 1
      have hcl2 := cntK_le (ds.take i) 2
      rw [List.length_take] at hcl1 hcl2
      have hb1 : (cntK (ds.take i) 1 : Int) + 1 ≤ 9223372036854775807 := by unfold maxLen at hcmC; omega
      have hb2 : (cntK (ds.take i) 2 : Int) + 1 ≤ 9223372036854775807 := by unfold maxLen at hcmC; omega
      clear hcl1 hcl2
      obtain ⟨c0, hc0⟩ : ∃ c, lookL (ds.take i) nm = c := ⟨_, rfl⟩
      rw [hc0] at hat hpa
      obtain ⟨n1, hn1⟩ : ∃ c, cntK (ds.take i) 1 = c := ⟨_, rfl⟩
      obtain ⟨n2, hn2⟩ : ∃ c, cntK (ds.take i) 2 = c := ⟨_, rfl⟩
      rw [hn1] at hc1 hb1 hXr
      rw [hn2] at hc2 hb2 hXr
      obtain ⟨DM, hDM⟩ : ∃ D, mapD (ds.take i) = D := ⟨_, rfl⟩
      rw [hDM] at hat hma hMr
      obtain ⟨KY, hKY⟩ : ∃ D, keyS nm = D := ⟨_, rfl⟩
      rw [hKY] at hat hma hkey
      have hKind := kindOf_any nm n
      rcases kD_cases n with hk | hk
      · rw [hk] at hKind hma hpa
        simp only [hk] at hc1 hc2
        have hmo : mostK 1 = 32 := rfl
        rw [hmo, hn1] at hpa
        simp only [show ((1 : Int) == 1) = true from rfl, show ((1 : Int) == 2) = false from rfl, if_true, Bool.false_eq_true, if_false, Nat.add_zero] at hc1 hc2
        clear hmo hk hn1 hn2 hc0 hDM hKY
        obtain ⟨W2, hW2⟩ : ∃ W2, wr.alloc (.cells #[.string nm, .int .i64 n] 96) = W2 := ⟨_, rfl⟩
        obtain ⟨BD, hBD⟩ : ∃ x, wr.heap.size = x := ⟨_, rfl⟩
        have hX2 : Blk W2 B #[.int .i64 0, .int .i64 n1, .int .i64 n2] 205 := by rw [← hW2]; exact hXr.alloc _
        have hY2 : Blk W2 BD #[.string nm, .int .i64 n] 96 := by rw [← hW2, ← hBD]; exact Blk.new wr _ _
        have hM2 : OwnM W2 M i DM := by rw [← hW2]; exact hMr.alloc _
        have hG2 : Gr (some M) (some M) w W2 := by rw [← hW2]; exact HG.out.alloc _
        have hBlt : B < BD := by rw [← hBD]; exact hXr.lt
        have hMlt : M < BD := by rw [← hBD]; exact hMr.lt
        have hne1 : BD ≠ B := by omega
        have HC := Lib.hid (hKind W2)
        have HX2 := Lib.hid hX2; clear hX2 hXr
        have HY2 := Lib.hid hY2; clear hY2
        have HM2 := Lib.hid hM2; clear hM2 hMr
        have HG2 := Lib.hid hG2; clear hG2 HG
        have HW2 := Lib.hid hW2; clear hW2
        have HBD := Lib.hid hBD; clear hBD
        have HKEY := Lib.hid hkey; clear hkey
        have HAT := Lib.hid hat; clear hat
        have HMA := Lib.hid hma; clear hma
        have HC1 := Lib.hid hc1; clear hc1
        have HC2 := Lib.hid hc2; clear hc2
        have HPA := Lib.hid hpa; clear hpa hPr hKind
        go_upto_region 5 with fail
        rw [HW2.out, HBD.out]
        clear HW2 g0 g1
        have k0 : W2.cell? ⟨BD, 0, none⟩ = some (.string nm) := HY2.out.cell 0
        have k1 : W2.cell? ⟨BD, 1, none⟩ = some (.int .i64 n) := HY2.out.cell 1
        go_upto_region 6 with (first | (go_at_call 57; (with_reducible refine HC.out.mono ?_); rintro e w3 ⟨rfl, hb3⟩) | fail)
        have HX3 := Lib.hid (HX2.out.below hb3 HX2.out.lt)
        have HY3 := Lib.hid (HY2.out.below hb3 HY2.out.lt)
        have HM3 := Lib.hid (HM2.out.kept (row := none) (grown_below hb3) (by simp))
        have HG3 := Lib.hid (HG2.out.trans (Gr.below hb3))
        clear hb3 HX2 HY2 HM2 HG2 HC k0 k1
        have q1 : w3.cell? ⟨B, 1, none⟩ = some (.int .i64 n1) := HX3.out.cell 1
        have f1 := HX3.out.free 1
        go_upto_region 7 with fail
        obtain ⟨W4, hW4⟩ : ∃ W, w3.setCell ⟨B, 1, none⟩ (.int .i64 (↑n1 + 1)) = W := ⟨_, rfl⟩
        have hX4 : Blk W4 B #[.int .i64 0, .int .i64 (↑n1 + 1), .int .i64 n2] 205 := by rw [← hW4]; exact HX3.out.set 1 _
        have ho4 : Only B w3 W4 := by rw [← hW4]; exact (Only.refl B _).setCell (by rfl) _
        have hY4 : Blk W4 BD #[.string nm, .int .i64 n] 96 := HY3.out.only ho4 hne1
        have hM4 : OwnM W4 M i DM := ownsMap_only HM3.out ho4 hMB
        have hG4 : Gr (some M) (some M) w W4 := gr_only HG3.out ho4 (by have := HBE.out; omega)
        have r1 : W4.cell? ⟨B, 1, none⟩ = some (.int .i64 (↑n1 + 1)) := hX4.cell 1
        have k0 : W4.cell? ⟨BD, 0, none⟩ = some (.string nm) := hY4.cell 0
        have k1 : W4.cell? ⟨BD, 1, none⟩ = some (.int .i64 n) := hY4.cell 1
        obtain ⟨cn, hcn⟩ : ∃ c : Int, (n1 : Int) + 1 = c := ⟨_, rfl⟩
        rw [hW4, hcn]
        rw [hcn] at hX4 r1
        have HCN := Lib.hid (show (((n1 + 1 : Nat) : Int)) = cn by omega); clear hcn
        have HX4 := Lib.hid hX4; clear hX4
        have HM4 := Lib.hid hM4; clear hM4
        have HG4 := Lib.hid hG4; clear hG4
        clear q1 f1 ho4 hY4 hW4 HX3 HY3 HM3 HG3
        by_cases hz : c0 = 0
        · subst hz
          by_cases hs : 1024 < n
          · have ht : decide (1024 < n) = true := by simpa using hs
            have hpost : POST = (nm, 61) := HPA.out.trans (pick_61 hs)
            have HP := Lib.hid hpost; clear hpost HPA hs
            go_wp2_with (first | (at_lookup; (refine wpList_lookup_at _ rfl _ _ 159 rfl 9 3 .i64 law9 Tryz.underlying159 under_int (zeroI _) M i DM rfl HM4.out _ _ rfl HKEY.out _ HAT.out ?_)) | fail)
            try rw [Exit.noGoto_ret]
            go_ret2
            exact ⟨by rw [HP.out]; rfl, HG4.out.1, fun h => absurd h (by rw [HP.out]; simp)⟩
          · have ht : decide (1024 < n) = false := by simpa using hs
            by_cases hc : (32 : Int) < cn
            · have hu : decide ((32 : Int) < cn) = true := by simpa using hc
              have hpost : POST = (nm, 62) := (by have h := HPA.out; rw [show ((n1 : Int) + 1) = cn by have := HCN.out; omega] at h; exact h.trans (pick_62 hs hc))
              have HP := Lib.hid hpost; clear hpost HPA hs hc
              go_upto_region 11 with (first | (at_lookup; (refine wpList_lookup_at _ rfl _ _ 159 rfl 9 3 .i64 law9 Tryz.underlying159 under_int (zeroI _) M i DM rfl HM4.out _ _ rfl HKEY.out _ HAT.out ?_)) | fail)
              go_quiet ((go_at_call 132; exact Calls.quiet_of_same (most_one _)))
              all_goals
                go_wp2_with fail
                try rw [Exit.noGoto_ret]
                go_ret2
                exact ⟨by rw [HP.out]; rfl, (gr_drewN HG4.out _).1, fun h => absurd h (by rw [HP.out]; simp)⟩
            · have hu : decide ((32 : Int) < cn) = false := by simpa using hc
              have hpost : declW (ds.take (i + 1)) (ds.drop (i + 1)) = POST := (by have h := HPA.out; rw [show ((n1 : Int) + 1) = cn by have := HCN.out; omega] at h; exact (h.trans (pick_0 hs hc)).symm)
              have HP := Lib.hid hpost; clear hpost HPA hs hc
              have hix : i < maxLen := by omega
              go_upto_region 11 with (first | (at_lookup; (refine wpList_lookup_at _ rfl _ _ 159 rfl 9 3 .i64 law9 Tryz.underlying159 under_int (zeroI _) M i DM rfl HM4.out _ _ rfl HKEY.out _ HAT.out ?_)) | fail)
              go_quiet ((go_at_call 132; exact Calls.quiet_of_same (most_one _)))
              all_goals
                go_wp2_with (first | (at_mapUpdate; (refine wpList_mapUpdate_own _ rfl _ _ _ 159 rfl 9 3 law9 Tryz.underlying159 (plainElem Tryz.prog 3) M i DM rfl (ownM_drewN HM4.out _) hix _ _ _ rfl rfl HKEY.out _ [] (plainElem_int under_int (i64_small 1 (by decide))) ?_); (intro w5 hown5 hgrow5)) | fail)
                have HX5 := Lib.hid (blk_grown (show Blk (W4.drewN nq) B _ _ from HX4.out) hgrow5 (fun e => hMB (by simpa using e)))
                have HG5 := Lib.hid ((gr_drewN HG4.out nq).trans ⟨hgrow5, .inl rfl⟩)
                have HO5 := Lib.hid hown5
                clear hown5 hgrow5
                go_roundw
                case rel => exact ⟨i + 1, rfl, rfl, by go_num, by omega, HP.out, by rw [HMA.out]; exact HO5.out, by rw [HC1.out, HC2.out, HCN.out]; exact HX5.out, HG5.out⟩
                case measure => simp [intOf]; omega
        · have ht : (c0 != 0) = true := by simpa using hz
          have hpost : POST = (nm, 60) := HPA.out.trans (pick_60 hz)
          have HP := Lib.hid hpost; clear hpost HPA hz
          go_wp2_with (first | (at_lookup; (refine wpList_lookup_at _ rfl _ _ 159 rfl 9 3 .i64 law9 Tryz.underlying159 under_int (zeroI _) M i DM rfl HM4.out _ _ rfl HKEY.out _ HAT.out ?_)) | fail)
          try rw [Exit.noGoto_ret]
          go_ret2
          exact ⟨by rw [HP.out]; rfl, HG4.out.1, fun h => absurd h (by rw [HP.out]; simp)⟩
      · rw [hk] at hKind hma hpa
        simp only [hk] at hc1 hc2
        have hmo : mostK 2 = 16 := rfl
        rw [hmo, hn2] at hpa
        simp only [show ((2 : Int) == 2) = true from rfl, show ((2 : Int) == 1) = false from rfl, if_true, Bool.false_eq_true, if_false, Nat.add_zero] at hc1 hc2
        clear hmo hk hn1 hn2 hc0 hDM hKY
        obtain ⟨W2, hW2⟩ : ∃ W2, wr.alloc (.cells #[.string nm, .int .i64 n] 96) = W2 := ⟨_, rfl⟩
        obtain ⟨BD, hBD⟩ : ∃ x, wr.heap.size = x := ⟨_, rfl⟩
        have hX2 : Blk W2 B #[.int .i64 0, .int .i64 n1, .int .i64 n2] 205 := by rw [← hW2]; exact hXr.alloc _
        have hY2 : Blk W2 BD #[.string nm, .int .i64 n] 96 := by rw [← hW2, ← hBD]; exact Blk.new wr _ _
        have hM2 : OwnM W2 M i DM := by rw [← hW2]; exact hMr.alloc _
        have hG2 : Gr (some M) (some M) w W2 := by rw [← hW2]; exact HG.out.alloc _
        have hBlt : B < BD := by rw [← hBD]; exact hXr.lt
        have hMlt : M < BD := by rw [← hBD]; exact hMr.lt
        have hne1 : BD ≠ B := by omega
        have HC := Lib.hid (hKind W2)
        have HX2 := Lib.hid hX2; clear hX2 hXr
        have HY2 := Lib.hid hY2; clear hY2
        have HM2 := Lib.hid hM2; clear hM2 hMr
        have HG2 := Lib.hid hG2; clear hG2 HG
        have HW2 := Lib.hid hW2; clear hW2
        have HBD := Lib.hid hBD; clear hBD
        have HKEY := Lib.hid hkey; clear hkey
        have HAT := Lib.hid hat; clear hat
        have HMA := Lib.hid hma; clear hma
        have HC1 := Lib.hid hc1; clear hc1
        have HC2 := Lib.hid hc2; clear hc2
        have HPA := Lib.hid hpa; clear hpa hPr hKind
        go_upto_region 5 with fail
        rw [HW2.out, HBD.out]
        clear HW2 g0 g1
        have k0 : W2.cell? ⟨BD, 0, none⟩ = some (.string nm) := HY2.out.cell 0
        have k1 : W2.cell? ⟨BD, 1, none⟩ = some (.int .i64 n) := HY2.out.cell 1
        go_upto_region 6 with (first | (go_at_call 57; (with_reducible refine HC.out.mono ?_); rintro e w3 ⟨rfl, hb3⟩) | fail)
        have HX3 := Lib.hid (HX2.out.below hb3 HX2.out.lt)
        have HY3 := Lib.hid (HY2.out.below hb3 HY2.out.lt)
        have HM3 := Lib.hid (HM2.out.kept (row := none) (grown_below hb3) (by simp))
        have HG3 := Lib.hid (HG2.out.trans (Gr.below hb3))
        clear hb3 HX2 HY2 HM2 HG2 HC k0 k1
        have q2 : w3.cell? ⟨B, 2, none⟩ = some (.int .i64 n2) := HX3.out.cell 2
        have f2 := HX3.out.free 2
        go_upto_region 7 with fail
        obtain ⟨W4, hW4⟩ : ∃ W, w3.setCell ⟨B, 2, none⟩ (.int .i64 (↑n2 + 1)) = W := ⟨_, rfl⟩
        have hX4 : Blk W4 B #[.int .i64 0, .int .i64 n1, .int .i64 (↑n2 + 1)] 205 := by rw [← hW4]; exact HX3.out.set 2 _
        have ho4 : Only B w3 W4 := by rw [← hW4]; exact (Only.refl B _).setCell (by rfl) _
        have hY4 : Blk W4 BD #[.string nm, .int .i64 n] 96 := HY3.out.only ho4 hne1
        have hM4 : OwnM W4 M i DM := ownsMap_only HM3.out ho4 hMB
        have hG4 : Gr (some M) (some M) w W4 := gr_only HG3.out ho4 (by have := HBE.out; omega)
        have r2 : W4.cell? ⟨B, 2, none⟩ = some (.int .i64 (↑n2 + 1)) := hX4.cell 2
        have k0 : W4.cell? ⟨BD, 0, none⟩ = some (.string nm) := hY4.cell 0
        have k1 : W4.cell? ⟨BD, 1, none⟩ = some (.int .i64 n) := hY4.cell 1
        obtain ⟨cn, hcn⟩ : ∃ c : Int, (n2 : Int) + 1 = c := ⟨_, rfl⟩
        rw [hW4, hcn]
        rw [hcn] at hX4 r2
        have HCN := Lib.hid (show (((n2 + 1 : Nat) : Int)) = cn by omega); clear hcn
        have HX4 := Lib.hid hX4; clear hX4
        have HM4 := Lib.hid hM4; clear hM4
        have HG4 := Lib.hid hG4; clear hG4
        clear q2 f2 ho4 hY4 hW4 HX3 HY3 HM3 HG3
        by_cases hz : c0 = 0
        · subst hz
          by_cases hs : 1024 < n
          · have ht : decide (1024 < n) = true := by simpa using hs
            have hpost : POST = (nm, 61) := HPA.out.trans (pick_61 hs)
            have HP := Lib.hid hpost; clear hpost HPA hs
            go_wp2_with (first | (at_lookup; (refine wpList_lookup_at _ rfl _ _ 159 rfl 9 3 .i64 law9 Tryz.underlying159 under_int (zeroI _) M i DM rfl HM4.out _ _ rfl HKEY.out _ HAT.out ?_)) | fail)
            try rw [Exit.noGoto_ret]
            go_ret2
            exact ⟨by rw [HP.out]; rfl, HG4.out.1, fun h => absurd h (by rw [HP.out]; simp)⟩
          · have ht : decide (1024 < n) = false := by simpa using hs
            by_cases hc : (16 : Int) < cn
            · have hu : decide ((16 : Int) < cn) = true := by simpa using hc
              have hpost : POST = (nm, 62) := (by have h := HPA.out; rw [show ((n2 : Int) + 1) = cn by have := HCN.out; omega] at h; exact h.trans (pick_62 hs hc))
              have HP := Lib.hid hpost; clear hpost HPA hs hc
              go_upto_region 11 with (first | (at_lookup; (refine wpList_lookup_at _ rfl _ _ 159 rfl 9 3 .i64 law9 Tryz.underlying159 under_int (zeroI _) M i DM rfl HM4.out _ _ rfl HKEY.out _ HAT.out ?_)) | fail)
              go_quiet ((go_at_call 132; exact Calls.quiet_of_same (most_two _)))
              all_goals
                go_wp2_with fail
                try rw [Exit.noGoto_ret]
                go_ret2
                exact ⟨by rw [HP.out]; rfl, (gr_drewN HG4.out _).1, fun h => absurd h (by rw [HP.out]; simp)⟩
            · have hu : decide ((16 : Int) < cn) = false := by simpa using hc
              have hpost : declW (ds.take (i + 1)) (ds.drop (i + 1)) = POST := (by have h := HPA.out; rw [show ((n2 : Int) + 1) = cn by have := HCN.out; omega] at h; exact (h.trans (pick_0 hs hc)).symm)
              have HP := Lib.hid hpost; clear hpost HPA hs hc
              have hix : i < maxLen := by omega
              go_upto_region 11 with (first | (at_lookup; (refine wpList_lookup_at _ rfl _ _ 159 rfl 9 3 .i64 law9 Tryz.underlying159 under_int (zeroI _) M i DM rfl HM4.out _ _ rfl HKEY.out _ HAT.out ?_)) | fail)
              go_quiet ((go_at_call 132; exact Calls.quiet_of_same (most_two _)))
              all_goals
                go_wp2_with (first | (at_mapUpdate; (refine wpList_mapUpdate_own _ rfl _ _ _ 159 rfl 9 3 law9 Tryz.underlying159 (plainElem Tryz.prog 3) M i DM rfl (ownM_drewN HM4.out _) hix _ _ _ rfl rfl HKEY.out _ [] (plainElem_int under_int (i64_small 2 (by decide))) ?_); (intro w5 hown5 hgrow5)) | fail)
                have HX5 := Lib.hid (blk_grown (show Blk (W4.drewN nq) B _ _ from HX4.out) hgrow5 (fun e => hMB (by simpa using e)))
                have HG5 := Lib.hid ((gr_drewN HG4.out nq).trans ⟨hgrow5, .inl rfl⟩)
                have HO5 := Lib.hid hown5
                clear hown5 hgrow5
                go_roundw
                case rel => exact ⟨i + 1, rfl, rfl, by go_num, by omega, HP.out, by rw [HMA.out]; exact HO5.out, by rw [HC1.out, HC2.out, HCN.out]; exact HX5.out, HG5.out⟩
                case measure => simp [intOf]; omega
        · have ht : (c0 != 0) = true := by simpa using hz
          have hpost : POST = (nm, 60) := HPA.out.trans (pick_60 hz)
          have HP := Lib.hid hpost; clear hpost HPA hz
          go_wp2_with (first | (at_lookup; (refine wpList_lookup_at _ rfl _ _ 159 rfl 9 3 .i64 law9 Tryz.underlying159 under_int (zeroI _) M i DM rfl HM4.out _ _ rfl HKEY.out _ HAT.out ?_)) | fail)
          try rw [Exit.noGoto_ret]
          go_ret2
          exact ⟨by rw [HP.out]; rfl, HG4.out.1, fun h => absurd h (by rw [HP.out]; simp)⟩
    · obtain rfl : i = ds.length := by omega
      rw [List.take_length, List.drop_length, declW] at hPr
      rw [List.take_length] at hMr
      subst hPr
      have HMr := Lib.hid hMr; clear hMr hXr
      go_wp2_with fail
      try rw [Exit.noGoto_ret]
      go_ret2
      exact ⟨rfl, HG.out.1, fun _ => HMr.out⟩
end Go.Proofs.YtjpopelbdhgidaaGreatDoor
