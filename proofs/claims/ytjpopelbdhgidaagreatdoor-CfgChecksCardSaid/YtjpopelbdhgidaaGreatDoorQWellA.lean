/-
  The project's Arrays (package well): proved is what it tells of a program that lies in memory, in a list of its own, and that it turns nothing that lay.
-/
import Derived.Test.YtjpopelbdhgidaaGreatDoorQWellV
import Derived.Deep.RegionLaw

namespace Go.Proofs.YtjpopelbdhgidaaGreatDoor
open Go Go.RowKit Go.Maps

def cellsD (l : List Nd) : List Value := l.flatMap fun x => [.string (dNm x), .int .i64 (dSz x)]
theorem cellsD_snoc (l : List Nd) (x : Nd) : cellsD (l ++ [x]) = cellsD l ++ [.string (dNm x), .int .i64 (dSz x)] := by simp [cellsD]
theorem info_decl : (Tryz.prog.info? 96).map (fun i => (i.zero, i.size, i.bytes)) = some (some (.agg #[.string ⟨#[]⟩, .int .i64 0]), 2, 24) := by kernel_rfl
theorem decl_one (nm : ByteArray) (k : Int) : ∀ u ∈ ([.string nm, .int .i64 k] : List Value), u.oneCell' = true := kuse_one nm k

set_option maxRecDepth 100000 in
set_option maxHeartbeats 8000000 in
theorem warrs_any (ds ss : List Nd) (v0 v1 : Value) (w : World) (hd : SlIn w .D ds v0) (hs : SlIn w .S ss v1) :
    Calls Tryz.prog 28 #[.agg #[v0, v1]] w (ListTo w 96 2 (wellP ds ss).2 (if (wellP ds ss).2 = 0 then arrsL ds else []).length (cellsD (if (wellP ds ss).2 = 0 then arrsL ds else []))) := by
  have hfd := fit_list hd
  have hnd := noD_list hs
  have htc := fun w1 (hb : Below w.heap.size w w1) => wcheck_any ds ss v0 v1 w1 (hd.keep (keeps_below hb)) (hs.keep (keeps_below hb))
  have hnm := fun h => (nms_sz hfd hnd (wellP_ok (ds := ds) (ss := ss) h).1).1
  have hfew := fun h => names_few hfd hnd (fault_lim (wellP_ok (ds := ds) (ss := ss) h).1)
  unfold ListTo
  obtain ⟨⟨WN, WE⟩, hW⟩ : ∃ p, wellP ds ss = p := ⟨_, rfl⟩
  simp only [hW] at htc hnm hfew ⊢
  clear hW hnd
  obtain ⟨FIN, hFIN⟩ : ∃ l, (if WE = 0 then arrsL ds else []) = l := ⟨_, rfl⟩
  rw [hFIN]
  have HFIN := Lib.hid hFIN; clear hFIN
  have HNM := Lib.hid hnm; clear hnm
  have HFD := Lib.hid hfd; clear hfd
  obtain ⟨a0, c0, rfl, hlc0, hcm0, hrow0⟩ := hd
  obtain ⟨a1, c1, rfl, -⟩ := hs
  have HROW := Lib.hid hrow0; clear hrow0
  obtain ⟨W1, hW1⟩ : ∃ W1, w.alloc (.cells #[.slice a0 ds.length c0, .slice a1 ss.length c1] 25) = W1 := ⟨_, rfl⟩
  have hal : Below w.heap.size w W1 := by rw [← hW1]; exact (Below.refl _ w).alloc (Nat.le_refl _) _
  have hX1 : Blk W1 w.heap.size #[.slice a0 ds.length c0, .slice a1 ss.length c1] 25 := by rw [← hW1]; exact Blk.new w _ _
  have x0 : W1.cell? ⟨w.heap.size, 0, none⟩ = some (.slice a0 ds.length c0) := hX1.cell 0
  have y0 : W1.cell? ⟨w.heap.size, 1, none⟩ = some (.slice a1 ss.length c1) := hX1.cell 1
  have HT := Lib.hid (htc W1 hal); clear htc
  have HX1 := Lib.hid hX1; clear hX1
  have HAL := Lib.hid hal; clear hal
  have HW1 := Lib.hid hW1; clear hW1
  obtain ⟨i0, hi0, hz0, hz1, hz2⟩ := info_parts info_decl
  have HI0 := Lib.hid hi0; clear hi0
  have HZ0 := Lib.hid hz0; clear hz0
  have HZ1 := Lib.hid hz1; clear hz1
  have HZ2 := Lib.hid hz2; clear hz2
  go_enter Tryz.func28, Tryz.ntmps28
  go_upto_region 1 with fail
  rw [HW1.out]
  clear HW1
  by_cases hz : WE = 0
  · subst hz
    have hnm := HNM.out (by simp); clear HNM
    have hdl : ds.length ≤ 4096 := by have := hfew (by simp); omega
    clear hfew
    have HNM := Lib.hid hnm; clear hnm
    have hfin := HFIN.out; clear HFIN
    rw [if_pos rfl] at hfin
    have HFIN := Lib.hid hfin; clear hfin
    go_wp2_with (first | (go_at_call 56; (with_reducible refine HT.out.mono ?_); rintro e w2 ⟨rfl, hb2⟩; have HB2 := Lib.hid (below_next HAL.out hb2); have x2 := (HX1.out.below hb2 HX1.out.lt).cell 0; simp at x2; clear hb2) | fail)
    clear x0 y0 HT HX1 HAL x2
    go_loopw [6, 20] (fun y x wr => ∃ (v : Value) (i : Nat), v = y ∧ x = .int .i64 i ∧ i ≤ ds.length ∧ wr.ownsRow w.heap.size 96 2 v (arrsL (ds.take i)).length (cellsD (arrsL (ds.take i))) ∧ Below w.heap.size w wr) (fun _ x _ => ds.length - (intOf x).toNat)
    case atStart => exact ⟨.slice none 0 0, 0, rfl, rfl, by omega, by rw [List.take_zero]; exact World.ownsRow_nil _ _ _ _, HB2.out⟩
    case round =>
      obtain ⟨v, i, rfl, rfl, hi, hOr, hBr⟩ := hrel
      clear HB2
      have HO := Lib.hid hOr; clear hOr
      have HB := Lib.hid hBr; clear hBr
      by_cases hlt : i < ds.length
      · have hbi : (i : Int) + 1 ≤ 9223372036854775807 := by unfold maxLen at hcm0; omega
        have hxl : ¬ ds.length = 0 := by omega
        obtain ⟨b, o, rfl, hrow⟩ := HROW.out.resolve_left hxl
        obtain ⟨hty, u0, u1, m0, m1, hnd⟩ := SlIn.item2 rfl hrow i hlt
        have kk := keeps_below HB.out
        have g0 := kk _ _ _ m0
        have g1 := kk _ _ _ m1
        have hma := arrsL_take hlt
        have hle := arrsL_le ds i
        have hnx := HNM.out ds[i] (List.getElem_mem hlt)
        clear m0 m1 kk hrow
        obtain ⟨X, hX⟩ : ∃ X, ds[i] = X := ⟨_, rfl⟩
        rw [hX] at hnd hty hma hnx
        clear hX
        obtain ⟨ty, k, n, nm, xs, cs, ts, es⟩ := X
        simp only [Nd.ty] at hty
        subst hty
        unfold NdIn at hnd
        obtain ⟨-, -, -, -, vx, vc, vt, ve, hvs, -⟩ := hnd
        simp only [lay, List.cons.injEq, and_true] at hvs
        obtain ⟨rfl, rfl⟩ := hvs
        have hdn : dNm (.mk .D k n nm xs cs ts es) = nm := rfl
        have hds : dSz (.mk .D k n nm xs cs ts es) = n := rfl
        rw [hds] at hma
        simp only [ownNm] at hnx
        obtain ⟨LB, hLB⟩ : ∃ l, arrsL (ds.take i) = l := ⟨_, rfl⟩
        have hO := HO.out; clear HO
        rw [hLB] at hO hma hle
        clear hLB
        obtain ⟨W2, hW2⟩ : ∃ W2, wr.alloc (.cells #[.string nm, .int .i64 n] 96) = W2 := ⟨_, rfl⟩
        obtain ⟨BD, hBD⟩ : ∃ x, wr.heap.size = x := ⟨_, rfl⟩
        have hY2 : Blk W2 BD #[.string nm, .int .i64 n] 96 := by rw [← hW2, ← hBD]; exact Blk.new wr _ _
        have hO2 : W2.ownsRow w.heap.size 96 2 v LB.length (cellsD LB) := by rw [← hW2]; exact hO.alloc _
        have hB2 : Below w.heap.size w W2 := by rw [← hW2]; exact HB.out.alloc HB.out.size _
        have hvB : v.ownBlock ≠ some BD := fun e => by have := (hO.lt _ e).2; omega
        have hKind := kindOf_any nm n W2
        have HY2 := Lib.hid hY2; clear hY2
        have HO2 := Lib.hid hO2; clear hO2 hO
        have HB2 := Lib.hid hB2; clear hB2 HB
        have HW2 := Lib.hid hW2; clear hW2
        have HBD := Lib.hid hBD; clear hBD
        go_upto_region 8 with fail
        rw [HW2.out, HBD.out]
        clear HW2 g0 g1
        have k0 : W2.cell? ⟨BD, 0, none⟩ = some (.string nm) := HY2.out.cell 0
        have k1 : W2.cell? ⟨BD, 1, none⟩ = some (.int .i64 n) := HY2.out.cell 1
        have hl1 : LB.length + 1 ≤ maxLen := by unfold maxLen at *; omega
        by_cases hn : n = 0
        · subst hn
          rw [show kD 0 = 1 from rfl] at hKind
          simp only [show ((0 : Int) == 0) = true from rfl, if_true] at hma
          have HMA := Lib.hid hma; clear hma hds
          have HK := Lib.hid hKind; clear hKind
          go_wp2_with (first | (go_at_call 57; (with_reducible refine HK.out.mono ?_); rintro e w3 ⟨rfl, hb3⟩; have HO3 := Lib.hid (ownsRow_below HO2.out hb3); have HB3 := Lib.hid (below_next HB2.out hb3); have hY3 := HY2.out.below hb3 HY2.out.lt; have r0 := hY3.cell 0; have r1 := hY3.cell 1; simp at r0 r1; have HY3 := Lib.hid hY3; clear hb3 hY3) | fail)
          go_roundw
          case rel => exact ⟨v, i + 1, rfl, by go_num, by omega, by rw [HMA.out, List.append_nil]; exact HO3.out, HB3.out⟩
          case measure => simp [intOf]; omega
        · have hk2 : kD n = 2 := by unfold kD; rw [if_neg hn]
          rw [hk2] at hKind
          simp only [show (n == 0) = false by simpa using hn, Bool.false_eq_true, if_false] at hma
          have HMA := Lib.hid hma; clear hma hk2 hn hds
          have HK := Lib.hid hKind; clear hKind
          go_upto_region 9 with (first | (go_at_call 57; (with_reducible refine HK.out.mono ?_); rintro e w3 ⟨rfl, hb3⟩; have HO3 := Lib.hid (ownsRow_below HO2.out hb3); have HB3 := Lib.hid (below_next HB2.out hb3); have hY3 := HY2.out.below hb3 HY2.out.lt; have r0 := hY3.cell 0; have r1 := hY3.cell 1; simp at r0 r1; have HY3 := Lib.hid hY3; clear hb3 hY3) | fail)
          have hlw : w.heap.size ≤ w3.heap.size := HB3.out.size
          have hdn2 : ∀ k, dNm (.mk .D k n nm xs cs ts es) = nm := fun _ => rfl
          have hds2 : ∀ k, dSz (.mk .D k n nm xs cs ts es) = n := fun _ => rfl
          go_region_law
            (first | (refine step_append_lies _ (by rfl) _ _ _ (by rfl) w.heap.size 96 i0 _ 2 24 Tryz.underlying22 HI0.out HZ0.out HZ1.out HZ2.out rfl (by omega) v LB.length (cellsD LB) (by rfl) ((ownsRow_below HO3.out.drew hb4).alloc _) ⟨w4.heap.size, 0, none⟩ 1 1 [.string nm, .int .i64 n] (by rfl) (by rfl) (World.news_of_block (cs := #[.string nm, .int .i64 n]) (t := 96) (fr := (0, 0)) (heap_alloc_new w4 _)) (decl_one _ _) (by omega) hl1 (by omega) (by have := hb4.size; simp at this ⊢; omega) (w4.heap.size + 1) (by simp) ?_; intro gg cap w7 hown7 hgrow7 hat hlt7) | (go_simp; go_at_call 58; (with_reducible refine (clone_w _ _ hnx).mono ?_); rintro e w4 ⟨rfl, hb4⟩; have s1 : w4.cell? ⟨BD, 1, none⟩ = some (.int .i64 n) := ((show Blk w3.drew BD _ _ from HY3.out).below hb4 (show Blk w3.drew BD _ _ from HY3.out).lt).cell 1))
          all_goals
            have HB7 := Lib.hid (below_grown ((below_next HB3.out.drew hb4).alloc (below_next HB3.out.drew hb4).size (.cells #[.string nm, .int .i64 n] 96)) (by have := hb4.size; simp at this ⊢; omega) hgrow7 (fun r hr => (HO3.out.lt r hr).1))
            have HO7 := Lib.hid hown7
            clear hgrow7 hown7 hat
            go_wp2_with fail
            go_roundw
            case rel => exact ⟨_, i + 1, rfl, by go_num, by omega, by rw [HMA.out, List.length_append]; exact (by rw [cellsD_snoc, hdn2, hds2]; exact HO7.out), HB7.out⟩
            case measure => simp [intOf]; omega
      · obtain rfl : i = ds.length := by omega
        have h0 := HO.out
        rw [List.take_length, HFIN.out] at h0
        have HO7 := Lib.hid h0; clear h0
        go_wp2_with fail
        go_ret2
        exact ⟨v, rfl, HO7.out, HB.out⟩
  · have hz1 : (WE != 0) = true := by simpa using hz
    have hfin := HFIN.out; clear HFIN HNM
    rw [if_neg hz] at hfin
    subst hfin
    clear hz hfew
    go_wp2_with (first | (go_at_call 56; (with_reducible refine HT.out.mono ?_); rintro e w2 ⟨rfl, hb2⟩; have HB2 := Lib.hid (below_next HAL.out hb2); clear hb2) | fail)
    go_ret2
    exact ⟨_, rfl, World.ownsRow_nil _ _ _ _, HB2.out⟩
end Go.Proofs.YtjpopelbdhgidaaGreatDoor
