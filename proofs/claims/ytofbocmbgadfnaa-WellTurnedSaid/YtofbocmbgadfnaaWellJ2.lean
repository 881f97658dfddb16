/-
  Plain: what makes a program a tree and well, part by part: a part of the body, and the declarations the other way round, change nothing of it.
-/
import Derived.Test.YtofbocmbgadfnaaWellJ1
import Derived.Deep.RegionLaw
import Derived.Test.YtofbocmbgadfnaaThru
/-
  The project's Vars (package well): proved is what it tells of a program that lies in memory, in a list of its own, and that it turns nothing that lay.
-/
namespace Go.Proofs.Ytofbocmbgadfnaa
open Go Go.RowKit Go.Maps

def varsL (l : List Nd) : List ByteArray := (l.filter (fun x => dSz x == 0)).map dNm
def arrsL (l : List Nd) : List Nd := l.filter (fun x => !(dSz x == 0))
theorem varsL_take {l : List Nd} {i : Nat} (hi : i < l.length) : varsL (l.take (i + 1)) = varsL (l.take i) ++ (if dSz l[i] == 0 then [dNm l[i]] else []) := by
  unfold varsL
  rw [← List.take_append_getElem hi, List.filter_append, List.map_append]
  congr 1
  cases h : (dSz l[i] == 0) <;> simp [h]
theorem arrsL_take {l : List Nd} {i : Nat} (hi : i < l.length) : arrsL (l.take (i + 1)) = arrsL (l.take i) ++ (if dSz l[i] == 0 then [] else [l[i]]) := by
  unfold arrsL
  rw [← List.take_append_getElem hi, List.filter_append]
  congr 1
  cases h : (dSz l[i] == 0) <;> simp [h]
theorem varsL_le (l : List Nd) (i : Nat) : (varsL (l.take i)).length ≤ i := by
  unfold varsL
  rw [List.length_map]
  have := List.length_filter_le (fun x => dSz x == 0) (l.take i)
  rw [List.length_take] at this
  omega
theorem arrsL_le (l : List Nd) (i : Nat) : (arrsL (l.take i)).length ≤ i := by
  unfold arrsL
  have := List.length_filter_le (fun x => !(dSz x == 0)) (l.take i)
  rw [List.length_take] at this
  omega
theorem wellP_ok {ds ss : List Nd} (h : (wellP ds ss).2 = 0) : faultT (progT ds ss) = 0 ∧ (declW [] ds).2 = 0 ∧ (badU (lookL ds) (usesL ss)).2 = 0 := by
  unfold wellP at h
  split at h
  · rename_i h1
    exact absurd h h1
  · rename_i h1
    split at h
    · rename_i h2
      exact absurd h h2
    · rename_i h2
      exact ⟨by simpa using h1, by simpa using h2, h⟩
/-- What Vars and Arrays tell. -/
def ListTo (w : World) (t : TypeId) (k : Nat) (f : Int) (n : Nat) (cs : List Value) : Ending → World → Prop := fun e w' => ∃ v', e = .returned (.tuple #[v', .int .i64 f]) ∧ w'.ownsRow w.heap.size t k v' n cs ∧ Below w.heap.size w w'

set_option maxRecDepth 100000 in
set_option maxHeartbeats 8000000 in
theorem wvars_any (ds ss : List Nd) (v0 v1 : Value) (w : World) (hd : SlIn w .D ds v0) (hs : SlIn w .S ss v1) :
    Calls Try.prog 9 #[.agg #[v0, v1]] w (ListTo w 9 1 (wellP ds ss).2 (if (wellP ds ss).2 = 0 then varsL ds else []).length (cellsT (if (wellP ds ss).2 = 0 then varsL ds else []))) := by
  have hfd := fit_list hd
  have hnd := noD_list hs
  have htc := fun w1 (hb : Below w.heap.size w w1) => wcheck_any ds ss v0 v1 w1 (hd.keep (keeps_below hb)) (hs.keep (keeps_below hb))
  have hnm := fun h => (nms_sz hfd hnd (wellP_ok (ds := ds) (ss := ss) h).1).1
  have hfew := fun h => names_few hfd hnd (fault_lim (wellP_ok (ds := ds) (ss := ss) h).1)
  unfold ListTo
  obtain ⟨⟨WN, WE⟩, hW⟩ : ∃ p, wellP ds ss = p := ⟨_, rfl⟩
  simp only [hW] at htc hnm hfew ⊢
  clear hW hnd
  obtain ⟨FIN, hFIN⟩ : ∃ l, (if WE = 0 then varsL ds else []) = l := ⟨_, rfl⟩
  rw [hFIN]
  have HFIN := Lib.hid hFIN; clear hFIN
  have HNM := Lib.hid hnm; clear hnm
  have HFD := Lib.hid hfd; clear hfd
  obtain ⟨a0, c0, rfl, hlc0, hcm0, hrow0⟩ := hd
  obtain ⟨a1, c1, rfl, -⟩ := hs
  have HROW := Lib.hid hrow0; clear hrow0
  obtain ⟨W1, hW1⟩ : ∃ W1, w.alloc (.cells #[.slice a0 ds.length c0, .slice a1 ss.length c1] 25) = W1 := ⟨_, rfl⟩
  have hal : Below w.heap.size w W1 := by rw [← hW1]; exact (Below.refl _ w).alloc (Nat.le_refl _) _
  have hX1 : Blk W1 w.heap.size #[.slice a0 ds.length c0, .slice a1 ss.length c1] 25 := by rw [← hW1]; exact Blk.new w _ _
  have x0 : W1.cell? ⟨w.heap.size, 0, none⟩ = some (.slice a0 ds.length c0) := hX1.cell 0
  have y0 : W1.cell? ⟨w.heap.size, 1, none⟩ = some (.slice a1 ss.length c1) := hX1.cell 1
  have HT := Lib.hid (htc W1 hal); clear htc
  have HX1 := Lib.hid hX1; clear hX1
  have HAL := Lib.hid hal; clear hal
  have HW1 := Lib.hid hW1; clear hW1
  obtain ⟨i0, hi0, hz0, hz1, hz2⟩ := info_parts info_str
  have HI0 := Lib.hid hi0; clear hi0
  have HZ0 := Lib.hid hz0; clear hz0
  have HZ1 := Lib.hid hz1; clear hz1
  have HZ2 := Lib.hid hz2; clear hz2
  go_enter Try.func9, Try.ntmps9
  go_upto_region 1 with fail
  rw [HW1.out]
  clear HW1
  by_cases hz : WE = 0
  · subst hz
    have hnm := HNM.out (by simp); clear HNM
    have hdl : ds.length ≤ 4096 := by have := hfew (by simp); omega
    clear hfew
    have HNM := Lib.hid hnm; clear hnm
    have hfin := HFIN.out; clear HFIN
    rw [if_pos rfl] at hfin
    have HFIN := Lib.hid hfin; clear hfin
    go_wp2_with (first | (go_at_call 7; (with_reducible refine HT.out.mono ?_); rintro e w2 ⟨rfl, hb2⟩; have HB2 := Lib.hid (below_next HAL.out hb2); have x2 := (HX1.out.below hb2 HX1.out.lt).cell 0; simp at x2; clear hb2) | fail)
    clear x0 y0 HT HX1 HAL x2
    go_loopw [6, 20] (fun y x wr => ∃ (v : Value) (i : Nat), v = y ∧ x = .int .i64 i ∧ i ≤ ds.length ∧ wr.ownsRow w.heap.size 9 1 v (varsL (ds.take i)).length (cellsT (varsL (ds.take i))) ∧ Below w.heap.size w wr) (fun _ x _ => ds.length - (intOf x).toNat)
    case atStart => exact ⟨.slice none 0 0, 0, rfl, rfl, by omega, by rw [List.take_zero]; exact World.ownsRow_nil _ _ _ _, HB2.out⟩
    case round =>
      obtain ⟨v, i, rfl, rfl, hi, hOr, hBr⟩ := hrel
      clear HB2
      have HO := Lib.hid hOr; clear hOr
      have HB := Lib.hid hBr; clear hBr
      by_cases hlt : i < ds.length
      · have hbi : (i : Int) + 1 ≤ 9223372036854775807 := by unfold maxLen at hcm0; omega
        have hxl : ¬ ds.length = 0 := by omega
        obtain ⟨b, o, rfl, hrow⟩ := HROW.out.resolve_left hxl
        obtain ⟨hty, u0, u1, m0, m1, hnd⟩ := SlIn.item2 rfl hrow i hlt
        have kk := keeps_below HB.out
        have g0 := kk _ _ _ m0
        have g1 := kk _ _ _ m1
        have hma := varsL_take hlt
        have hle := varsL_le ds i
        have hnx := HNM.out ds[i] (List.getElem_mem hlt)
        clear m0 m1 kk hrow
        obtain ⟨X, hX⟩ : ∃ X, ds[i] = X := ⟨_, rfl⟩
        rw [hX] at hnd hty hma hnx
        clear hX
        obtain ⟨ty, k, n, nm, xs, cs, ts, es⟩ := X
        simp only [Nd.ty] at hty
        subst hty
        unfold NdIn at hnd
        obtain ⟨-, -, -, -, vx, vc, vt, ve, hvs, -⟩ := hnd
        simp only [lay, List.cons.injEq, and_true] at hvs
        obtain ⟨rfl, rfl⟩ := hvs
        have hdn : dNm (.mk .D k n nm xs cs ts es) = nm := rfl
        have hds : dSz (.mk .D k n nm xs cs ts es) = n := rfl
        rw [hds] at hma
        simp only [ownNm] at hnx
        obtain ⟨LB, hLB⟩ : ∃ l, varsL (ds.take i) = l := ⟨_, rfl⟩
        have hO := HO.out; clear HO
        rw [hLB] at hO hma hle
        clear hLB
        obtain ⟨W2, hW2⟩ : ∃ W2, wr.alloc (.cells #[.string nm, .int .i64 n] 44) = W2 := ⟨_, rfl⟩
        obtain ⟨BD, hBD⟩ : ∃ x, wr.heap.size = x := ⟨_, rfl⟩
        have hY2 : Blk W2 BD #[.string nm, .int .i64 n] 44 := by rw [← hW2, ← hBD]; exact Blk.new wr _ _
        have hO2 : W2.ownsRow w.heap.size 9 1 v LB.length (cellsT LB) := by rw [← hW2]; exact hO.alloc _
        have hB2 : Below w.heap.size w W2 := by rw [← hW2]; exact HB.out.alloc HB.out.size _
        have hvB : v.ownBlock ≠ some BD := fun e => by have := (hO.lt _ e).2; omega
        have hKind := kindOf_any nm n W2
        have HY2 := Lib.hid hY2; clear hY2
        have HO2 := Lib.hid hO2; clear hO2 hO
        have HB2 := Lib.hid hB2; clear hB2 HB
        have HW2 := Lib.hid hW2; clear hW2
        have HBD := Lib.hid hBD; clear hBD
        go_upto_region 8 with fail
        rw [HW2.out, HBD.out]
        clear HW2 g0 g1
        have k0 : W2.cell? ⟨BD, 0, none⟩ = some (.string nm) := HY2.out.cell 0
        have k1 : W2.cell? ⟨BD, 1, none⟩ = some (.int .i64 n) := HY2.out.cell 1
        have hl1 : LB.length + 1 ≤ maxLen := by unfold maxLen at *; omega
        by_cases hn : n = 0
        · subst hn
          rw [show kD 0 = 1 from rfl] at hKind
          simp only [show ((0 : Int) == 0) = true from rfl, if_true] at hma
          rw [hdn] at hma
          have HMA := Lib.hid hma; clear hma hds
          have HK := Lib.hid hKind; clear hKind
          go_wp2_with (first | (go_at_call 22; (with_reducible refine HK.out.mono ?_); rintro e w3 ⟨rfl, hb3⟩; have HO3 := Lib.hid (ownsRow_below HO2.out hb3); have HB3 := Lib.hid (below_next HB2.out hb3); have hY3 := HY2.out.below hb3 HY2.out.lt; have r0 := hY3.cell 0; have r1 := hY3.cell 1; simp at r0 r1; have HY3 := Lib.hid hY3; clear hb3 hY3) | (go_at_call 18; (with_reducible refine (clone_w _ _ hnx).mono ?_); rintro e w4 ⟨rfl, hb4⟩; have HO4 := Lib.hid (ownsRow_below HO3.out hb4); have HB4 := Lib.hid (below_next HB3.out hb4); have HNW := Lib.hid (news_str w4 nm _ rfl); have HSZ := Lib.hid (show w.heap.size ≤ (w4.alloc (.cells #[.string nm] 9)).heap.size by have := HB4.out.size; simp; omega); clear hb4) | (at_builtin; (with_reducible refine wpList_append_lies _ rfl (.tmp 27) (.tmp 31) 32 rfl w.heap.size 9 i0 _ 1 16 Try.underlying32 HI0.out HZ0.out HZ1.out HZ2.out rfl (by omega) v LB.length (cellsT LB) rfl (HO4.out.alloc _) ⟨_, 0, none⟩ 1 1 [.string nm] rfl rfl HNW.out (str_one _) (by omega) hl1 (by omega) HSZ.out _ rfl ?_); (intro gg cap w7 hown7 hgrow7 hat hlt7)) | fail)
          have HB7 := Lib.hid (below_grown (HB4.out.alloc HB4.out.size (.cells #[.string nm] 9)) (by have := HB4.out.size; simp; omega) hgrow7 (fun r hr => (HO4.out.lt r hr).1))
          have HO7 := Lib.hid hown7
          clear hgrow7 hown7 hat
          go_roundw
          case rel => exact ⟨_, i + 1, rfl, by go_num, by omega, by rw [HMA.out]; simpa [cellsT] using HO7.out, HB7.out⟩
          case measure => simp [intOf]; omega
        · have hk2 : kD n = 2 := by unfold kD; rw [if_neg hn]
          rw [hk2] at hKind
          simp only [show (n == 0) = false by simpa using hn, Bool.false_eq_true, if_false] at hma
          have HMA := Lib.hid hma; clear hma hk2 hn hds
          have HK := Lib.hid hKind; clear hKind
          go_wp2_with (first | (go_at_call 22; (with_reducible refine HK.out.mono ?_); rintro e w3 ⟨rfl, hb3⟩; have HO3 := Lib.hid (ownsRow_below HO2.out hb3); have HB3 := Lib.hid (below_next HB2.out hb3); have hY3 := HY2.out.below hb3 HY2.out.lt; have r0 := hY3.cell 0; have r1 := hY3.cell 1; simp at r0 r1; have HY3 := Lib.hid hY3; clear hb3 hY3) | fail)
          go_roundw
          case rel => exact ⟨v, i + 1, rfl, by go_num, by omega, by rw [HMA.out, List.append_nil]; exact HO3.out, HB3.out⟩
          case measure => simp [intOf]; omega
      · obtain rfl : i = ds.length := by omega
        have h0 := HO.out
        rw [List.take_length, HFIN.out] at h0
        have HO7 := Lib.hid h0; clear h0
        go_wp2_with fail
        go_ret2
        exact ⟨v, rfl, HO7.out, HB.out⟩
  · have hz1 : (WE != 0) = true := by simpa using hz
    have hfin := HFIN.out; clear HFIN HNM
    rw [if_neg hz] at hfin
    subst hfin
    clear hz hfew
    go_wp2_with (first | (go_at_call 7; (with_reducible refine HT.out.mono ?_); rintro e w2 ⟨rfl, hb2⟩; have HB2 := Lib.hid (below_next HAL.out hb2); clear hb2) | fail)
    go_ret2
    exact ⟨_, rfl, World.ownsRow_nil _ _ _ _, HB2.out⟩
end Go.Proofs.Ytofbocmbgadfnaa

/-
  The project's Arrays (package well): proved is what it tells of a program that lies in memory, in a list of its own, and that it turns nothing that lay.
-/
namespace Go.Proofs.Ytofbocmbgadfnaa
open Go Go.RowKit Go.Maps

def cellsD (l : List Nd) : List Value := l.flatMap fun x => [.string (dNm x), .int .i64 (dSz x)]
theorem cellsD_snoc (l : List Nd) (x : Nd) : cellsD (l ++ [x]) = cellsD l ++ [.string (dNm x), .int .i64 (dSz x)] := by simp [cellsD]
theorem info_decl : (Try.prog.info? 44).map (fun i => (i.zero, i.size, i.bytes)) = some (some (.agg #[.string ⟨#[]⟩, .int .i64 0]), 2, 24) := by kernel_rfl
theorem decl_one (nm : ByteArray) (k : Int) : ∀ u ∈ ([.string nm, .int .i64 k] : List Value), u.oneCell' = true := kuse_one nm k

set_option maxRecDepth 100000 in
set_option maxHeartbeats 8000000 in
theorem warrs_any (ds ss : List Nd) (v0 v1 : Value) (w : World) (hd : SlIn w .D ds v0) (hs : SlIn w .S ss v1) :
    Calls Try.prog 10 #[.agg #[v0, v1]] w (ListTo w 44 2 (wellP ds ss).2 (if (wellP ds ss).2 = 0 then arrsL ds else []).length (cellsD (if (wellP ds ss).2 = 0 then arrsL ds else []))) := by
  have hfd := fit_list hd
  have hnd := noD_list hs
  have htc := fun w1 (hb : Below w.heap.size w w1) => wcheck_any ds ss v0 v1 w1 (hd.keep (keeps_below hb)) (hs.keep (keeps_below hb))
  have hnm := fun h => (nms_sz hfd hnd (wellP_ok (ds := ds) (ss := ss) h).1).1
  have hfew := fun h => names_few hfd hnd (fault_lim (wellP_ok (ds := ds) (ss := ss) h).1)
  unfold ListTo
  obtain ⟨⟨WN, WE⟩, hW⟩ : ∃ p, wellP ds ss = p := ⟨_, rfl⟩
  simp only [hW] at htc hnm hfew ⊢
  clear hW hnd
  obtain ⟨FIN, hFIN⟩ : ∃ l, (if WE = 0 then arrsL ds else []) = l := ⟨_, rfl⟩
  rw [hFIN]
  have HFIN := Lib.hid hFIN; clear hFIN
  have HNM := Lib.hid hnm; clear hnm
  have HFD := Lib.hid hfd; clear hfd
  obtain ⟨a0, c0, rfl, hlc0, hcm0, hrow0⟩ := hd
  obtain ⟨a1, c1, rfl, -⟩ := hs
  have HROW := Lib.hid hrow0; clear hrow0
  obtain ⟨W1, hW1⟩ : ∃ W1, w.alloc (.cells #[.slice a0 ds.length c0, .slice a1 ss.length c1] 25) = W1 := ⟨_, rfl⟩
  have hal : Below w.heap.size w W1 := by rw [← hW1]; exact (Below.refl _ w).alloc (Nat.le_refl _) _
  have hX1 : Blk W1 w.heap.size #[.slice a0 ds.length c0, .slice a1 ss.length c1] 25 := by rw [← hW1]; exact Blk.new w _ _
  have x0 : W1.cell? ⟨w.heap.size, 0, none⟩ = some (.slice a0 ds.length c0) := hX1.cell 0
  have y0 : W1.cell? ⟨w.heap.size, 1, none⟩ = some (.slice a1 ss.length c1) := hX1.cell 1
  have HT := Lib.hid (htc W1 hal); clear htc
  have HX1 := Lib.hid hX1; clear hX1
  have HAL := Lib.hid hal; clear hal
  have HW1 := Lib.hid hW1; clear hW1
  obtain ⟨i0, hi0, hz0, hz1, hz2⟩ := info_parts info_decl
  have HI0 := Lib.hid hi0; clear hi0
  have HZ0 := Lib.hid hz0; clear hz0
  have HZ1 := Lib.hid hz1; clear hz1
  have HZ2 := Lib.hid hz2; clear hz2
  go_enter Try.func10, Try.ntmps10
  go_upto_region 1 with fail
  rw [HW1.out]
  clear HW1
  by_cases hz : WE = 0
  · subst hz
    have hnm := HNM.out (by simp); clear HNM
    have hdl : ds.length ≤ 4096 := by have := hfew (by simp); omega
    clear hfew
    have HNM := Lib.hid hnm; clear hnm
    have hfin := HFIN.out; clear HFIN
    rw [if_pos rfl] at hfin
    have HFIN := Lib.hid hfin; clear hfin
    go_wp2_with (first | (go_at_call 7; (with_reducible refine HT.out.mono ?_); rintro e w2 ⟨rfl, hb2⟩; have HB2 := Lib.hid (below_next HAL.out hb2); have x2 := (HX1.out.below hb2 HX1.out.lt).cell 0; simp at x2; clear hb2) | fail)
    clear x0 y0 HT HX1 HAL x2
    go_loopw [6, 20] (fun y x wr => ∃ (v : Value) (i : Nat), v = y ∧ x = .int .i64 i ∧ i ≤ ds.length ∧ wr.ownsRow w.heap.size 44 2 v (arrsL (ds.take i)).length (cellsD (arrsL (ds.take i))) ∧ Below w.heap.size w wr) (fun _ x _ => ds.length - (intOf x).toNat)
    case atStart => exact ⟨.slice none 0 0, 0, rfl, rfl, by omega, by rw [List.take_zero]; exact World.ownsRow_nil _ _ _ _, HB2.out⟩
    case round =>
      obtain ⟨v, i, rfl, rfl, hi, hOr, hBr⟩ := hrel
      clear HB2
      have HO := Lib.hid hOr; clear hOr
      have HB := Lib.hid hBr; clear hBr
      by_cases hlt : i < ds.length
      · have hbi : (i : Int) + 1 ≤ 9223372036854775807 := by unfold maxLen at hcm0; omega
        have hxl : ¬ ds.length = 0 := by omega
        obtain ⟨b, o, rfl, hrow⟩ := HROW.out.resolve_left hxl
        obtain ⟨hty, u0, u1, m0, m1, hnd⟩ := SlIn.item2 rfl hrow i hlt
        have kk := keeps_below HB.out
        have g0 := kk _ _ _ m0
        have g1 := kk _ _ _ m1
        have hma := arrsL_take hlt
        have hle := arrsL_le ds i
        have hnx := HNM.out ds[i] (List.getElem_mem hlt)
        clear m0 m1 kk hrow
        obtain ⟨X, hX⟩ : ∃ X, ds[i] = X := ⟨_, rfl⟩
        rw [hX] at hnd hty hma hnx
        clear hX
        obtain ⟨ty, k, n, nm, xs, cs, ts, es⟩ := X
        simp only [Nd.ty] at hty
        subst hty
        unfold NdIn at hnd
        obtain ⟨-, -, -, -, vx, vc, vt, ve, hvs, -⟩ := hnd
        simp only [lay, List.cons.injEq, and_true] at hvs
        obtain ⟨rfl, rfl⟩ := hvs
        have hdn : dNm (.mk .D k n nm xs cs ts es) = nm := rfl
        have hds : dSz (.mk .D k n nm xs cs ts es) = n := rfl
        rw [hds] at hma
        simp only [ownNm] at hnx
        obtain ⟨LB, hLB⟩ : ∃ l, arrsL (ds.take i) = l := ⟨_, rfl⟩
        have hO := HO.out; clear HO
        rw [hLB] at hO hma hle
        clear hLB
        obtain ⟨W2, hW2⟩ : ∃ W2, wr.alloc (.cells #[.string nm, .int .i64 n] 44) = W2 := ⟨_, rfl⟩
        obtain ⟨BD, hBD⟩ : ∃ x, wr.heap.size = x := ⟨_, rfl⟩
        have hY2 : Blk W2 BD #[.string nm, .int .i64 n] 44 := by rw [← hW2, ← hBD]; exact Blk.new wr _ _
        have hO2 : W2.ownsRow w.heap.size 44 2 v LB.length (cellsD LB) := by rw [← hW2]; exact hO.alloc _
        have hB2 : Below w.heap.size w W2 := by rw [← hW2]; exact HB.out.alloc HB.out.size _
        have hvB : v.ownBlock ≠ some BD := fun e => by have := (hO.lt _ e).2; omega
        have hKind := kindOf_any nm n W2
        have HY2 := Lib.hid hY2; clear hY2
        have HO2 := Lib.hid hO2; clear hO2 hO
        have HB2 := Lib.hid hB2; clear hB2 HB
        have HW2 := Lib.hid hW2; clear hW2
        have HBD := Lib.hid hBD; clear hBD
        go_upto_region 8 with fail
        rw [HW2.out, HBD.out]
        clear HW2 g0 g1
        have k0 : W2.cell? ⟨BD, 0, none⟩ = some (.string nm) := HY2.out.cell 0
        have k1 : W2.cell? ⟨BD, 1, none⟩ = some (.int .i64 n) := HY2.out.cell 1
        have hl1 : LB.length + 1 ≤ maxLen := by unfold maxLen at *; omega
        by_cases hn : n = 0
        · subst hn
          rw [show kD 0 = 1 from rfl] at hKind
          simp only [show ((0 : Int) == 0) = true from rfl, if_true] at hma
          have HMA := Lib.hid hma; clear hma hds
          have HK := Lib.hid hKind; clear hKind
          go_wp2_with (first | (go_at_call 22; (with_reducible refine HK.out.mono ?_); rintro e w3 ⟨rfl, hb3⟩; have HO3 := Lib.hid (ownsRow_below HO2.out hb3); have HB3 := Lib.hid (below_next HB2.out hb3); have hY3 := HY2.out.below hb3 HY2.out.lt; have r0 := hY3.cell 0; have r1 := hY3.cell 1; simp at r0 r1; have HY3 := Lib.hid hY3; clear hb3 hY3) | fail)
          go_roundw
          case rel => exact ⟨v, i + 1, rfl, by go_num, by omega, by rw [HMA.out, List.append_nil]; exact HO3.out, HB3.out⟩
          case measure => simp [intOf]; omega
        · have hk2 : kD n = 2 := by unfold kD; rw [if_neg hn]
          rw [hk2] at hKind
          simp only [show (n == 0) = false by simpa using hn, Bool.false_eq_true, if_false] at hma
          have HMA := Lib.hid hma; clear hma hk2 hn hds
          have HK := Lib.hid hKind; clear hKind
          go_upto_region 9 with (first | (go_at_call 22; (with_reducible refine HK.out.mono ?_); rintro e w3 ⟨rfl, hb3⟩; have HO3 := Lib.hid (ownsRow_below HO2.out hb3); have HB3 := Lib.hid (below_next HB2.out hb3); have hY3 := HY2.out.below hb3 HY2.out.lt; have r0 := hY3.cell 0; have r1 := hY3.cell 1; simp at r0 r1; have HY3 := Lib.hid hY3; clear hb3 hY3) | fail)
          have hlw : w.heap.size ≤ w3.heap.size := HB3.out.size
          have hdn2 : ∀ k, dNm (.mk .D k n nm xs cs ts es) = nm := fun _ => rfl
          have hds2 : ∀ k, dSz (.mk .D k n nm xs cs ts es) = n := fun _ => rfl
          go_region_law
            (first | (refine step_append_lies _ (by rfl) _ _ _ (by rfl) w.heap.size 44 i0 _ 2 24 Try.underlying22 HI0.out HZ0.out HZ1.out HZ2.out rfl (by omega) v LB.length (cellsD LB) (by rfl) ((ownsRow_below HO3.out.drew hb4).alloc _) ⟨w4.heap.size, 0, none⟩ 1 1 [.string nm, .int .i64 n] (by rfl) (by rfl) (World.news_of_block (cs := #[.string nm, .int .i64 n]) (t := 44) (fr := (0, 0)) (heap_alloc_new w4 _)) (decl_one _ _) (by omega) hl1 (by omega) (by have := hb4.size; simp at this ⊢; omega) (w4.heap.size + 1) (by simp) ?_; intro gg cap w7 hown7 hgrow7 hat hlt7) | (go_simp; go_at_call 18; (with_reducible refine (clone_w _ _ hnx).mono ?_); rintro e w4 ⟨rfl, hb4⟩; have s1 : w4.cell? ⟨BD, 1, none⟩ = some (.int .i64 n) := ((show Blk w3.drew BD _ _ from HY3.out).below hb4 (show Blk w3.drew BD _ _ from HY3.out).lt).cell 1))
          all_goals
            have HB7 := Lib.hid (below_grown ((below_next HB3.out.drew hb4).alloc (below_next HB3.out.drew hb4).size (.cells #[.string nm, .int .i64 n] 44)) (by have := hb4.size; simp at this ⊢; omega) hgrow7 (fun r hr => (HO3.out.lt r hr).1))
            have HO7 := Lib.hid hown7
            clear hgrow7 hown7 hat
            go_wp2_with fail
            go_roundw
            case rel => exact ⟨_, i + 1, rfl, by go_num, by omega, by rw [HMA.out, List.length_append]; exact (by rw [cellsD_snoc, hdn2, hds2]; exact HO7.out), HB7.out⟩
            case measure => simp [intOf]; omega
      · obtain rfl : i = ds.length := by omega
        have h0 := HO.out
        rw [List.take_length, HFIN.out] at h0
        have HO7 := Lib.hid h0; clear h0
        go_wp2_with fail
        go_ret2
        exact ⟨v, rfl, HO7.out, HB.out⟩
  · have hz1 : (WE != 0) = true := by simpa using hz
    have hfin := HFIN.out; clear HFIN HNM
    rw [if_neg hz] at hfin
    subst hfin
    clear hz hfew
    go_wp2_with (first | (go_at_call 7; (with_reducible refine HT.out.mono ?_); rintro e w2 ⟨rfl, hb2⟩; have HB2 := Lib.hid (below_next HAL.out hb2); clear hb2) | fail)
    go_ret2
    exact ⟨_, rfl, World.ownsRow_nil _ _ _ _, HB2.out⟩
end Go.Proofs.Ytofbocmbgadfnaa

/-
  Plain: where a name is declared, and that declarations that are not wrong have each name once; the document's find, and its Vars and Arrays.
-/
namespace Go.Proofs.Ytofbocmbgadfnaa
open Go Go.RowKit Go.Maps

/-- The place of the first declaration of a name, counted from k on; -1: there is none. -/
def findFrom : List Nd → ByteArray → Int → Int
  | [], _, _ => -1
  | x :: r, s, k => if (dNm x).toList == s.toList then k else findFrom r s (k + 1)
def firstK : List Nd → ByteArray → Int
  | [], _ => 0
  | x :: r, s => if (dNm x).toList == s.toList then kD (dSz x) else firstK r s
theorem kD_ne (n : Int) : kD n ≠ 0 := by unfold kD; split <;> simp
theorem find_first (s : ByteArray) : ∀ (r : List Nd) (k : Int), (findFrom r s k = -1 ∧ firstK r s = 0) ∨ ∃ j, ∃ hj : j < r.length, findFrom r s k = k + (j : Int) ∧ firstK r s = kD (dSz r[j])
  | [], _ => .inl ⟨rfl, rfl⟩
  | x :: r, k => by
    rw [findFrom, firstK]
    cases h : ((dNm x).toList == s.toList) with
    | true => exact .inr ⟨0, by simp, by simp, by simp⟩
    | false =>
      simp only [Bool.false_eq_true, if_false]
      rcases find_first s r (k + 1) with ⟨h1, h2⟩ | ⟨j, hj, h1, h2⟩
      · exact .inl ⟨h1, h2⟩
      · refine .inr ⟨j + 1, by simpa using hj, ?_, by simpa using h2⟩
        rw [h1]
        simp only [Int.natCast_add, Int.natCast_one]
        omega
theorem look_gen (s : ByteArray) : ∀ (l : List Nd) (k0 : Int), (firstK l s = 0 → l.foldl (fun k x => if (dNm x).toList == s.toList then kD (dSz x) else k) k0 = k0) ∧ (firstK l s ≠ 0 → l.foldl (fun k x => if (dNm x).toList == s.toList then kD (dSz x) else k) k0 ≠ 0)
  | [], _ => ⟨fun _ => rfl, fun h => absurd rfl h⟩
  | x :: r, k0 => by
    rw [firstK, List.foldl_cons]
    cases h : ((dNm x).toList == s.toList) with
    | true =>
      simp only [if_true]
      refine ⟨fun e => absurd e (kD_ne _), fun _ => ?_⟩
      by_cases e : firstK r s = 0
      · rw [(look_gen s r _).1 e]
        exact kD_ne _
      · exact (look_gen s r _).2 e
    | false =>
      simp only [Bool.false_eq_true, if_false]
      exact look_gen s r k0
theorem find_look (l : List Nd) (s : ByteArray) : (findFrom l s 0 = -1 ∧ lookL l s = 0) ∨ (0 ≤ findFrom l s 0 ∧ lookL l s ≠ 0) := by
  have h := look_gen s l 0
  rcases find_first s l 0 with ⟨h1, h2⟩ | ⟨j, hj, h1, h2⟩
  · exact .inl ⟨h1, h.1 h2⟩
  · exact .inr ⟨by omega, h.2 (by rw [h2]; exact kD_ne _)⟩
theorem lookL_same {s t : ByteArray} (l : List Nd) (h : s.toList = t.toList) : lookL l s = lookL l t := by unfold lookL; rw [h]
theorem look_step (s : ByteArray) : ∀ (r p : List Nd), (declW p r).2 = 0 → lookL (p ++ r) s = if lookL p s ≠ 0 then lookL p s else firstK r s
  | [], p, _ => by
    rw [List.append_nil, firstK]
    split
    · rfl
    · rename_i h; simpa using h
  | x :: r, p, h => by
    rw [declW] at h
    by_cases hf : dF p x = 0
    · rw [if_neg (by simpa using hf)] at h
      have ih := look_step s r (p ++ [x]) h
      rw [List.append_assoc, List.singleton_append] at ih
      rw [ih, lookL_snoc, firstK]
      have hl : lookL p (dNm x) = 0 := by
        by_cases e : lookL p (dNm x) = 0
        · exact e
        · unfold dF at hf
          rw [if_pos e] at hf
          exact absurd hf (by decide)
      cases hm : ((dNm x).toList == s.toList) with
      | true =>
        have e : lookL p s = 0 := (lookL_same p (by simpa using hm)).symm.trans hl
        simp [e, kD_ne]
      | false => simp
    · rw [if_pos hf] at h
      exact absurd h hf
/-- What a name is declared as, where no declaration is wrong. -/
theorem find_kind {ds : List Nd} (h : (declW [] ds).2 = 0) (s : ByteArray) : (findFrom ds s 0 = -1 ∧ lookL ds s = 0) ∨ ∃ j, ∃ hj : j < ds.length, findFrom ds s 0 = (j : Int) ∧ lookL ds s = kD (dSz ds[j]) := by
  have hs := look_step s ds [] h
  rw [List.nil_append, if_neg (by simp [lookL])] at hs
  rcases find_first s ds 0 with ⟨h1, h2⟩ | ⟨j, hj, h1, h2⟩
  · exact .inl ⟨h1, hs.trans h2⟩
  · exact .inr ⟨j, hj, by rw [h1]; omega, hs.trans h2⟩
theorem findFrom_at {l : List Nd} {i : Nat} (hi : i < l.length) (s : ByteArray) : findFrom (l.drop i) s (i : Int) = if (dNm l[i]).toList == s.toList then (i : Int) else findFrom (l.drop (i + 1)) s ((i + 1 : Nat) : Int) := by
  rw [List.drop_eq_getElem_cons hi, findFrom]
  rfl
/-- Sizes of a tree's declarations are not below 0. -/
theorem sizes_ok {ds ss : List Nd} (hd : fitL .D ds) (hz : faultT (progT ds ss) = 0) : ∀ x ∈ ds, 0 ≤ dSz x := by
  intro x hx
  have hl := fault_lim hz
  have hw : (progT ds ss).l.any (fun x => !wellN x) = false := by
    unfold faultT at hz
    rw [if_neg (by simpa using hl)] at hz
    cases h : (progT ds ss).l.any (fun x => !wellN x) with
    | false => rfl
    | true => rw [h] at hz; simp at hz
  rw [progT_list hl, allL_app] at hw
  have hmem : ∀ (l : List Nd), fitL .D l → ∀ y ∈ l, y ∈ allL l := by
    intro l
    induction l with
    | nil => intro _ y hy; cases hy
    | cons z r ih =>
      intro hf y hy
      unfold fitL at hf
      rw [allL]
      rcases List.mem_cons.1 hy with rfl | hy
      · refine List.mem_append_left _ ?_
        obtain ⟨ty, k, n, nm, xs, cs, ts, es⟩ := y
        unfold allN
        exact List.mem_cons_self
      · exact List.mem_append_right _ (ih hf.2.2 y hy)
  have h1 : wellN x = true := by
    cases h : wellN x with
    | true => rfl
    | false =>
      have : (allL ds ++ allL ss).any (fun x => !wellN x) = true := List.any_eq_true.2 ⟨x, List.mem_append_left _ (hmem ds hd x hx), by rw [h]; rfl⟩
      rw [hw] at this
      cases this
  have hty := ty_of hd x hx
  obtain ⟨ty, k, n, nm, xs, cs, ts, es⟩ := x
  simp only [Nd.ty] at hty
  subst hty
  simp only [wellN, wellD] at h1
  show 0 ≤ n
  simp at h1
  exact h1.1
theorem kD_kind {n : Int} (h : 0 ≤ n) (b : Bool) : kD n = kindB b ↔ decide (0 < n) = b := by
  unfold kD kindB
  by_cases e : n = 0
  · subst e
    cases b <;> simp
  · have : decide (0 < n) = true := by simp; omega
    rw [this, if_neg e]
    cases b <;> simp
theorem cellsU_at : ∀ (l : List Us) (i : Nat) (hi : i < l.length), (cellsU l)[i * 2]? = some (.string l[i].1) ∧ (cellsU l)[i * 2 + 1]? = some (.bool l[i].2)
  | [], i, hi => by simp at hi
  | x :: r, 0, hi => ⟨rfl, rfl⟩
  | x :: r, i + 1, hi => by
    have h := cellsU_at r i (by simpa using hi)
    rw [show (i + 1) * 2 = i * 2 + 1 + 1 by omega]
    simpa [cellsU] using h

set_option maxRecDepth 100000 in
set_option maxHeartbeats 4000000 in
theorem find_any (l : List Nd) (vl : Value) (s : ByteArray) (w : World) (hl : SlIn w .D l vl) :
    Calls Try.prog 20 #[vl, .string s] w (fun e w' => e = .returned (.int .i64 (findFrom l s 0)) ∧ w' = w) := by
  obtain ⟨a, c, rfl, hlc, hcm, hrow⟩ := hl
  have HROW := Lib.hid hrow; clear hrow
  obtain ⟨POST, hPOST⟩ : ∃ p, findFrom l s 0 = p := ⟨_, rfl⟩
  rw [hPOST]
  have HPOST := Lib.hid hPOST; clear hPOST
  go_enter Try.func20, Try.ntmps20
  go_wp2_with fail
  go_loop [5] (fun x => ∃ i : Nat, x = .int .i64 i ∧ i ≤ l.length ∧ findFrom (l.drop i) s (i : Int) = POST) (fun x => l.length - (intOf x).toNat)
  case atStart => exact ⟨0, rfl, by omega, by rw [List.drop_zero]; exact HPOST.out⟩
  case round =>
    obtain ⟨i, rfl, hi, hPr⟩ := hrel
    clear HPOST
    by_cases hlt : i < l.length
    · have hbi : (i : Int) + 1 ≤ 9223372036854775807 := by unfold maxLen at hcm; omega
      have hxl : ¬ l.length = 0 := by omega
      obtain ⟨b, o, rfl, hrow⟩ := HROW.out.resolve_left hxl
      obtain ⟨hty, u0, u1, g0, g1, hnd⟩ := SlIn.item2 rfl hrow i hlt
      rw [findFrom_at hlt] at hPr
      clear hrow
      obtain ⟨X, hX⟩ : ∃ X, l[i] = X := ⟨_, rfl⟩
      rw [hX] at hnd hty hPr
      clear hX
      obtain ⟨ty, k, n, nm, xs, cs, ts, es⟩ := X
      simp only [Nd.ty] at hty
      subst hty
      unfold NdIn at hnd
      obtain ⟨-, -, -, -, vx, vc, vt, ve, hvs, -⟩ := hnd
      simp only [lay, List.cons.injEq, and_true] at hvs
      obtain ⟨rfl, rfl⟩ := hvs
      rw [show dNm (.mk .D k n nm xs cs ts es) = nm from rfl] at hPr
      cases hm : (nm.toList == s.toList) with
      | true =>
        rw [hm, if_pos rfl] at hPr
        subst hPr
        go_wp2_with fail
        go_ret
        exact ⟨rfl, rfl⟩
      | false =>
        rw [hm, if_neg (by simp)] at hPr
        have HPr := Lib.hid hPr; clear hPr
        go_wp2_with fail
        go_round
        case rel => exact ⟨i + 1, by go_num, by omega, HPr.out⟩
        case measure => simp [intOf]; omega
    · obtain rfl : i = l.length := by omega
      rw [List.drop_length, findFrom] at hPr
      subst hPr
      go_wp2_with fail
      go_ret
      exact ⟨rfl, rfl⟩
end Go.Proofs.Ytofbocmbgadfnaa

/-
  The document's Vars and Arrays (gnomonref6's): proved is that each tells, in a list of its own, what the project's tells of a well program.
-/
namespace Go.Proofs.Ytofbocmbgadfnaa
open Go Go.RowKit Go.Maps

set_option maxRecDepth 100000 in
set_option maxHeartbeats 8000000 in
theorem rvars_any (ds : List Nd) (v0 v1 : Value) (w : World) (hd : SlIn w .D ds v0) (hv1 : ∃ a n c, v1 = .slice a n c) (hlen : ds.length ≤ 4096) (hnn : ∀ x ∈ ds, 0 ≤ dSz x) :
    Calls Try.prog 12 #[.agg #[v0, v1]] w (fun e w' => ∃ v', e = .returned v' ∧ w'.ownsRow w.heap.size 9 1 v' (varsL ds).length (cellsT (varsL ds)) ∧ Below w.heap.size w w') := by
  obtain ⟨a1, n1, c1, rfl⟩ := hv1
  obtain ⟨a0, c0, rfl, hlc0, hcm0, hrow0⟩ := hd
  have HROW := Lib.hid hrow0; clear hrow0
  have HNN := Lib.hid hnn; clear hnn
  obtain ⟨FIN, hFIN⟩ : ∃ l, varsL ds = l := ⟨_, rfl⟩
  rw [hFIN]
  have HFIN := Lib.hid hFIN; clear hFIN
  obtain ⟨B, hBe⟩ : ∃ B, w.heap.size = B := ⟨_, rfl⟩
  obtain ⟨W1, hW1⟩ : ∃ W1, w.alloc (.cells #[.slice a0 ds.length c0, .slice a1 n1 c1] 25) = W1 := ⟨_, rfl⟩
  have hal : Below B w W1 := by rw [← hW1]; exact (Below.refl _ w).alloc (by omega) _
  have hX1 : Blk W1 B #[.slice a0 ds.length c0, .slice a1 n1 c1] 25 := by rw [← hW1, ← hBe]; exact Blk.new w _ _
  have hS1 : B + 1 ≤ W1.heap.size := by rw [← hW1, World.size_alloc]; omega
  have HX1 := Lib.hid hX1; clear hX1
  have HAL := Lib.hid hal; clear hal
  have HW1 := Lib.hid hW1; clear hW1
  have HBE := Lib.hid hBe; clear hBe
  have HS1 := Lib.hid hS1; clear hS1
  obtain ⟨i0, hi0, hz0, hz1, hz2⟩ := info_parts info_str
  have HI0 := Lib.hid hi0; clear hi0
  have HZ0 := Lib.hid hz0; clear hz0
  have HZ1 := Lib.hid hz1; clear hz1
  have HZ2 := Lib.hid hz2; clear hz2
  go_enter Try.func12, Try.ntmps12
  go_upto_region 1 with fail
  rw [HW1.out, HBE.out]
  clear HW1
  go_wp2_with fail
  go_loopw [3, 4] (fun y x wr => ∃ (v : Value) (i : Nat), v = y ∧ x = .int .i64 i ∧ i ≤ ds.length ∧ wr.ownsRow (B + 1) 9 1 v (varsL (ds.take i)).length (cellsT (varsL (ds.take i))) ∧ Blk wr B #[.slice a0 ds.length c0, .slice a1 n1 c1] 25 ∧ Below B w wr ∧ B + 1 ≤ wr.heap.size) (fun _ x _ => ds.length - (intOf x).toNat)
  case atStart => exact ⟨.slice none 0 0, 0, rfl, rfl, by omega, by rw [List.take_zero]; exact World.ownsRow_nil _ _ _ _, HX1.out, HAL.out, HS1.out⟩
  case round =>
    obtain ⟨v, i, rfl, rfl, hi, hOr, hXr, hBr, hSr⟩ := hrel
    clear HX1 HAL HS1
    have x0 : wr.cell? ⟨B, 0, none⟩ = some (.slice a0 ds.length c0) := hXr.cell 0
    have HO := Lib.hid hOr; clear hOr
    have HB := Lib.hid hBr; clear hBr
    have HX := Lib.hid hXr; clear hXr
    have HS := Lib.hid hSr; clear hSr
    by_cases hlt : i < ds.length
    · have hbi : (i : Int) + 1 ≤ 9223372036854775807 := by omega
      have hxl : ¬ ds.length = 0 := by omega
      obtain ⟨b, o, rfl, hrow⟩ := HROW.out.resolve_left hxl
      obtain ⟨hty, u0, u1, m0, m1, hnd⟩ := SlIn.item2 rfl hrow i hlt
      have kk := fun q o u hu => keeps_below (show Below w.heap.size w wr by rw [HBE.out]; exact HB.out) q o u hu
      have g0 := kk _ _ _ m0
      have g1 := kk _ _ _ m1
      have hma := varsL_take hlt
      have hle := varsL_le ds i
      have hnn := HNN.out ds[i] (List.getElem_mem hlt)
      clear m0 m1 kk hrow
      obtain ⟨X, hX⟩ : ∃ X, ds[i] = X := ⟨_, rfl⟩
      rw [hX] at hnd hty hma hnn
      clear hX
      obtain ⟨ty, k, n, nm, xs, cs, ts, es⟩ := X
      simp only [Nd.ty] at hty
      subst hty
      unfold NdIn at hnd
      obtain ⟨-, -, -, -, vx, vc, vt, ve, hvs, -⟩ := hnd
      simp only [lay, List.cons.injEq, and_true] at hvs
      obtain ⟨rfl, rfl⟩ := hvs
      have hdn : dNm (.mk .D k n nm xs cs ts es) = nm := rfl
      have hds : dSz (.mk .D k n nm xs cs ts es) = n := rfl
      have hdn2 : ∀ k, dNm (.mk .D k n nm xs cs ts es) = nm := fun _ => rfl
      have hds2 : ∀ k, dSz (.mk .D k n nm xs cs ts es) = n := fun _ => rfl
      rw [hds] at hma hnn
      obtain ⟨LB, hLB⟩ : ∃ l, varsL (ds.take i) = l := ⟨_, rfl⟩
      have hO := HO.out; clear HO
      rw [hLB] at hO hma hle
      clear hLB
      have hvB : v.ownBlock ≠ some B := fun e => by have := (hO.lt _ e).1; omega
      have HO := Lib.hid hO; clear hO
      have hl1 : LB.length + 1 ≤ maxLen := by unfold maxLen; omega
      have HSZ := Lib.hid (show B + 1 ≤ (wr.alloc (.cells #[.string nm] 9)).heap.size by rw [World.size_alloc]; have := HS.out; omega)
      have HNW := Lib.hid (news_str wr nm _ rfl)
      by_cases hn : n = 0
      · subst hn
        simp only [show ((0 : Int) == 0) = true from rfl, if_true] at hma
        rw [hdn] at hma
        have HMA := Lib.hid hma; clear hma hds hdn
        go_wp2_with (first | (at_builtin; (with_reducible refine wpList_append_lies _ rfl (.tmp 19) (.tmp 26) 32 rfl (B + 1) 9 i0 _ 1 16 Try.underlying32 HI0.out HZ0.out HZ1.out HZ2.out rfl (by omega) v LB.length (cellsT LB) rfl (HO.out.alloc _) ⟨_, 0, none⟩ 1 1 [.string nm] rfl rfl HNW.out (str_one _) (by omega) hl1 (by omega) HSZ.out _ rfl ?_); (intro gg cap w7 hown7 hgrow7 hat hlt7)) | fail)
        have HX7 := Lib.hid (blk_grown (HX.out.alloc (.cells #[.string nm] 9)) hgrow7 hvB)
        have HB7 := Lib.hid (below_grown (HB.out.alloc (by have := HS.out; omega) (.cells #[.string nm] 9)) (by have := HSZ.out; omega) hgrow7 (fun r hr => by have := (HO.out.lt r hr).1; omega))
        have HS7 := Lib.hid (Nat.le_trans HSZ.out hgrow7.size)
        have HO7 := Lib.hid hown7
        clear hgrow7 hown7 hat
        go_roundw
        case rel => exact ⟨_, i + 1, rfl, by go_num, by omega, by rw [HMA.out]; simpa [cellsT] using HO7.out, HX7.out, HB7.out, HS7.out⟩
        case measure => simp [intOf]; omega
      · have hnz : (n == 0) = false := by simpa using hn
        have hpos : decide (0 < n) = true := by simp; omega
        simp only [hnz, Bool.false_eq_true, if_false] at hma
        have HMA := Lib.hid hma; clear hma hds hdn hn
        go_wp2_with fail
        go_roundw
        case rel => exact ⟨v, i + 1, rfl, by go_num, by omega, by rw [HMA.out, List.append_nil]; exact HO.out, HX.out, HB.out, HS.out⟩
        case measure => simp [intOf]; omega
    · obtain rfl : i = ds.length := by omega
      have h0 := HO.out
      rw [List.take_length, HFIN.out] at h0
      have HO7 := Lib.hid (h0.mono (base' := B) (by omega)); clear h0
      go_wp2_with fail
      go_ret
      exact ⟨v, rfl, by rw [HBE.out]; exact HO7.out, by rw [HBE.out]; exact HB.out⟩

set_option maxRecDepth 100000 in
set_option maxHeartbeats 8000000 in
theorem rarrs_any (ds : List Nd) (v0 v1 : Value) (w : World) (hd : SlIn w .D ds v0) (hv1 : ∃ a n c, v1 = .slice a n c) (hlen : ds.length ≤ 4096) (hnn : ∀ x ∈ ds, 0 ≤ dSz x) :
    Calls Try.prog 14 #[.agg #[v0, v1]] w (fun e w' => ∃ v', e = .returned v' ∧ w'.ownsRow w.heap.size 44 2 v' (arrsL ds).length (cellsD (arrsL ds)) ∧ Below w.heap.size w w') := by
  obtain ⟨a1, n1, c1, rfl⟩ := hv1
  obtain ⟨a0, c0, rfl, hlc0, hcm0, hrow0⟩ := hd
  have HROW := Lib.hid hrow0; clear hrow0
  have HNN := Lib.hid hnn; clear hnn
  obtain ⟨FIN, hFIN⟩ : ∃ l, arrsL ds = l := ⟨_, rfl⟩
  rw [hFIN]
  have HFIN := Lib.hid hFIN; clear hFIN
  obtain ⟨B, hBe⟩ : ∃ B, w.heap.size = B := ⟨_, rfl⟩
  obtain ⟨W1, hW1⟩ : ∃ W1, w.alloc (.cells #[.slice a0 ds.length c0, .slice a1 n1 c1] 25) = W1 := ⟨_, rfl⟩
  have hal : Below B w W1 := by rw [← hW1]; exact (Below.refl _ w).alloc (by omega) _
  have hX1 : Blk W1 B #[.slice a0 ds.length c0, .slice a1 n1 c1] 25 := by rw [← hW1, ← hBe]; exact Blk.new w _ _
  have hS1 : B + 1 ≤ W1.heap.size := by rw [← hW1, World.size_alloc]; omega
  have HX1 := Lib.hid hX1; clear hX1
  have HAL := Lib.hid hal; clear hal
  have HW1 := Lib.hid hW1; clear hW1
  have HBE := Lib.hid hBe; clear hBe
  have HS1 := Lib.hid hS1; clear hS1
  obtain ⟨i0, hi0, hz0, hz1, hz2⟩ := info_parts info_decl
  have HI0 := Lib.hid hi0; clear hi0
  have HZ0 := Lib.hid hz0; clear hz0
  have HZ1 := Lib.hid hz1; clear hz1
  have HZ2 := Lib.hid hz2; clear hz2
  go_enter Try.func14, Try.ntmps14
  go_upto_region 1 with fail
  rw [HW1.out, HBE.out]
  clear HW1
  go_wp2_with fail
  go_loopw [3, 4] (fun y x wr => ∃ (v : Value) (i : Nat), v = y ∧ x = .int .i64 i ∧ i ≤ ds.length ∧ wr.ownsRow (B + 1) 44 2 v (arrsL (ds.take i)).length (cellsD (arrsL (ds.take i))) ∧ Blk wr B #[.slice a0 ds.length c0, .slice a1 n1 c1] 25 ∧ Below B w wr ∧ B + 1 ≤ wr.heap.size) (fun _ x _ => ds.length - (intOf x).toNat)
  case atStart => exact ⟨.slice none 0 0, 0, rfl, rfl, by omega, by rw [List.take_zero]; exact World.ownsRow_nil _ _ _ _, HX1.out, HAL.out, HS1.out⟩
  case round =>
    obtain ⟨v, i, rfl, rfl, hi, hOr, hXr, hBr, hSr⟩ := hrel
    clear HX1 HAL HS1
    have x0 : wr.cell? ⟨B, 0, none⟩ = some (.slice a0 ds.length c0) := hXr.cell 0
    have HO := Lib.hid hOr; clear hOr
    have HB := Lib.hid hBr; clear hBr
    have HX := Lib.hid hXr; clear hXr
    have HS := Lib.hid hSr; clear hSr
    by_cases hlt : i < ds.length
    · have hbi : (i : Int) + 1 ≤ 9223372036854775807 := by omega
      have hxl : ¬ ds.length = 0 := by omega
      obtain ⟨b, o, rfl, hrow⟩ := HROW.out.resolve_left hxl
      obtain ⟨hty, u0, u1, m0, m1, hnd⟩ := SlIn.item2 rfl hrow i hlt
      have kk := fun q o u hu => keeps_below (show Below w.heap.size w wr by rw [HBE.out]; exact HB.out) q o u hu
      have g0 := kk _ _ _ m0
      have g1 := kk _ _ _ m1
      have hma := arrsL_take hlt
      have hle := arrsL_le ds i
      have hnn := HNN.out ds[i] (List.getElem_mem hlt)
      clear m0 m1 kk hrow
      obtain ⟨X, hX⟩ : ∃ X, ds[i] = X := ⟨_, rfl⟩
      rw [hX] at hnd hty hma hnn
      clear hX
      obtain ⟨ty, k, n, nm, xs, cs, ts, es⟩ := X
      simp only [Nd.ty] at hty
      subst hty
      unfold NdIn at hnd
      obtain ⟨-, -, -, -, vx, vc, vt, ve, hvs, -⟩ := hnd
      simp only [lay, List.cons.injEq, and_true] at hvs
      obtain ⟨rfl, rfl⟩ := hvs
      have hdn : dNm (.mk .D k n nm xs cs ts es) = nm := rfl
      have hds : dSz (.mk .D k n nm xs cs ts es) = n := rfl
      have hdn2 : ∀ k, dNm (.mk .D k n nm xs cs ts es) = nm := fun _ => rfl
      have hds2 : ∀ k, dSz (.mk .D k n nm xs cs ts es) = n := fun _ => rfl
      rw [hds] at hma hnn
      obtain ⟨LB, hLB⟩ : ∃ l, arrsL (ds.take i) = l := ⟨_, rfl⟩
      have hO := HO.out; clear HO
      rw [hLB] at hO hma hle
      clear hLB
      have hvB : v.ownBlock ≠ some B := fun e => by have := (hO.lt _ e).1; omega
      have HO := Lib.hid hO; clear hO
      have hl1 : LB.length + 1 ≤ maxLen := by unfold maxLen; omega
      have HSZ := Lib.hid (show B + 1 ≤ (wr.alloc (.cells #[.string nm, .int .i64 n] 44)).heap.size by rw [World.size_alloc]; have := HS.out; omega)
      have HNW := Lib.hid (World.news_of_block (cs := #[.string nm, .int .i64 n]) (t := 44) (fr := (0, 0)) (heap_alloc_new wr _))
      by_cases hn : n = 0
      · subst hn
        simp only [show ((0 : Int) == 0) = true from rfl, if_true] at hma
        have HMA := Lib.hid hma; clear hma hds hdn
        go_wp2_with fail
        go_roundw
        case rel => exact ⟨v, i + 1, rfl, by go_num, by omega, by rw [HMA.out, List.append_nil]; exact HO.out, HX.out, HB.out, HS.out⟩
        case measure => simp [intOf]; omega
      · have hnz : (n == 0) = false := by simpa using hn
        have hpos : decide (0 < n) = true := by simp; omega
        simp only [hnz, Bool.false_eq_true, if_false] at hma
        have HMA := Lib.hid hma; clear hma hds hdn hn
        go_wp2_with (first | (at_builtin; (with_reducible refine wpList_append_lies _ rfl (.tmp 19) (.tmp 25) 22 rfl (B + 1) 44 i0 _ 2 24 Try.underlying22 HI0.out HZ0.out HZ1.out HZ2.out rfl (by omega) v LB.length (cellsD LB) rfl (HO.out.alloc _) ⟨_, 0, none⟩ 1 1 [.string nm, .int .i64 n] rfl rfl HNW.out (decl_one _ _) (by omega) hl1 (by omega) HSZ.out _ rfl ?_); (intro gg cap w7 hown7 hgrow7 hat hlt7)) | fail)
        have HX7 := Lib.hid (blk_grown (HX.out.alloc (.cells #[.string nm, .int .i64 n] 44)) hgrow7 hvB)
        have HB7 := Lib.hid (below_grown (HB.out.alloc (by have := HS.out; omega) (.cells #[.string nm, .int .i64 n] 44)) (by have := HSZ.out; omega) hgrow7 (fun r hr => by have := (HO.out.lt r hr).1; omega))
        have HS7 := Lib.hid (Nat.le_trans HSZ.out hgrow7.size)
        have HO7 := Lib.hid hown7
        clear hgrow7 hown7 hat
        go_roundw
        case rel => exact ⟨_, i + 1, rfl, by go_num, by omega, by rw [HMA.out]; rw [List.length_append, cellsD_snoc, hdn2, hds2]; exact HO7.out, HX7.out, HB7.out, HS7.out⟩
        case measure => simp [intOf]; omega
    · obtain rfl : i = ds.length := by omega
      have h0 := HO.out
      rw [List.take_length, HFIN.out] at h0
      have HO7 := Lib.hid (h0.mono (base' := B) (by omega)); clear h0
      go_wp2_with fail
      go_ret
      exact ⟨v, rfl, by rw [HBE.out]; exact HO7.out, by rw [HBE.out]; exact HB.out⟩
end Go.Proofs.Ytofbocmbgadfnaa

/-
  The document's Check (gnomonref6's): proved is that it tells of a program that lies in memory what the project's tells, and that it turns nothing that lay.
-/
namespace Go.Proofs.Ytofbocmbgadfnaa
open Go Go.RowKit Go.Maps

theorem drewN_keeps (w : World) (n : Nat) : Keeps w (w.drewN n) := fun _ _ _ h => h
theorem SlIn.take {w : World} {ty : Ty} {l : List Nd} {b o c i : Nat} (hr : RowIn w ty l b o) (hi : i ≤ l.length) (hc : i ≤ c) (hm : c ≤ maxLen) : SlIn w ty (l.take i) (.slice (some ⟨b, o, none⟩) i c) := by
  have hl : (l.take i).length = i := by rw [List.length_take]; omega
  refine ⟨some ⟨b, o, none⟩, c, by rw [hl], by omega, hm, .inr ⟨b, o, rfl, ?_⟩⟩
  refine RowIn.of (l.take i) b o (fun j hj => ?_)
  have hj2 : j < l.length := by omega
  have h := RowIn.at l b o j hj2 hr
  rw [List.getElem_take]
  exact h

set_option maxRecDepth 100000 in
set_option maxHeartbeats 16000000 in
theorem rcheck6_any (ds ss : List Nd) (v0 v1 : Value) (w : World) (hd : SlIn w .D ds v0) (hs : SlIn w .S ss v1) :
    Calls Try.prog 8 #[.agg #[v0, v1]] w (fun e w' => e = .returned (.tuple #[.string (wellP ds ss).1, .int .i64 (wellP ds ss).2]) ∧ Below w.heap.size w w') := by
  have hfd := fit_list hd
  have hnd := noD_list hs
  have htc := fun w1 (hb : Below w.heap.size w w1) => rcheck_any ds ss v0 v1 w1 (hd.keep (keeps_below hb)) (hs.keep (keeps_below hb))
  rw [docP_same hfd hnd] at htc
  have hus := fun (hl : (usesL ss).length ≤ 1099511627776) w1 (hb : Below w.heap.size w w1) => uses_any ds ss v0 v1 w1 (hd.keep (keeps_below hb)) (hs.keep (keeps_below hb)) hl
  have hfew := fun (h : faultT (progT ds ss) = 0) => names_few hfd hnd (fault_lim h)
  have hsz := fun (h : faultT (progT ds ss) = 0) => sizes_ok hfd h
  have hkind := find_kind (ds := ds)
  obtain ⟨POST, hPOST⟩ : ∃ p, wellP ds ss = p := ⟨_, rfl⟩
  rw [hPOST]
  unfold wellP at hPOST
  obtain ⟨FT, hFT⟩ : ∃ FT, faultT (progT ds ss) = FT := ⟨_, rfl⟩
  simp only [hFT] at htc hfew hsz hPOST
  obtain ⟨DP, hDW⟩ : ∃ p, declW [] ds = p := ⟨_, rfl⟩
  rw [hDW] at hPOST hkind
  obtain ⟨UL, hUL⟩ : ∃ l, usesL ss = l := ⟨_, rfl⟩
  rw [hUL] at hus hfew hPOST
  obtain ⟨LK, hLK⟩ : ∃ f, lookL ds = f := ⟨_, rfl⟩
  rw [hLK] at hPOST hkind
  clear hFT hUL hLK hfd hnd
  have HD := Lib.hid hd
  obtain ⟨a0, c0, rfl, hlc0, hcm0, hrow0⟩ := hd
  obtain ⟨a1, c1, rfl, -⟩ := hs
  have HROW := Lib.hid hrow0; clear hrow0
  obtain ⟨B, hBe⟩ : ∃ B, w.heap.size = B := ⟨_, rfl⟩
  obtain ⟨W1, hW1⟩ : ∃ W1, w.alloc (.cells #[.slice a0 ds.length c0, .slice a1 ss.length c1] 25) = W1 := ⟨_, rfl⟩
  have hal : Below w.heap.size w W1 := by rw [← hW1]; exact (Below.refl _ w).alloc (Nat.le_refl _) _
  have hX1 : Blk W1 B #[.slice a0 ds.length c0, .slice a1 ss.length c1] 25 := by rw [← hW1, ← hBe]; exact Blk.new w _ _
  have x0 : W1.cell? ⟨B, 0, none⟩ = some (.slice a0 ds.length c0) := hX1.cell 0
  have y0 : W1.cell? ⟨B, 1, none⟩ = some (.slice a1 ss.length c1) := hX1.cell 1
  have HT := Lib.hid (htc W1 hal); clear htc
  have HX1 := Lib.hid hX1; clear hX1
  have HAL := Lib.hid hal; clear hal
  have HW1 := Lib.hid hW1; clear hW1
  have HBE := Lib.hid hBe; clear hBe
  have HPOST := Lib.hid hPOST; clear hPOST
  have HUS := Lib.hid hus; clear hus
  have HFEW := Lib.hid hfew; clear hfew
  have HSZ := Lib.hid hsz; clear hsz
  have HKIND := Lib.hid hkind; clear hkind
  have HDW := Lib.hid hDW; clear hDW
  go_enter Try.func8, Try.ntmps8
  go_upto_region 1 with fail
  rw [HW1.out, HBE.out]
  clear HW1
  by_cases hz : FT = 0
  · subst hz
    have hfew := HFEW.out (by simp)
    have hsz := HSZ.out (by simp)
    have hfi : (if DP.2 ≠ 0 then DP else badU LK UL) = POST := by have h := HPOST.out; rw [if_neg (by simp)] at h; exact h
    have HPOST := Lib.hid hfi; clear hfi
    have HSZN := Lib.hid hsz; clear hsz HSZ HFEW
    go_wp2_with (first | (go_at_call 19; (with_reducible refine HT.out.mono ?_); rintro e w2 ⟨rfl, hb2⟩; have HX2 := Lib.hid (HX1.out.below hb2 HX1.out.lt); have HB2 := Lib.hid (below_next HAL.out hb2); clear hb2) | fail)
    clear x0 y0 HT HX1 HAL
    go_loopw [5, 6, 7] (fun s5 s6 x wr => ∃ (i : Nat), s5 = .int .i64 (cntK (ds.take i) 1) ∧ s6 = .int .i64 (cntK (ds.take i) 2) ∧ x = .int .i64 i ∧ i ≤ ds.length ∧ declW (ds.take i) (ds.drop i) = DP ∧ cntK (ds.take i) 1 ≤ 32 ∧ cntK (ds.take i) 2 ≤ 16 ∧ Blk wr B #[.slice a0 ds.length c0, .slice a1 ss.length c1] 25 ∧ Below w.heap.size w wr) (fun _ _ x _ => ds.length - (intOf x).toNat)
    case atStart => exact ⟨0, by rw [List.take_zero]; rfl, by rw [List.take_zero]; rfl, rfl, by omega, by rw [List.take_zero, List.drop_zero]; exact HDW.out, by rw [List.take_zero]; exact Nat.zero_le _, by rw [List.take_zero]; exact Nat.zero_le _, HX2.out, HB2.out⟩
    case round =>
      obtain ⟨i, rfl, rfl, rfl, hi, hPr, hq1, hq2, hXr, hBr⟩ := hrel
      clear HX2 HB2
      have x0 : wr.cell? ⟨B, 0, none⟩ = some (.slice a0 ds.length c0) := hXr.cell 0
      have y0 : wr.cell? ⟨B, 1, none⟩ = some (.slice a1 ss.length c1) := hXr.cell 1
      have HX := Lib.hid hXr; clear hXr
      have HB := Lib.hid hBr; clear hBr
      by_cases hlt : i < ds.length
      · have hbi : (i : Int) + 1 ≤ 9223372036854775807 := by omega
        have hxl : ¬ ds.length = 0 := by omega
        obtain ⟨b, o, rfl, hrow⟩ := HROW.out.resolve_left hxl
        obtain ⟨hty, u0, u1, m0, m1, hnd⟩ := SlIn.item2 rfl hrow i hlt
        have kk := keeps_below HB.out
        have g0 := kk _ _ _ m0
        have g1 := kk _ _ _ m1
        have hpa := declW_at hlt
        have hc1 := cntK_snoc (ds.take i) ds[i] 1
        have hc2 := cntK_snoc (ds.take i) ds[i] 2
        rw [List.take_append_getElem hlt] at hc1 hc2
        have hsl := SlIn.take hrow (i := i) (by omega) (Nat.le_trans (Nat.le_of_lt hlt) hlc0) hcm0
        clear m0 m1 kk hrow
        obtain ⟨X, hX⟩ : ∃ X, ds[i] = X := ⟨_, rfl⟩
        rw [hX] at hnd hty hpa hc1 hc2
        clear hX
        obtain ⟨ty, k, n, nm, xs, cs, ts, es⟩ := X
        simp only [Nd.ty] at hty
        subst hty
        unfold NdIn at hnd
        obtain ⟨-, -, -, -, vx, vc, vt, ve, hvs, -⟩ := hnd
        simp only [lay, List.cons.injEq, and_true] at hvs
        obtain ⟨rfl, rfl⟩ := hvs
        simp only [dSz] at hc1 hc2
        rw [hPr] at hpa
        have hdf : dF (ds.take i) (.mk .D k n nm xs cs ts es) = if lookL (ds.take i) nm ≠ 0 then 60 else if 1024 < n then 61 else if mostK (kD n) < (cntK (ds.take i) (kD n) : Int) + 1 then 62 else 0 := rfl
        have hdn : dNm (.mk .D k n nm xs cs ts es) = nm := rfl
        rw [hdf, hdn] at hpa
        clear hdf hdn
        have hfl := find_look (ds.take i) nm
        obtain ⟨n1, hn1⟩ : ∃ c, cntK (ds.take i) 1 = c := ⟨_, rfl⟩
        obtain ⟨n2, hn2⟩ : ∃ c, cntK (ds.take i) 2 = c := ⟨_, rfl⟩
        rw [hn1] at hc1 hq1
        rw [hn2] at hc2 hq2
        rw [hn1, hn2]
        obtain ⟨W2, hW2⟩ : ∃ W2, wr.alloc (.cells #[.string nm, .int .i64 n] 44) = W2 := ⟨_, rfl⟩
        obtain ⟨BD, hBD⟩ : ∃ x, wr.heap.size = x := ⟨_, rfl⟩
        have hY2 : Blk W2 BD #[.string nm, .int .i64 n] 44 := by rw [← hW2, ← hBD]; exact Blk.new wr _ _
        have hX2 : Blk W2 B #[.slice (some ⟨b, o, none⟩) ds.length c0, .slice a1 ss.length c1] 25 := by rw [← hW2]; exact HX.out.alloc _
        have hB2 : Below w.heap.size w W2 := by rw [← hW2]; exact HB.out.alloc HB.out.size _
        have HF := Lib.hid (fun m => find_any (ds.take i) _ nm (W2.drewN m) ((hsl.keep (keeps_below hB2)).keep (drewN_keeps W2 m)))
        have hic : i ≤ c0 := by omega
        have HY2 := Lib.hid hY2; clear hY2 hsl
        have HX2 := Lib.hid hX2; clear hX2 HX
        have HB2 := Lib.hid hB2; clear hB2 HB
        have HW2 := Lib.hid hW2; clear hW2
        have HBD := Lib.hid hBD; clear hBD
        have HPR := Lib.hid hPr; clear hPr
        obtain ⟨c0', hc0⟩ : ∃ c, lookL (ds.take i) nm = c := ⟨_, rfl⟩
        obtain ⟨k0, hk0⟩ : ∃ c, findFrom (ds.take i) nm 0 = c := ⟨_, rfl⟩
        rw [hc0] at hpa hfl
        rw [hk0] at hfl HF
        clear hc0 hk0
        have HFL := Lib.hid hfl; clear hfl
        go_upto_region 9 with fail
        rw [HW2.out, HBD.out]
        clear HW2 g0 g1 x0 y0
        have x0 : W2.cell? ⟨B, 0, none⟩ = some (.slice (some ⟨b, o, none⟩) ds.length c0) := HX2.out.cell 0
        have y0 : W2.cell? ⟨B, 1, none⟩ = some (.slice a1 ss.length c1) := HX2.out.cell 1
        have d0 : W2.cell? ⟨BD, 0, none⟩ = some (.string nm) := HY2.out.cell 0
        have d1 : W2.cell? ⟨BD, 1, none⟩ = some (.int .i64 n) := HY2.out.cell 1
        by_cases hn0 : n = 0
        · subst hn0
          have hk : kD 0 = 1 := rfl
          rw [hk] at hpa
          simp only [hk] at hc1 hc2
          simp only [show ((1 : Int) == 1) = true from rfl, show ((1 : Int) == 2) = false from rfl, if_true, Bool.false_eq_true, if_false, Nat.add_zero] at hc1 hc2
          rw [show mostK 1 = 32 from rfl, hn1] at hpa
          have hbk : (n1 : Int) + 1 ≤ 9223372036854775807 := by omega
          have HC1 := Lib.hid hc1; clear hc1
          have HC2 := Lib.hid hc2; clear hc2 hn1 hn2 hk
          have HPA := Lib.hid hpa; clear hpa
          go_upto_block 2 with fail
          obtain ⟨cn, hcn⟩ : ∃ c : Int, (n1 : Int) + 1 = c := ⟨_, rfl⟩
          rw [hcn]
          have HCN := Lib.hid (show (((n1 + 1 : Nat) : Int)) = cn by omega)
          have hcm : cn ≤ 33 := by omega
          clear hcn
          rcases HFL.out with ⟨rfl, rfl⟩ | ⟨hk1, hk2⟩
          · have hq0 : decide ((-1 : Int) ≥ 0) = false := by decide
            by_cases hs : (1024 : Int) < 0
            · exact absurd hs (by decide)
            · have ht : decide (1024 < 0) = false := by simp
              by_cases hc : (32 : Int) < cn
              · have hu : decide ((32 : Int) < cn) = true := by simpa using hc
                have hdp : DP = (nm, 62) := (by have h := HPA.out; rw [show ((n1 : Int) + 1) = cn by have := HCN.out; omega] at h; exact h.trans (pick_62 hs hc))
                have hfi := HPOST.out; clear HPOST
                rw [hdp, if_pos (by simp)] at hfi
                have HP := Lib.hid hfi; clear hfi hdp HPA hs hc
                go_upto_region 12 with fail
                go_quiet ((go_at_call 20; exact Calls.quiet_of_same (HF.out _)))
                go_wp2_with fail
                go_ret2
                exact ⟨by rw [← HP.out]; rfl, below_drewN HB2.out _⟩
              · have hu : decide ((32 : Int) < cn) = false := by simpa using hc
                have hu2 : decide ((16 : Int) < (n2 : Int)) = false := by simp; omega
                have hpost : declW (ds.take (i + 1)) (ds.drop (i + 1)) = DP := (by have h := HPA.out; rw [show ((n1 : Int) + 1) = cn by have := HCN.out; omega] at h; exact (h.trans (pick_0 hs hc)).symm)
                have HP := Lib.hid hpost; clear hpost HPA hs
                go_upto_region 12 with fail
                go_quiet ((go_at_call 20; exact Calls.quiet_of_same (HF.out _)))
                go_wp2_with fail
                go_roundw
                case rel => exact ⟨i + 1, by rw [HC1.out, HCN.out], by rw [HC2.out], by go_num, by omega, HP.out, by rw [HC1.out]; have := HCN.out; omega, by rw [HC2.out]; have := HCN.out; omega, HX2.out, below_drewN HB2.out _⟩
                case measure => simp [intOf]; omega
          · have hq0 : decide (k0 ≥ 0) = true := by simp; omega
            have hq1 : decide (0 ≤ k0) = true := by simpa using hk1
            have hdp : DP = (nm, 60) := HPA.out.trans (pick_60 hk2)
            have hfi := HPOST.out; clear HPOST
            rw [hdp, if_pos (by simp)] at hfi
            have HP := Lib.hid hfi; clear hfi hdp HPA hk2 hk1
            go_upto_region 12 with fail
            go_quiet ((go_at_call 20; exact Calls.quiet_of_same (HF.out _)))
            go_wp2_with fail
            go_ret2
            exact ⟨by rw [← HP.out]; rfl, below_drewN HB2.out _⟩
        · have hnz : (n == 0) = false := by simpa using hn0
          have hk : kD n = 2 := by unfold kD; rw [if_neg hn0]
          rw [hk] at hpa
          simp only [hk] at hc1 hc2
          simp only [show ((2 : Int) == 2) = true from rfl, show ((2 : Int) == 1) = false from rfl, if_true, Bool.false_eq_true, if_false, Nat.add_zero] at hc1 hc2
          rw [show mostK 2 = 16 from rfl, hn2] at hpa
          have hbk : (n2 : Int) + 1 ≤ 9223372036854775807 := by omega
          have HC1 := Lib.hid hc1; clear hc1
          have HC2 := Lib.hid hc2; clear hc2 hn1 hn2 hk hn0
          have HPA := Lib.hid hpa; clear hpa
          go_upto_block 2 with fail
          obtain ⟨cn, hcn⟩ : ∃ c : Int, (n2 : Int) + 1 = c := ⟨_, rfl⟩
          rw [hcn]
          have HCN := Lib.hid (show (((n2 + 1 : Nat) : Int)) = cn by omega)
          have hcm : cn ≤ 17 := by omega
          clear hcn
          rcases HFL.out with ⟨rfl, rfl⟩ | ⟨hk1, hk2⟩
          · have hq0 : decide ((-1 : Int) ≥ 0) = false := by decide
            by_cases hs : 1024 < n
            · have ht : decide (1024 < n) = true := by simpa using hs
              have hdp : DP = (nm, 61) := HPA.out.trans (pick_61 hs)
              have hfi := HPOST.out; clear HPOST
              rw [hdp, if_pos (by simp)] at hfi
              have HP := Lib.hid hfi; clear hfi hdp HPA hs
              go_upto_region 12 with fail
              go_quiet ((go_at_call 20; exact Calls.quiet_of_same (HF.out _)))
              go_wp2_with fail
              go_ret2
              exact ⟨by rw [← HP.out]; rfl, below_drewN HB2.out _⟩
            · have ht : decide (1024 < n) = false := by simp; omega
              by_cases hc : (16 : Int) < cn
              · have hu : decide ((16 : Int) < cn) = true := by simpa using hc
                have hu2 : decide ((32 : Int) < (n1 : Int)) = false := by simp; omega
                have hdp : DP = (nm, 62) := (by have h := HPA.out; rw [show ((n2 : Int) + 1) = cn by have := HCN.out; omega] at h; exact h.trans (pick_62 hs hc))
                have hfi := HPOST.out; clear HPOST
                rw [hdp, if_pos (by simp)] at hfi
                have HP := Lib.hid hfi; clear hfi hdp HPA hs hc
                go_upto_region 12 with fail
                go_quiet ((go_at_call 20; exact Calls.quiet_of_same (HF.out _)))
                go_wp2_with fail
                go_ret2
                exact ⟨by rw [← HP.out]; rfl, below_drewN HB2.out _⟩
              · have hu : decide ((16 : Int) < cn) = false := by simpa using hc
                have hu2 : decide ((32 : Int) < (n1 : Int)) = false := by simp; omega
                have hpost : declW (ds.take (i + 1)) (ds.drop (i + 1)) = DP := (by have h := HPA.out; rw [show ((n2 : Int) + 1) = cn by have := HCN.out; omega] at h; exact (h.trans (pick_0 hs hc)).symm)
                have HP := Lib.hid hpost; clear hpost HPA hs
                go_upto_region 12 with fail
                go_quiet ((go_at_call 20; exact Calls.quiet_of_same (HF.out _)))
                go_wp2_with fail
                go_roundw
                case rel => exact ⟨i + 1, by rw [HC1.out], by rw [HC2.out, HCN.out], by go_num, by omega, HP.out, by rw [HC1.out]; have := HCN.out; omega, by rw [HC2.out]; have := HCN.out; omega, HX2.out, below_drewN HB2.out _⟩
                case measure => simp [intOf]; omega
          · have hq0 : decide (k0 ≥ 0) = true := by simp; omega
            have hq1 : decide (0 ≤ k0) = true := by simpa using hk1
            have hdp : DP = (nm, 60) := HPA.out.trans (pick_60 hk2)
            have hfi := HPOST.out; clear HPOST
            rw [hdp, if_pos (by simp)] at hfi
            have HP := Lib.hid hfi; clear hfi hdp HPA hk2 hk1
            go_upto_region 12 with fail
            go_quiet ((go_at_call 20; exact Calls.quiet_of_same (HF.out _)))
            go_wp2_with fail
            go_ret2
            exact ⟨by rw [← HP.out]; rfl, below_drewN HB2.out _⟩
      · obtain rfl : i = ds.length := by omega
        rw [List.drop_length, declW] at hPr
        have hdp : DP.2 = 0 := by rw [← hPr]
        have hfi := HPOST.out; clear HPOST
        rw [if_neg (by simpa using hdp)] at hfi
        have HKD := Lib.hid (HKIND.out (by simpa using hdp)); clear HKIND hPr
        clear hdp
        have HPOST := Lib.hid hfi; clear hfi HDW
        have HU := Lib.hid (HUS.out (by omega) wr HB.out); clear HUS
        go_wp2_with fail
        refine HU.out.mono ?_
        rintro e w3 ⟨vu, rfl, hOu, hbu⟩
        obtain ⟨au, cu, rfl, hlcu, hcells⟩ := own_cells hOu
        have HCU := Lib.hid hcells; clear hcells hOu HU
        have HX3 := Lib.hid (HX.out.below hbu HX.out.lt)
        have HB3 := Lib.hid (below_next HB.out hbu); clear hbu
        clear x0 y0 HX HB hq1 hq2
        have HROWW := Lib.hid HROW.out
        go_wp2_with fail
        go_loopw [10] (fun x wr => ∃ (j : Nat), x = .int .i64 j ∧ j ≤ UL.length ∧ badU LK (UL.drop j) = POST ∧ Below w3.heap.size w3 wr) (fun x _ => UL.length - (intOf x).toNat)
        case atStart => exact ⟨0, rfl, by omega, by rw [List.drop_zero]; exact HPOST.out, Below.refl _ _⟩
        case round =>
          obtain ⟨j, rfl, hj, hPj, hBj⟩ := hrel
          clear HPOST
          have x0 : wr.cell? ⟨B, 0, none⟩ = some (.slice a0 ds.length c0) := (HX3.out.below hBj HX3.out.lt).cell 0
          have HBJ := Lib.hid hBj; clear hBj
          by_cases hlj : j < UL.length
          · have hbj : (j : Int) + 1 ≤ 9223372036854775807 := by omega
            have hxj : ¬ UL.length = 0 := by omega
            obtain ⟨g3, rfl, hcl3⟩ := HCU.out.resolve_left hxj
            obtain ⟨m0, m1⟩ := cellsU_at UL j hlj
            have h0 := keeps_below HBJ.out _ _ _ (hcl3 _ _ m0)
            have h1 := keeps_below HBJ.out _ _ _ (hcl3 _ _ m1)
            rw [List.drop_eq_getElem_cons hlj, badU] at hPj
            clear m0 m1 hcl3
            obtain ⟨⟨un, ub⟩, hU⟩ : ∃ X, UL[j] = X := ⟨_, rfl⟩
            rw [hU] at h0 h1 hPj
            clear hU
            simp only at h0 h1 hPj
            have hbw : Below w.heap.size w wr := HB3.out.trans (HBJ.out.mono HB3.out.size)
            have HF := Lib.hid (fun m => find_any ds _ un (wr.drewN m) ((HD.out.keep (keeps_below hbw)).keep (drewN_keeps wr m)))
            rcases HKD.out un with ⟨hf1, hf2⟩ | ⟨jj, hjj, hf1, hf2⟩
            · rw [hf1] at HF
              rw [hf2, if_pos rfl] at hPj
              have HPJ := Lib.hid hPj; clear hPj hf1 hf2 hbw
              go_upto_region 22 with fail
              go_quiet ((go_at_call 20; exact Calls.quiet_of_same (HF.out _)))
              go_wp2_with fail
              go_ret2
              exact ⟨by rw [← HPJ.out]; rfl, HB3.out.trans ((below_drewN HBJ.out _).mono HB3.out.size)⟩
            · rw [hf1] at HF
              have hnn := HSZN.out ds[jj] (List.getElem_mem hjj)
              have hxl : ¬ ds.length = 0 := by omega
              obtain ⟨b, o, rfl, hrow⟩ := HROWW.out.resolve_left hxl
              obtain ⟨hty, u0, u1, m0, m1, hnd⟩ := SlIn.item2 rfl hrow jj hjj
              have kk := keeps_below hbw
              have g1 := kk _ _ _ m1
              clear m0 m1 kk hrow hf1
              obtain ⟨X, hX⟩ : ∃ X, ds[jj] = X := ⟨_, rfl⟩
              rw [hX] at hnd hty hnn hf2
              clear hX
              obtain ⟨ty, k, n, nm, xs, cs, ts, es⟩ := X
              simp only [Nd.ty] at hty
              subst hty
              unfold NdIn at hnd
              obtain ⟨-, -, -, -, vx, vc, vt, ve, hvs, -⟩ := hnd
              simp only [lay, List.cons.injEq, and_true] at hvs
              obtain ⟨rfl, rfl⟩ := hvs
              simp only [dSz] at hnn hf2
              have hkk := kD_kind hnn ub
              rw [hf2, if_neg (kD_ne n)] at hPj
              clear hf2 hbw
              have hjn : (jj : Int) < ds.length := by omega
              obtain ⟨bn, hbn⟩ : ∃ b, decide (0 < n) = b := ⟨_, rfl⟩
              rw [hbn] at hkk
              have hj0 : decide ((jj : Int) < 0) = false := by simp
              by_cases he : bn = ub
              · subst he
                rw [if_pos (hkk.2 rfl)] at hPj
                have hne : (bn != bn) = false := by simp
                have HPJ := Lib.hid hPj; clear hPj hkk
                go_upto_region 22 with fail
                go_quiet ((go_at_call 20; exact Calls.quiet_of_same (HF.out _)))
                go_upto_region 25 with fail
                go_quiet (fail)
                go_wp2_with fail
                go_roundw
                case rel => exact ⟨j + 1, by go_num, by omega, HPJ.out, below_drewN HBJ.out _⟩
                case measure => simp [intOf]; omega
              · rw [if_neg (fun h => he (hkk.1 h))] at hPj
                have HPJ := Lib.hid hPj; clear hPj hkk
                cases bn with
                | true =>
                  have hub : ub = false := by cases ub <;> simp_all
                  subst hub
                  clear he
                  go_upto_region 22 with fail
                  go_quiet ((go_at_call 20; exact Calls.quiet_of_same (HF.out _)))
                  go_upto_region 25 with fail
                  go_quiet (fail)
                  go_wp2_with fail
                  go_ret2
                  exact ⟨by rw [← HPJ.out]; rfl, HB3.out.trans ((below_drewN HBJ.out _).mono HB3.out.size)⟩
                | false =>
                  have hub : ub = true := by cases ub <;> simp_all
                  subst hub
                  clear he
                  go_upto_region 22 with fail
                  go_quiet ((go_at_call 20; exact Calls.quiet_of_same (HF.out _)))
                  go_upto_region 25 with fail
                  go_quiet (fail)
                  go_wp2_with fail
                  go_ret2
                  exact ⟨by rw [← HPJ.out]; rfl, HB3.out.trans ((below_drewN HBJ.out _).mono HB3.out.size)⟩
          · obtain rfl : j = UL.length := by omega
            rw [List.drop_length, badU] at hPj
            have HPJ := Lib.hid hPj; clear hPj
            go_wp2_with fail
            go_ret2
            exact ⟨by rw [← HPJ.out]; rfl, HB3.out.trans (HBJ.out.mono HB3.out.size)⟩
  · have hz1 : (FT != 0) = true := by simpa using hz
    have hp : POST = (⟨#[]⟩, FT) := by rw [← HPOST.out, if_pos hz]
    have HP := Lib.hid hp; clear hp HPOST hz HUS HFEW HSZ HKIND HDW
    go_wp2_with (first | (go_at_call 19; (with_reducible refine HT.out.mono ?_); rintro e w2 ⟨rfl, hb2⟩; have HB2 := Lib.hid (below_next HAL.out hb2); clear hb2) | fail)
    go_ret2
    exact ⟨by rw [HP.out]; rfl, HB2.out⟩
end Go.Proofs.Ytofbocmbgadfnaa

/-
  The statements' own program (gnomonlaw3's one): proved is which tree it is, in memory.
-/
namespace Go.Proofs.Ytofbocmbgadfnaa
open Go Go.RowKit

/-- Items whose cells follow one another are a row. -/
theorem RowIn.cells {w : World} {ty : Ty} : ∀ (l : List Nd) (vss : List (List Value)) (b o : Nat), l.length = vss.length → (∀ (i : Nat) (h : i < l.length) (h' : i < vss.length), (l[i]).ty = ty ∧ NdIn w l[i] vss[i]) → (∀ j u, vss.flatten[j]? = some u → w.cell? ⟨b, o + j, none⟩ = some u) → RowIn w ty l b o
  | [], _, _, _, _, _, _ => by unfold RowIn; trivial
  | x :: r, [], _, _, hl, _, _ => by simp at hl
  | x :: r, vs :: vr, b, o, hl, hn, hc => by
    obtain ⟨h1, h2⟩ := hn 0 (by simp) (by simp)
    simp only [List.getElem_cons_zero] at h1 h2
    have hlen := h2.len
    rw [h1] at hlen
    unfold RowIn
    refine ⟨⟨h1, vs, fun j u hj => hc j u ?_, h2⟩, RowIn.cells r vr b (o + ty.size) (by simpa using hl) (fun i h h' => ?_) (fun j u hj => ?_)⟩
    · rw [List.flatten_cons, List.getElem?_append_left (List.getElem?_eq_some_iff.1 hj).1]
      exact hj
    · have := hn (i + 1) (by simpa using h) (by simpa using h')
      simpa using this
    · have := hc (ty.size + j) u (by
        rw [List.flatten_cons, List.getElem?_append_right (by omega), hlen, Nat.add_sub_cancel_left]
        exact hj)
      rwa [← Nat.add_assoc] at this
theorem slIn_blk {w : World} {ty : Ty} {l : List Nd} {vss : List (List Value)} {b : Nat} {t : TypeId} (hB : Blk w b vss.flatten.toArray t) (hl : l.length = vss.length) (hm : l.length ≤ maxLen) (hn : ∀ (i : Nat) (h : i < l.length) (h' : i < vss.length), (l[i]).ty = ty ∧ NdIn w l[i] vss[i]) : SlIn w ty l (.slice (some ⟨b, 0, none⟩) l.length l.length) :=
  ⟨_, _, rfl, Nat.le_refl _, hm, .inr ⟨b, 0, rfl, RowIn.cells l vss b 0 hl hn (fun j u hj => by
    rw [Nat.zero_add]
    have := hB.cell j
    simpa [hj] using this)⟩⟩
def xS : ByteArray := ⟨#[120]⟩
def oneD : Nd := .mk .D 0 0 xS [] [] [] []
def oneV : Nd := .mk .E 2 0 xS [] [] [] []
def oneN : Nd := .mk .E 1 1 ⟨#[]⟩ [] [] [] []
def oneE : Nd := .mk .E 6 0 ⟨#[]⟩ [oneV, oneN] [] [] []
def oneS : Nd := .mk .S 1 0 xS [oneE] [] [] []

theorem Blk.at {w : World} {cs : Array Value} {t : TypeId} {b : Nat} (hb : b = w.heap.size) : Blk (w.alloc (.cells cs t)) b cs t := hb ▸ Blk.new w cs t
def one0 (h : Nat) : Obj := .cells #[.slice (some ⟨h + 3, 0, none⟩) 1 1, .slice (some ⟨h + 5, 0, none⟩) 1 1] 25
def one1 : Obj := .cells #[.int .i64 2, .int .i64 0, .string xS, .slice none 0 0, .int .i64 1, .int .i64 1, .string ⟨#[]⟩, .slice none 0 0] 106
def one2 (h : Nat) : Obj := .cells #[.int .i64 6, .int .i64 0, .string ⟨#[]⟩, .slice (some ⟨h + 1, 0, none⟩) 2 2] 106
def one3 : Obj := .cells #[.string xS, .int .i64 0] 44
def one5 (h : Nat) : Obj := .cells #[.int .i64 1, .string xS, .slice (some ⟨h + 4, 0, none⟩) 1 1, .slice none 0 0, .slice none 0 0, .slice none 0 0] 69
def oneW (w : World) : World := (((((w.alloc (one0 w.heap.size)).alloc one1).alloc (one2 w.heap.size)).alloc one3).alloc (one2 w.heap.size)).alloc (one5 w.heap.size)
theorem nodes1 {w : World} {x : Nd} {vs : List Value} {ty : Ty} (h1 : x.ty = ty) (h2 : NdIn w x vs) : ∀ (i : Nat) (_ : i < [x].length) (_ : i < [vs].length), ([x][i]).ty = ty ∧ NdIn w [x][i] [vs][i]
  | 0, _, _ => ⟨h1, h2⟩
theorem nodes2 {w : World} {x y : Nd} {us vs : List Value} {ty : Ty} (h1 : x.ty = ty) (h2 : NdIn w x us) (h3 : y.ty = ty) (h4 : NdIn w y vs) : ∀ (i : Nat) (_ : i < [x, y].length) (_ : i < [us, vs].length), ([x, y][i]).ty = ty ∧ NdIn w [x, y][i] [us, vs][i]
  | 0, _, _ => ⟨h1, h2⟩
  | 1, _, _ => ⟨h3, h4⟩
theorem ok_of {n : Int} (h : (Lit.int .i64 n).wf = true) : i64ok n := h
theorem oneW_in (w : World) : SlIn (oneW w) .D [oneD] (.slice (some ⟨w.heap.size + 3, 0, none⟩) 1 1) ∧ SlIn (oneW w) .S [oneS] (.slice (some ⟨w.heap.size + 5, 0, none⟩) 1 1) ∧ Below w.heap.size w (oneW w) ∧ Blk (oneW w) w.heap.size #[.slice (some ⟨w.heap.size + 3, 0, none⟩) 1 1, .slice (some ⟨w.heap.size + 5, 0, none⟩) 1 1] 25 := by
  have hb : Below w.heap.size w (oneW w) := ((((((Below.refl _ w).alloc (by simp) _).alloc (by simp <;> omega) _).alloc (by simp <;> omega) _).alloc (by simp <;> omega) _).alloc (by simp <;> omega) _).alloc (by simp <;> omega) _
  have b0 : Blk (oneW w) w.heap.size #[.slice (some ⟨w.heap.size + 3, 0, none⟩) 1 1, .slice (some ⟨w.heap.size + 5, 0, none⟩) 1 1] 25 := (((((Blk.at (by simp)).alloc _).alloc _).alloc _).alloc _).alloc _
  have b1 : Blk (oneW w) (w.heap.size + 1) [[.int .i64 2, .int .i64 0, .string xS, .slice none 0 0], [.int .i64 1, .int .i64 1, .string ⟨#[]⟩, .slice none 0 0]].flatten.toArray 106 := ((((Blk.at (by simp)).alloc _).alloc _).alloc _).alloc _
  have b3 : Blk (oneW w) (w.heap.size + 3) [[.string xS, .int .i64 0]].flatten.toArray 44 := ((Blk.at (by simp)).alloc _).alloc _
  have b4 : Blk (oneW w) (w.heap.size + 4) [[.int .i64 6, .int .i64 0, .string ⟨#[]⟩, .slice (some ⟨w.heap.size + 1, 0, none⟩) 2 2]].flatten.toArray 106 := (Blk.at (by simp)).alloc _
  have b5 : Blk (oneW w) (w.heap.size + 5) [[.int .i64 1, .string xS, .slice (some ⟨w.heap.size + 4, 0, none⟩) 1 1, .slice none 0 0, .slice none 0 0, .slice none 0 0]].flatten.toArray 69 := Blk.at (by simp)
  obtain ⟨W, hW⟩ : ∃ W, oneW w = W := ⟨_, rfl⟩
  rw [hW] at b0 b1 b3 b4 b5 hb ⊢
  have n1 : NdIn W oneV [.int .i64 2, .int .i64 0, .string xS, .slice none 0 0] := by
    unfold oneV NdIn
    exact ⟨⟨rfl, rfl, rfl⟩, by unfold i64ok; decide, ok0, by decide, _, .slice none 0 0, .slice none 0 0, .slice none 0 0, rfl, sl0 W .E, sl0 W .C, sl0 W .S, sl0 W .S⟩
  have n2 : NdIn W oneN [.int .i64 1, .int .i64 1, .string ⟨#[]⟩, .slice none 0 0] := by
    unfold oneN NdIn
    exact ⟨⟨rfl, rfl, rfl⟩, by unfold i64ok; decide, by unfold i64ok; decide, by decide, _, .slice none 0 0, .slice none 0 0, .slice none 0 0, rfl, sl0 W .E, sl0 W .C, sl0 W .S, sl0 W .S⟩
  have l1 : SlIn W .E [oneV, oneN] (.slice (some ⟨w.heap.size + 1, 0, none⟩) 2 2) := slIn_blk b1 rfl (by decide) (nodes2 rfl n1 rfl n2)
  have n4 : NdIn W oneE [.int .i64 6, .int .i64 0, .string ⟨#[]⟩, .slice (some ⟨w.heap.size + 1, 0, none⟩) 2 2] := by
    unfold oneE NdIn
    exact ⟨⟨rfl, rfl, rfl⟩, by unfold i64ok; decide, ok0, by decide, _, .slice none 0 0, .slice none 0 0, .slice none 0 0, rfl, l1, sl0 W .C, sl0 W .S, sl0 W .S⟩
  have l4 : SlIn W .E [oneE] (.slice (some ⟨w.heap.size + 4, 0, none⟩) 1 1) := slIn_blk b4 rfl (by decide) (nodes1 rfl n4)
  have n5 : NdIn W oneS [.int .i64 1, .string xS, .slice (some ⟨w.heap.size + 4, 0, none⟩) 1 1, .slice none 0 0, .slice none 0 0, .slice none 0 0] := by
    unfold oneS NdIn
    exact ⟨rfl, by unfold i64ok; decide, ok0, by decide, _, _, _, _, rfl, l4, sl0 W .C, sl0 W .S, sl0 W .S⟩
  have n3 : NdIn W oneD [.string xS, .int .i64 0] := by
    unfold oneD NdIn
    exact ⟨⟨rfl, rfl, rfl, rfl, rfl⟩, ok0, ok0, by decide, .slice none 0 0, .slice none 0 0, .slice none 0 0, .slice none 0 0, rfl, sl0 W .E, sl0 W .C, sl0 W .S, sl0 W .S⟩
  exact ⟨slIn_blk b3 rfl (by decide) (nodes1 rfl n3), slIn_blk b5 rfl (by decide) (nodes1 rfl n5), hb, b0⟩

end Go.Proofs.Ytofbocmbgadfnaa

/-
  WellExact's own walk: proved is that it answers true for every program that lies in memory, and that it turns nothing that lay.
-/
namespace Go.Proofs.Ytofbocmbgadfnaa
open Go Go.RowKit Go.Maps

def DeclsIn (w : World) (l : List Nd) (v : Value) : Prop := ∃ a c, v = .slice a l.length c ∧ l.length ≤ c ∧ (l.length = 0 ∨ ∃ g, a = some ⟨g, 0, none⟩ ∧ ∀ (j : Nat) u, (cellsD l)[j]? = some u → w.cell? ⟨g, j, none⟩ = some u)
theorem DeclsIn.keep {w w' : World} {l : List Nd} {v : Value} (h : DeclsIn w l v) (hb : Below w.heap.size w w') : DeclsIn w' l v := by
  obtain ⟨a, c, h1, h2, h3⟩ := h
  exact ⟨a, c, h1, h2, h3.imp id fun ⟨g, hg, hc⟩ => ⟨g, hg, fun j u hu => keeps_below hb _ _ _ (hc j u hu)⟩⟩
theorem cellsD_at : ∀ (l : List Nd) (i : Nat) (hi : i < l.length), (cellsD l)[i * 2]? = some (.string (dNm l[i])) ∧ (cellsD l)[i * 2 + 1]? = some (.int .i64 (dSz l[i]))
  | [], i, hi => by simp at hi
  | x :: r, 0, hi => ⟨rfl, rfl⟩
  | x :: r, i + 1, hi => by
    have h := cellsD_at r i (by simpa using hi)
    rw [show (i + 1) * 2 = i * 2 + 1 + 1 by omega]
    simpa [cellsD] using h

set_option maxRecDepth 100000 in
set_option maxHeartbeats 4000000 in
theorem decls_any (l : List Nd) (v u : Value) (w : World) (hv : DeclsIn w l v) (hu : DeclsIn w l u) (hll : l.length ≤ 1099511627776) :
    Calls Try.prog 13 #[v, u] w (fun e w' => e = .returned (.bool true) ∧ Below w.heap.size w w') := by
  obtain ⟨a, c, rfl, hlc, hc1⟩ := hv
  obtain ⟨a', c', rfl, hlc', hc2⟩ := hu
  have HC1 := Lib.hid hc1; clear hc1
  have HC2 := Lib.hid hc2; clear hc2
  have hne : ((l.length : Int) != (l.length : Int)) = false := by simp
  have ND := neq_decl
  go_enter Try.func13, Try.ntmps13
  go_wp2_with fail
  go_loopw [5] (fun x wr => ∃ i : Nat, x = .int .i64 i ∧ i ≤ l.length ∧ Below w.heap.size w wr) (fun x _ => l.length - (intOf x).toNat)
  case atStart => exact ⟨0, rfl, by omega, Below.refl _ _⟩
  case round =>
    obtain ⟨i, rfl, hi, hbr⟩ := hrel
    by_cases hlt : i < l.length
    · have hbi : (i : Int) + 1 ≤ 9223372036854775807 := by omega
      have hxl : ¬ l.length = 0 := by omega
      obtain ⟨g, rfl, hcell⟩ := HC1.out.resolve_left hxl
      obtain ⟨g', rfl, hcell'⟩ := HC2.out.resolve_left hxl
      obtain ⟨m0, m1⟩ := cellsD_at l i hlt
      have k0 := keeps_below hbr _ _ _ (hcell _ _ m0)
      have k1 := keeps_below hbr _ _ _ (hcell _ _ m1)
      have j0 := keeps_below hbr _ _ _ (hcell' _ _ m0)
      have j1 := keeps_below hbr _ _ _ (hcell' _ _ m1)
      obtain ⟨X, hX⟩ : ∃ X, dNm l[i] = X := ⟨_, rfl⟩
      obtain ⟨Y, hY⟩ : ∃ Y, dSz l[i] = Y := ⟨_, rfl⟩
      rw [hX] at k0 j0
      rw [hY] at k1 j1
      have hq : (!((X.toList == X.toList) && (Y == Y))) = false := by simp
      clear hX hY hcell hcell' m0 m1
      have HBR := Lib.hid hbr; clear hbr
      go_upto_region 6 with fail
      go_cut [25] (fun s wx => s = .bool false ∧ Below w.heap.size w wx)
      case first =>
        go_region
        all_goals
          go_wp2_with fail
          go_meet
          exact ⟨by first | rfl | simp, HBR.out.drew⟩
      case rest =>
        obtain ⟨rfl, hb⟩ := hcut
        clear k0 k1 j0 j1 HBR
        go_wp2_with fail
        go_roundw
        case rel => exact ⟨i + 1, by go_num, by omega, hb⟩
        case measure => simp [intOf]; omega
    · obtain rfl : i = l.length := by omega
      go_wp2_with fail
      go_ret
      exact ⟨rfl, hbr⟩

theorem known_P : wellP [oneD, oneD] [] = (xS, 60) := by decide +kernel
theorem sl_none (w : World) (ty : Ty) : SlIn w ty [] (.slice none 0 0) := slIn_nil w ty
theorem oneD_in (w : World) : NdIn w oneD [.string xS, .int .i64 0] := by
  unfold oneD NdIn
  exact ⟨⟨rfl, rfl, rfl, rfl, rfl⟩, by unfold i64ok; decide, by unfold i64ok; decide, by decide, .slice none 0 0, .slice none 0 0, .slice none 0 0, .slice none 0 0, rfl, slIn_nil w .E, slIn_nil w .C, slIn_nil w .S, slIn_nil w .S⟩
theorem two_in (w : World) (b : Nat) (hb : b = w.heap.size) : SlIn (w.alloc (.cells #[.string ⟨#[120]⟩, .int .i64 0, .string ⟨#[120]⟩, .int .i64 0] 44)) .D [oneD, oneD] (.slice (some ⟨b, 0, none⟩) 2 2) :=
  slIn_blk (vss := [[.string xS, .int .i64 0], [.string xS, .int .i64 0]]) (t := 44) (Blk.at hb) rfl (by decide) (nodes2 rfl (oneD_in _) rfl (oneD_in _))

set_option maxRecDepth 100000 in
set_option maxHeartbeats 4000000 in
theorem wknown_any (w : World) :
    Calls Try.prog 6 #[] w (fun e w' => e = .returned (.bool true) ∧ Below w.heap.size w w') := by
  have hC := fun v0 v1 w hd hs => wcheck_any [oneD, oneD] [] v0 v1 w hd hs
  simp only [known_P] at hC
  have HC := Lib.hid (hC _ _ _ (two_in w _ rfl) (slIn_nil _ .S)); clear hC
  have HB := Lib.hid ((Below.refl _ w).alloc (Nat.le_refl _) (.cells #[.string ⟨#[120]⟩, .int .i64 0, .string ⟨#[120]⟩, .int .i64 0] 44))
  have hx : (xS.toList == [120]) = true := by decide +kernel
  go_enter Try.func6, Try.ntmps6
  go_wp2_with fail
  refine HC.out.mono ?_
  rintro e w1 ⟨rfl, hb1⟩
  have HB1 := Lib.hid (below_next HB.out hb1); clear hb1
  go_wp2_with fail
  go_ret
  exact ⟨rfl, HB1.out⟩

set_option maxRecDepth 100000 in
set_option maxHeartbeats 8000000 in
theorem wexact_any (ds ss : List Nd) (v0 v1 : Value) (w : World) (hd : SlIn w .D ds v0) (hs : SlIn w .S ss v1) :
    Calls Try.prog 3 #[.agg #[v0, v1]] w (fun e w' => e = .returned (.bool true) ∧ Below w.heap.size w w') := by
  have HK := Lib.hid wknown_any
  have hfd := fit_list hd
  have hnd := noD_list hs
  have hc := fun w1 (hb : Below w.heap.size w w1) => wcheck_any ds ss v0 v1 w1 (hd.keep (keeps_below hb)) (hs.keep (keeps_below hb))
  have hr := fun w1 (hb : Below w.heap.size w w1) => rcheck6_any ds ss v0 v1 w1 (hd.keep (keeps_below hb)) (hs.keep (keeps_below hb))
  have hv := fun w1 (hb : Below w.heap.size w w1) => wvars_any ds ss v0 v1 w1 (hd.keep (keeps_below hb)) (hs.keep (keeps_below hb))
  have ha := fun w1 (hb : Below w.heap.size w w1) => warrs_any ds ss v0 v1 w1 (hd.keep (keeps_below hb)) (hs.keep (keeps_below hb))
  have hfew := fun h => names_few hfd hnd (fault_lim (wellP_ok (ds := ds) (ss := ss) h).1)
  have hsz := fun h => sizes_ok hfd (wellP_ok (ds := ds) (ss := ss) h).1
  unfold ListTo at hv ha
  obtain ⟨⟨WN, WE⟩, hW⟩ : ∃ p, wellP ds ss = p := ⟨_, rfl⟩
  simp only [hW] at hc hr hv ha hfew hsz
  clear hW hnd hfd
  have HD := Lib.hid hd
  obtain ⟨a0, c0, rfl, -⟩ := hd
  obtain ⟨a1, c1, rfl, -⟩ := hs
  obtain ⟨W1, hW1⟩ : ∃ W1, w.alloc (.cells #[.slice a0 ds.length c0, .slice a1 ss.length c1] 25) = W1 := ⟨_, rfl⟩
  have hal : Below w.heap.size w W1 := by rw [← hW1]; exact (Below.refl _ w).alloc (Nat.le_refl _) _
  have hX1 : Blk W1 w.heap.size #[.slice a0 ds.length c0, .slice a1 ss.length c1] 25 := by rw [← hW1]; exact Blk.new w _ _
  have x0 : W1.cell? ⟨w.heap.size, 0, none⟩ = some (.slice a0 ds.length c0) := hX1.cell 0
  have y0 : W1.cell? ⟨w.heap.size, 1, none⟩ = some (.slice a1 ss.length c1) := hX1.cell 1
  have HX1 := Lib.hid hX1; clear hX1
  have HAL := Lib.hid hal; clear hal
  have HW1 := Lib.hid hW1; clear hW1
  have hne1 : (WN.toList != WN.toList) = false := by simp
  have hne2 : (WE != WE) = false := by simp
  have HC := Lib.hid hc; clear hc
  have HR := Lib.hid hr; clear hr
  by_cases hz : WE = 0
  · subst hz
    have hf := hfew (by simp)
    have hszz := hsz (by simp)
    clear hfew hsz
    simp only [if_true] at hv ha
    have HV := Lib.hid hv; clear hv
    have HA := Lib.hid ha; clear ha
    have HRV := Lib.hid (fun w1 (hb : Below w.heap.size w w1) => rvars_any ds _ (.slice a1 ss.length c1) w1 (HD.out.keep (keeps_below hb)) ⟨_, _, _, rfl⟩ (by omega) hszz)
    have HRA := Lib.hid (fun w1 (hb : Below w.heap.size w w1) => rarrs_any ds _ (.slice a1 ss.length c1) w1 (HD.out.keep (keeps_below hb)) ⟨_, _, _, rfl⟩ (by omega) hszz)
    have hvl : (varsL ds).length ≤ 4096 := by have := varsL_le ds ds.length; rw [List.take_length] at this; omega
    have hal : (arrsL ds).length ≤ 4096 := by have := arrsL_le ds ds.length; rw [List.take_length] at this; omega
    clear hszz hf
    obtain ⟨VL, hVL⟩ : ∃ l, varsL ds = l := ⟨_, rfl⟩
    obtain ⟨AL, hAL⟩ : ∃ l, arrsL ds = l := ⟨_, rfl⟩
    rw [hVL] at HV HRV hvl
    rw [hAL] at HA HRA hal
    clear hVL hAL
    have hX := fun v u w hv hu => texts_any VL VL v u w hv hu (by omega)
    simp only [sameT_refl] at hX
    have HTX := Lib.hid hX; clear hX
    have HDX := Lib.hid (fun v u w hv hu => decls_any AL v u w hv hu (by omega))
    go_enter Try.func3, Try.ntmps3
    go_upto_region 1 with fail
    rw [HW1.out]
    clear HW1
    go_wp2_with (first | (go_at_call 6; (with_reducible refine (HK.out _).mono ?_); rintro e w1 ⟨rfl, hb1⟩; have HA1 := Lib.hid (hb1); have x1 := (HX1.out.below HA1.out HX1.out.lt).cell 0; have y1 := (HX1.out.below HA1.out HX1.out.lt).cell 1; simp at x1 y1; clear hb1) | (go_at_call 7; (with_reducible refine (HC.out _ (below_next HAL.out HA1.out)).mono ?_); rintro e w2 ⟨rfl, hb2⟩; have HA2 := Lib.hid (below_next HA1.out hb2); have x2 := (HX1.out.below HA2.out HX1.out.lt).cell 0; have y2 := (HX1.out.below HA2.out HX1.out.lt).cell 1; simp at x2 y2; clear hb2) | (go_at_call 8; (with_reducible refine (HR.out _ (below_next HAL.out HA2.out)).mono ?_); rintro e w3 ⟨rfl, hb3⟩; have HA3 := Lib.hid (below_next HA2.out hb3); have x3 := (HX1.out.below HA3.out HX1.out.lt).cell 0; have y3 := (HX1.out.below HA3.out HX1.out.lt).cell 1; simp at x3 y3; clear hb3) | (go_at_call 9; (with_reducible refine (HV.out _ (below_next HAL.out HA3.out)).mono ?_); rintro e w4 ⟨vv, rfl, hOv, hb4⟩; have HA4 := Lib.hid (below_next HA3.out hb4); have x4 := (HX1.out.below HA4.out HX1.out.lt).cell 0; have y4 := (HX1.out.below HA4.out HX1.out.lt).cell 1; simp at x4 y4; have SV4 := Lib.hid (strs_own hOv); obtain ⟨av, cv, rfl, -⟩ := own_cells hOv; clear hOv; clear hb4) | (go_at_call 10; (with_reducible refine (HA.out _ (below_next HAL.out HA4.out)).mono ?_); rintro e w5 ⟨va, rfl, hOa, hb5⟩; have HA5 := Lib.hid (below_next HA4.out hb5); have x5 := (HX1.out.below HA5.out HX1.out.lt).cell 0; have y5 := (HX1.out.below HA5.out HX1.out.lt).cell 1; simp at x5 y5; have SV5 := Lib.hid (SV4.out.keep hb5); have SA5 := Lib.hid (show DeclsIn w5 AL va from own_cells hOa); obtain ⟨aa, ca, rfl, -⟩ := own_cells hOa; clear hOa; clear hb5) | (go_at_call 12; (with_reducible refine (HRV.out _ (below_next HAL.out HA5.out)).mono ?_); rintro e w6 ⟨vr, rfl, hOr, hb6⟩; have HA6 := Lib.hid (below_next HA5.out hb6); have x6 := (HX1.out.below HA6.out HX1.out.lt).cell 0; have y6 := (HX1.out.below HA6.out HX1.out.lt).cell 1; simp at x6 y6; have SV6 := Lib.hid (SV5.out.keep hb6); have SA6 := Lib.hid (SA5.out.keep hb6); have SR6 := Lib.hid (strs_own hOr); clear hOr; clear hb6) | (go_at_call 11; (with_reducible refine (HTX.out _ _ _ SV6.out SR6.out).mono ?_); rintro e w7 ⟨rfl, hb7⟩; have HA7 := Lib.hid (below_next HA6.out hb7); have x7 := (HX1.out.below HA7.out HX1.out.lt).cell 0; have y7 := (HX1.out.below HA7.out HX1.out.lt).cell 1; simp at x7 y7; have SA7 := Lib.hid (SA6.out.keep hb7); clear hb7) | (go_at_call 14; (with_reducible refine (HRA.out _ (below_next HAL.out HA7.out)).mono ?_); rintro e w8 ⟨vq, rfl, hOq, hb8⟩; have HA8 := Lib.hid (below_next HA7.out hb8); have x8 := (HX1.out.below HA8.out HX1.out.lt).cell 0; have y8 := (HX1.out.below HA8.out HX1.out.lt).cell 1; simp at x8 y8; have SA8 := Lib.hid (SA7.out.keep hb8); have SQ8 := Lib.hid (show DeclsIn w8 AL vq from own_cells hOq); clear hOq; clear hb8) | (go_at_call 13; (with_reducible refine (HDX.out _ _ _ SA8.out SQ8.out).mono ?_); rintro e w9 ⟨rfl, hb9⟩; have HA9 := Lib.hid (below_next HA8.out hb9); have x9 := (HX1.out.below HA9.out HX1.out.lt).cell 0; have y9 := (HX1.out.below HA9.out HX1.out.lt).cell 1; simp at x9 y9; clear hb9) | fail)
    go_ret
    exact ⟨rfl, below_next HAL.out HA9.out⟩
  · have hz1 : (WE != 0) = true := by simpa using hz
    simp only [if_neg hz] at hv ha
    clear hfew hsz hz
    have HV := Lib.hid hv; clear hv
    have HA := Lib.hid ha; clear ha
    go_enter Try.func3, Try.ntmps3
    go_upto_region 1 with fail
    rw [HW1.out]
    clear HW1
    go_wp2_with (first | (go_at_call 6; (with_reducible refine (HK.out _).mono ?_); rintro e w1 ⟨rfl, hb1⟩; have HA1 := Lib.hid (hb1); have x1 := (HX1.out.below HA1.out HX1.out.lt).cell 0; have y1 := (HX1.out.below HA1.out HX1.out.lt).cell 1; simp at x1 y1; clear hb1) | (go_at_call 7; (with_reducible refine (HC.out _ (below_next HAL.out HA1.out)).mono ?_); rintro e w2 ⟨rfl, hb2⟩; have HA2 := Lib.hid (below_next HA1.out hb2); have x2 := (HX1.out.below HA2.out HX1.out.lt).cell 0; have y2 := (HX1.out.below HA2.out HX1.out.lt).cell 1; simp at x2 y2; clear hb2) | (go_at_call 8; (with_reducible refine (HR.out _ (below_next HAL.out HA2.out)).mono ?_); rintro e w3 ⟨rfl, hb3⟩; have HA3 := Lib.hid (below_next HA2.out hb3); have x3 := (HX1.out.below HA3.out HX1.out.lt).cell 0; have y3 := (HX1.out.below HA3.out HX1.out.lt).cell 1; simp at x3 y3; clear hb3) | (go_at_call 9; (with_reducible refine (HV.out _ (below_next HAL.out HA3.out)).mono ?_); rintro e w4 ⟨vv, rfl, hOv, hb4⟩; have HA4 := Lib.hid (below_next HA3.out hb4); have x4 := (HX1.out.below HA4.out HX1.out.lt).cell 0; have y4 := (HX1.out.below HA4.out HX1.out.lt).cell 1; simp at x4 y4; obtain ⟨av, cv, rfl, -⟩ := own_cells hOv; clear hOv; clear hb4) | (go_at_call 10; (with_reducible refine (HA.out _ (below_next HAL.out HA4.out)).mono ?_); rintro e w5 ⟨va, rfl, hOa, hb5⟩; have HA5 := Lib.hid (below_next HA4.out hb5); have x5 := (HX1.out.below HA5.out HX1.out.lt).cell 0; have y5 := (HX1.out.below HA5.out HX1.out.lt).cell 1; simp at x5 y5; obtain ⟨aa, ca, rfl, -⟩ := own_cells hOa; clear hOa; clear hb5) | fail)
    go_ret
    exact ⟨rfl, below_next HAL.out HA5.out⟩
end Go.Proofs.Ytofbocmbgadfnaa

/-
  Plain: what makes a program a tree and well, part by part: a part of the body, and the declarations the other way round, change nothing of it.
-/
namespace Go.Proofs.Ytofbocmbgadfnaa
open Go Go.RowKit Go.Maps

mutual
/-- No node is too deep. -/
def deepN : Nd → Int → Bool
  | .mk ty _ _ _ xs cs ts es, d => decide (d ≤ 64) && match ty with
    | .E => deepL xs (d + 1)
    | .C => deepL xs (d + 1) && deepL cs (d + 1)
    | .S => deepL cs (d + 1) && (deepL xs (d + 1) && (deepL ts (d + 1) && deepL es (d + 1)))
    | .D => true
def deepL : List Nd → Int → Bool
  | [], _ => true
  | x :: r, d => deepN x d && deepL r d
end
theorem ite_lim {a b : Tr} : (if a.lim ≠ 0 then a else b).lim = 0 ↔ a.lim = 0 ∧ b.lim = 0 := by
  by_cases h : a.lim = 0
  · simp [h]
  · simp [h]
theorem node_lim {x : Nd} {d : Int} {t : Tr} (hl : t.l.length ≤ 4096) : (nodeT x d t).lim = 0 ↔ t.l.length + 1 ≤ 4096 ∧ d ≤ 64 := by
  unfold nodeT
  by_cases h : byd t.l.length d = 0
  · rw [if_neg (by simpa using h)]
    have := byd_zero h
    exact ⟨fun _ => ⟨by omega, this.2⟩, fun _ => rfl⟩
  · rw [if_pos h]
    refine ⟨fun e => absurd e h, fun ⟨h1, h2⟩ => absurd ?_ h⟩
    unfold byd
    rw [if_neg (by omega), if_neg (by omega)]
mutual
theorem lim_N : ∀ (x : Nd) (d : Int) (t : Tr), t.lim = 0 → t.l.length ≤ 4096 → ((tourN x d t).lim = 0 ↔ t.l.length + (allN x).length ≤ 4096 ∧ deepN x d = true)
  | .mk ty k n nm xs cs ts es, d, t, h0, hl => by
    rw [tourN_eq, ite_lim, node_lim hl]
    by_cases hN : t.l.length + 1 ≤ 4096 ∧ d ≤ 64
    · have hN0 := (node_lim (x := .mk ty k n nm xs cs ts es) (d := d) hl).2 hN
      have hL := list_node hN0
      obtain ⟨T, hT⟩ : ∃ T, nodeT (.mk ty k n nm xs cs ts es) d t = T := ⟨_, rfl⟩
      rw [hT] at hN0 hL ⊢
      have hlen : T.l.length = t.l.length + 1 := by rw [hL]; simp
      have hd : decide (d ≤ 64) = true := by simpa using hN.2
      have hTl : T.l.length ≤ 4096 := by omega
      cases ty with
      | E =>
        have h1 := lim_L xs (d + 1) T hN0 hTl
        unfold kidsT allN deepN
        simp only [hd, Bool.true_and, List.length_cons]
        rw [h1]
        constructor
        · rintro ⟨_, h2, h3⟩; exact ⟨by omega, h3⟩
        · rintro ⟨h2, h3⟩; exact ⟨hN, by omega, h3⟩
      | C =>
        have h1 := lim_L xs (d + 1) T hN0 hTl
        unfold kidsT allN deepN
        simp only [hd, Bool.true_and, List.length_cons, List.length_append, Bool.and_eq_true]
        rw [ite_lim, h1]
        constructor
        · rintro ⟨_, ⟨h2, h3⟩, h4⟩
          have ha := h1.2 ⟨h2, h3⟩
          have e1 := list_L xs (d + 1) T ha
          have hb := (lim_L cs (d + 1) _ ha (by rw [e1, List.length_append]; omega)).1 h4
          rw [e1, List.length_append] at hb
          exact ⟨by omega, h3, hb.2⟩
        · rintro ⟨h2, h3, h4⟩
          have ha := h1.2 ⟨by omega, h3⟩
          have e1 := list_L xs (d + 1) T ha
          refine ⟨hN, ⟨by omega, h3⟩, (lim_L cs (d + 1) _ ha (by rw [e1, List.length_append]; omega)).2 ⟨by rw [e1, List.length_append]; omega, h4⟩⟩
      | S =>
        have h1 := lim_L cs (d + 1) T hN0 hTl
        unfold kidsT allN deepN
        simp only [hd, Bool.true_and, List.length_cons, List.length_append, Bool.and_eq_true]
        rw [ite_lim, h1, ite_lim, ite_lim]
        constructor
        · rintro ⟨_, ⟨h2, h3⟩, h4, h5, h6⟩
          have ha := h1.2 ⟨h2, h3⟩
          have e1 := list_L cs (d + 1) T ha
          have hb := (lim_L xs (d + 1) _ ha (by rw [e1, List.length_append]; omega)).1 h4
          have e2 := list_L xs (d + 1) _ h4
          have hc := (lim_L ts (d + 1) _ h4 (by rw [e2, List.length_append]; omega)).1 h5
          have e3 := list_L ts (d + 1) _ h5
          have he := (lim_L es (d + 1) _ h5 (by rw [e3, List.length_append]; omega)).1 h6
          rw [e1, List.length_append] at hb
          rw [e2, e1, List.length_append, List.length_append] at hc
          rw [e3, e2, e1, List.length_append, List.length_append, List.length_append] at he
          exact ⟨by omega, h3, hb.2, hc.2, he.2⟩
        · rintro ⟨h2, h3, h4, h5, h6⟩
          have ha := h1.2 ⟨by omega, h3⟩
          have e1 := list_L cs (d + 1) T ha
          have hb := (lim_L xs (d + 1) _ ha (by rw [e1, List.length_append]; omega)).2 ⟨by rw [e1, List.length_append]; omega, h4⟩
          have e2 := list_L xs (d + 1) _ hb
          have hc := (lim_L ts (d + 1) _ hb (by rw [e2, e1, List.length_append, List.length_append]; omega)).2 ⟨by rw [e2, e1, List.length_append, List.length_append]; omega, h5⟩
          have e3 := list_L ts (d + 1) _ hc
          have he := (lim_L es (d + 1) _ hc (by rw [e3, e2, e1, List.length_append, List.length_append, List.length_append]; omega)).2 ⟨by rw [e3, e2, e1, List.length_append, List.length_append, List.length_append]; omega, h6⟩
          exact ⟨hN, ⟨by omega, h3⟩, hb, hc, he⟩
      | D =>
        unfold kidsT allN deepN
        simp only [hd, Bool.true_and, List.length_cons, List.length_nil]
        exact ⟨fun _ => ⟨by omega, trivial⟩, fun _ => ⟨hN, hN0⟩⟩
    · constructor
      · rintro ⟨h, _⟩; exact absurd h hN
      · rintro ⟨h1, h2⟩
        refine absurd ⟨?_, ?_⟩ hN
        · unfold allN at h1; rw [List.length_cons] at h1; omega
        · unfold deepN at h2; rw [Bool.and_eq_true] at h2; simpa using h2.1
theorem lim_L : ∀ (l : List Nd) (d : Int) (t : Tr), t.lim = 0 → t.l.length ≤ 4096 → ((tourL l d t).lim = 0 ↔ t.l.length + (allL l).length ≤ 4096 ∧ deepL l d = true)
  | [], d, t, h0, hl => by
    unfold tourL allL deepL
    exact ⟨fun _ => ⟨by simpa using hl, rfl⟩, fun _ => h0⟩
  | x :: r, d, t, h0, hl => by
    have h1 := lim_N x d t h0 hl
    unfold tourL allL deepL
    rw [ite_lim, h1, List.length_append, Bool.and_eq_true]
    constructor
    · rintro ⟨⟨h2, h3⟩, h4⟩
      have ha := h1.2 ⟨h2, h3⟩
      have e1 := list_N x d t ha
      have hb := (lim_L r d _ ha (by rw [e1, List.length_append]; omega)).1 h4
      rw [e1, List.length_append] at hb
      exact ⟨by omega, h3, hb.2⟩
    · rintro ⟨h2, h3, h4⟩
      have ha := h1.2 ⟨by omega, h3⟩
      have e1 := list_N x d t ha
      exact ⟨⟨by omega, h3⟩, (lim_L r d _ ha (by rw [e1, List.length_append]; omega)).2 ⟨by rw [e1, List.length_append]; omega, h4⟩⟩
end
theorem prog_lim (ds ss : List Nd) : (progT ds ss).lim = 0 ↔ (allL ds).length + (allL ss).length ≤ 4096 ∧ deepL ds 1 = true ∧ deepL ss 1 = true := by
  unfold progT
  have h1 := lim_L ds 1 ⟨[], 0, 0⟩ rfl (by simp)
  rw [ite_lim, h1]
  simp only [List.length_nil, Nat.zero_add]
  constructor
  · rintro ⟨⟨h2, h3⟩, h4⟩
    have ha := h1.2 ⟨by simpa using h2, h3⟩
    have e1 := list_L ds 1 ⟨[], 0, 0⟩ ha
    rw [List.nil_append] at e1
    have hb := (lim_L ss 1 _ ha (by rw [e1]; omega)).1 h4
    rw [e1] at hb
    exact ⟨hb.1, h3, hb.2⟩
  · rintro ⟨h2, h3, h4⟩
    have ha := h1.2 ⟨by simp; omega, h3⟩
    have e1 := list_L ds 1 ⟨[], 0, 0⟩ ha
    rw [List.nil_append] at e1
    exact ⟨⟨by omega, h3⟩, (lim_L ss 1 _ ha (by rw [e1]; omega)).2 ⟨by rw [e1]; omega, h4⟩⟩
/-- Each node has its form, and its name. -/
def goodN (x : Nd) : Prop := wellN x = true ∧ namelessB x = false
theorem fault_zero (ds ss : List Nd) : faultT (progT ds ss) = 0 ↔ (allL ds).length + (allL ss).length ≤ 4096 ∧ deepL ds 1 = true ∧ deepL ss 1 = true ∧ (∀ x ∈ allL ds, goodN x) ∧ (∀ x ∈ allL ss, goodN x) := by
  have h1 : faultT (progT ds ss) = 0 ↔ (progT ds ss).lim = 0 ∧ ∀ x ∈ (progT ds ss).l, goodN x := by
    unfold faultT
    by_cases hl : (progT ds ss).lim = 0
    · rw [if_neg (by simpa using hl)]
      cases ha : (progT ds ss).l.any (fun x => !wellN x) with
      | true =>
        simp only [if_true]
        refine ⟨fun h => absurd h (by decide), fun ⟨_, h⟩ => ?_⟩
        obtain ⟨x, hx, hw⟩ := List.any_eq_true.1 ha
        rw [(h x hx).1] at hw
        cases hw
      | false =>
        simp only [Bool.false_eq_true, if_false]
        cases hb : (progT ds ss).l.any namelessB with
        | true =>
          simp only [if_true]
          refine ⟨fun h => absurd h (by decide), fun ⟨_, h⟩ => ?_⟩
          obtain ⟨x, hx, hw⟩ := List.any_eq_true.1 hb
          rw [(h x hx).2] at hw
          cases hw
        | false =>
          simp only [Bool.false_eq_true, if_false]
          refine ⟨fun _ => ⟨hl, fun x hx => ⟨?_, ?_⟩⟩, fun _ => trivial⟩
          · cases hw : wellN x with
            | true => rfl
            | false =>
              have : (progT ds ss).l.any (fun x => !wellN x) = true := List.any_eq_true.2 ⟨x, hx, by rw [hw]; rfl⟩
              rw [ha] at this
              cases this
          · cases hw : namelessB x with
            | false => rfl
            | true =>
              have : (progT ds ss).l.any namelessB = true := List.any_eq_true.2 ⟨x, hx, hw⟩
              rw [hb] at this
              cases this
    · rw [if_pos hl]
      exact ⟨fun h => absurd h hl, fun h => absurd h.1 hl⟩
  rw [h1, prog_lim]
  constructor
  · rintro ⟨⟨h2, h3, h4⟩, h5⟩
    rw [progT_list ((prog_lim ds ss).2 ⟨h2, h3, h4⟩), allL_app] at h5
    exact ⟨h2, h3, h4, fun x hx => h5 x (List.mem_append_left _ hx), fun x hx => h5 x (List.mem_append_right _ hx)⟩
  · rintro ⟨h2, h3, h4, h5, h6⟩
    refine ⟨⟨h2, h3, h4⟩, ?_⟩
    rw [progT_list ((prog_lim ds ss).2 ⟨h2, h3, h4⟩), allL_app]
    intro x hx
    exact (List.mem_append.1 hx).elim (h5 x) (h6 x)
theorem deepL_app : ∀ (l m : List Nd) (d : Int), deepL (l ++ m) d = (deepL l d && deepL m d)
  | [], m, d => by simp [deepL]
  | x :: r, m, d => by rw [List.cons_append, deepL, deepL, deepL_app r m d, Bool.and_assoc]
theorem badU_app (f : ByteArray → Int) : ∀ (l m : List Us), (badU f (l ++ m)).2 = 0 ↔ (badU f l).2 = 0 ∧ (badU f m).2 = 0
  | [], m => by simp [badU]
  | x :: r, m => by
    have ih := badU_app f r m
    rw [List.cons_append, badU, badU]
    split
    · simp
    · split
      · exact ih
      · simp
theorem wellP_iff (ds ss : List Nd) : (wellP ds ss).2 = 0 ↔ faultT (progT ds ss) = 0 ∧ (declW [] ds).2 = 0 ∧ (badU (lookL ds) (usesL ss)).2 = 0 := by
  refine ⟨wellP_ok, fun ⟨h1, h2, h3⟩ => ?_⟩
  unfold wellP
  rw [if_neg (by simpa using h1), if_neg (by simpa using h2)]
  exact h3
/-- P6.3: a part of the body. -/
theorem well_part {ds a b c : List Nd} (h : (wellP ds (a ++ (b ++ c))).2 = 0) : (wellP ds b).2 = 0 := by
  obtain ⟨h1, h2, h3⟩ := (wellP_iff _ _).1 h
  obtain ⟨g1, g2, g3, g4, g5⟩ := (fault_zero _ _).1 h1
  refine (wellP_iff _ _).2 ⟨(fault_zero _ _).2 ⟨?_, g2, ?_, g4, fun x hx => g5 x ?_⟩, h2, ?_⟩
  · rw [allL_app, allL_app, List.length_append, List.length_append] at g1
    omega
  · rw [deepL_app, deepL_app, Bool.and_eq_true, Bool.and_eq_true] at g3
    exact g3.2.1
  · rw [allL_app, allL_app]
    exact List.mem_append_right _ (List.mem_append_left _ hx)
  · rw [usesL_app, usesL_app] at h3
    exact ((badU_app _ _ _).1 ((badU_app _ _ _).1 h3).2).1
theorem vars_arrs (ds : List Nd) : (varsL ds).length + (arrsL ds).length = ds.length := by
  unfold varsL arrsL
  rw [List.length_map]
  induction ds with
  | nil => rfl
  | cons x r ih =>
    cases h : (dSz x == 0) <;> simp [h] <;> omega
end Go.Proofs.Ytofbocmbgadfnaa
