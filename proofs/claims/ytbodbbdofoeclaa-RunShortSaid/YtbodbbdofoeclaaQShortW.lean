/-
  The statement's own walk: gnomonlaw8.RunShort answers true for every two numbers.
-/
import Derived.Test.YtbodbbdofoeclaaQShortV

namespace Go.Proofs.Ytbodbbdofoeclaa
open Go Go.RowKit Go.Maps

theorem shK_ok (r : Bool) : i64ok (shK r) := by cases r <;> exact small_ok (by decide) (by decide)
theorem shC_ty (a b : Int) (r n : Bool) : (shC a b r n).ty = .C := by cases n <;> rfl
theorem shA_in {w : World} {a b : Int} {r : Bool} {v : Value} (h : SlIn w .C [sh1 a b, sh2] v) : NdIn w (shA a b r) [.int .i64 (shK r), .int .i64 0, .slice none 0 0, v] := by
  unfold shA NdIn
  exact ⟨⟨rfl, rfl, rfl⟩, shK_ok r, ok0, by decide, .slice none 0 0, v, .slice none 0 0, .slice none 0 0, rfl, sl0 w .E, h, sl0 w .S, sl0 w .S⟩
theorem shNot_in {w : World} {c : Nd} {v : Value} (h : SlIn w .C [c] v) : NdIn w (shNot c) [.int .i64 4, .int .i64 0, .slice none 0 0, v] := by
  unfold shNot NdIn
  exact ⟨⟨rfl, rfl, rfl⟩, small_ok (by decide) (by decide), ok0, by decide, .slice none 0 0, v, .slice none 0 0, .slice none 0 0, rfl, sl0 w .E, h, sl0 w .S, sl0 w .S⟩
theorem ifS_in {w : World} {c : Nd} {ts es : List Nd} {v1 v2 v3 : Value} (h1 : SlIn w .C [c] v1) (h2 : SlIn w .S ts v2) (h3 : SlIn w .S es v3) : NdIn w (ifS c ts es) [.int .i64 3, .string ⟨#[]⟩, .slice none 0 0, v1, v2, v3] := by
  unfold ifS NdIn
  exact ⟨rfl, small_ok (by decide) (by decide), ok0, by decide, .slice none 0 0, v1, v2, v3, rfl, sl0 w .E, h1, h2, h3⟩
set_option maxRecDepth 100000 in
set_option maxHeartbeats 8000000 in
theorem short_any (a b : Int) (r n : Bool) (w : World) (ha : (Lit.int .i64 a).wf = true) (hb : (Lit.int .i64 b).wf = true) :
    Calls Try.prog 7 #[.int .i64 a, .int .i64 b, .bool r, .bool n] w (fun e w' => e = .returned (.bool true) ∧ Below w.heap.size w w') := by
  have HK := Lib.hid (known8_any w)
  have HFI := Lib.hid (And.intro (wf_fits ha) (wf_fits hb))
  clear ha hb
  by_cases a0 : a = -9223372036854775808
  · have t1 : (a == -9223372036854775808) = true := by simpa using a0
    clear a0
    go_enter Try.func7, Try.ntmps7
    go_wp2_with (first | (go_at_call 8; (with_reducible refine HK.out.mono ?_); rintro e w1 ⟨rfl, hb1⟩; have HB1 := Lib.hid hb1; clear hb1) | fail)
    go_ret
    exact ⟨rfl, HB1.out⟩
  have t1 : (a == -9223372036854775808) = false := by simpa using a0
  by_cases b0 : b = -9223372036854775808
  · have t2 : (b == -9223372036854775808) = true := by simpa using b0
    clear a0 b0
    go_enter Try.func7, Try.ntmps7
    go_wp2_with (first | (go_at_call 8; (with_reducible refine HK.out.mono ?_); rintro e w1 ⟨rfl, hb1⟩; have HB1 := Lib.hid hb1; clear hb1) | fail)
    go_ret
    exact ⟨rfl, HB1.out⟩
  have t2 : (b == -9223372036854775808) = false := by simpa using b0
  have HF := Lib.hid (And.intro (sh_runF a b r n) (sh_runO a b r n))
  have HNA := Lib.hid (fun w => number_any a HFI.out.1 a0 w)
  have HNB := Lib.hid (fun w => number_any b HFI.out.2 b0 w)
  have HN0 := Lib.hid (fun w => number_any 0 (by decide) (by decide) w)
  have HN1 := Lib.hid (fun w => number_any 1 (by decide) (by decide) w)
  have HN2 := Lib.hid (fun w => number_any 2 (by decide) (by decide) w)
  have HX := Lib.hid (fun w => nameE_any ⟨#[120]⟩ (by decide) w)
  clear a0 b0 HFI
  go_enter Try.func7, Try.ntmps7
  go_wp2_with (first | (go_at_call 8; (with_reducible refine HK.out.mono ?_); rintro e w1 ⟨rfl, hb1⟩; have HB1 := Lib.hid hb1; clear hb1) | fail)
  refine (HNA.out _).mono ?_
  rintro e w2 ⟨k1, n1, s1, a1, l1, c1, rfl, hn1, hb2⟩
  have H2 := Lib.hid (And.intro hn1 (HB1.out.trans (hb2.mono HB1.out.size)))
  clear hn1 hb2 t1 t2 HK HB1
  go_wp2_with fail
  refine (HNB.out _).mono ?_
  rintro e w3 ⟨k2, n2, s2, a2, l2, c2, rfl, hn2, hb3⟩
  have H3 := Lib.hid (H2.out.2.trans (hb3.mono H2.out.2.size))
  have HC := Lib.hid (cmpC_any 1 (small_ok (by decide) (by decide)) (numE a) (numE b) (ty_num a) (ty_num b) _ _ _ _ _ _ _ _ _ _ _ _ w3 (H2.out.1.keep (keeps_below hb3)) hn2)
  clear hn2 hb3
  go_wp2_with fail
  refine HC.out.mono ?_
  rintro e w4 ⟨k3, n3, a3, l3, c3, a4, l4, c4, rfl, hn4, hb4⟩
  have H4 := Lib.hid (And.intro hn4 (H3.out.trans (hb4.mono H3.out.size)))
  clear hn4 hb4 HC H2 H3
  go_wp2_with fail
  obtain ⟨F1, hF1⟩ : ∃ d, w4.heap.size = d := ⟨_, rfl⟩
  obtain ⟨W5, hW5⟩ : ∃ W, w4.alloc (.cells #[.int .i64 k3, .int .i64 n3, .slice a3 l3 c3, .slice a4 l4 c4] 45) = W := ⟨_, rfl⟩
  have hf5 : Blk W5 F1 #[.int .i64 k3, .int .i64 n3, .slice a3 l3 c3, .slice a4 l4 c4] 45 := by rw [← hW5, ← hF1]; exact Blk.new w4 _ _
  have hb5 : Below w4.heap.size w4 W5 := by rw [← hW5]; exact (Below.refl _ w4).alloc (Nat.le_refl _) _
  have H5 := Lib.hid (And.intro hf5 (And.intro (H4.out.1.keep (keeps_below hb5)) (H4.out.2.trans (hb5.mono H4.out.2.size))))
  rw [hW5, hF1]
  clear hF1 hW5 hf5 hb5 H4
  refine (HN1.out _).mono ?_
  rintro e w6 ⟨k5, n5, s5, a5, l5, c5, rfl, hn6, hb6⟩
  have H6 := Lib.hid (And.intro hn6 (And.intro (H5.out.1.next hb6) (And.intro (H5.out.2.1.keep (keeps_below hb6)) (H5.out.2.2.trans (hb6.mono H5.out.2.2.size)))))
  clear hn6 hb6 H5
  go_wp2_with fail
  refine (HX.out _).mono ?_
  rintro e w7 ⟨k6, n6, s6, a6, l6, c6, rfl, hn7, hb7⟩
  have HT := Lib.hid (twoE_any 9 (small_ok (by decide) (by decide)) (numE 1) (varE ⟨#[120]⟩) rfl rfl _ _ _ _ _ _ _ _ _ _ _ _ w7 (H6.out.1.keep (keeps_below hb7)) hn7)
  have H7 := Lib.hid (And.intro (H6.out.2.1.next hb7) (And.intro (H6.out.2.2.1.keep (keeps_below hb7)) (H6.out.2.2.2.trans (hb7.mono H6.out.2.2.2.size))))
  clear hn7 hb7 H6
  go_wp2_with fail
  refine HT.out.mono ?_
  rintro e w8 ⟨k7, n7, s7, a7, l7, c7, rfl, hn8, hb8⟩
  have H8 := Lib.hid (And.intro hn8 (And.intro (H7.out.1.next hb8) (And.intro (H7.out.2.1.keep (keeps_below hb8)) (H7.out.2.2.trans (hb8.mono H7.out.2.2.size)))))
  clear hn8 hb8 H7 HT
  go_wp2_with fail
  refine (HN0.out _).mono ?_
  rintro e w9 ⟨k8, n8, s8, a8, l8, c8, rfl, hn9, hb9⟩
  have HC := Lib.hid (cmpC_any 3 (small_ok (by decide) (by decide)) (twoE 9 (numE 1) (varE ⟨#[120]⟩)) (numE 0) rfl rfl _ _ _ _ _ _ _ _ _ _ _ _ w9 (H8.out.1.keep (keeps_below hb9)) hn9)
  have H9 := Lib.hid (And.intro (H8.out.2.1.next hb9) (And.intro (H8.out.2.2.1.keep (keeps_below hb9)) (H8.out.2.2.2.trans (hb9.mono H8.out.2.2.2.size))))
  clear hn9 hb9 H8
  go_wp2_with fail
  refine HC.out.mono ?_
  rintro e wA ⟨k9, n9, a9, l9, c9, aA, lA, cA, rfl, hnA, hbA⟩
  have HA := Lib.hid (And.intro hnA (And.intro (H9.out.1.next hbA) (And.intro (H9.out.2.1.keep (keeps_below hbA)) (H9.out.2.2.trans (hbA.mono H9.out.2.2.size)))))
  clear hnA hbA H9 HC
  have g0 : wA.cell? ⟨F1, 0, none⟩ = some (.int .i64 k3) := HA.out.2.1.cell 0
  have g1 : wA.cell? ⟨F1, 1, none⟩ = some (.int .i64 n3) := HA.out.2.1.cell 1
  have g2 : wA.cell? ⟨F1, 2, none⟩ = some (.slice a3 l3 c3) := HA.out.2.1.cell 2
  have g3 : wA.cell? ⟨F1, 3, none⟩ = some (.slice a4 l4 c4) := HA.out.2.1.cell 3
  have glt := HA.out.2.1.lt
  go_upto_if 38 with fail
  obtain ⟨PB, hPB⟩ : ∃ d, wA.heap.size + 1 = d := ⟨_, rfl⟩
  obtain ⟨CB, hCB⟩ : ∃ d, PB + 1 = d := ⟨_, rfl⟩
  obtain ⟨WP, hWP⟩ : ∃ W, (wA.alloc (.cells #[.int .i64 k9, .int .i64 n9, .slice a9 l9 c9, .slice aA lA cA] 45)).alloc (.cells #[.int .i64 k3, .int .i64 n3, .slice a3 l3 c3, .slice a4 l4 c4, .int .i64 k9, .int .i64 n9, .slice a9 l9 c9, .slice aA lA cA] 45) = W := ⟨_, rfl⟩
  obtain ⟨WC, hWC⟩ : ∃ W, WP.alloc (.cells #[.int .i64 5, .int .i64 0, .slice none 0 0, .slice (some ⟨PB, 0, none⟩) 2 2] 45) = W := ⟨_, rfl⟩
  have hp : Blk WP PB [[.int .i64 k3, .int .i64 n3, .slice a3 l3 c3, .slice a4 l4 c4], [.int .i64 k9, .int .i64 n9, .slice a9 l9 c9, .slice aA lA cA]].flatten.toArray 45 := by rw [← hWP]; exact Blk.at (by simp; omega)
  have hbp : Below wA.heap.size wA WP := by rw [← hWP]; exact ((Below.refl _ wA).alloc (Nat.le_refl _) _).alloc (by simp) _
  have hsp : CB = WP.heap.size := by rw [← hWP]; simp; omega
  have hl : SlIn WP .C [sh1 a b, sh2] (.slice (some ⟨PB, 0, none⟩) 2 2) := slIn_blk (vss := [_, _]) hp rfl two_le (nodes2 rfl (HA.out.2.2.1.keep (keeps_below hbp)) rfl (HA.out.1.keep (keeps_below hbp)))
  have hc : Blk WC CB #[.int .i64 5, .int .i64 0, .slice none 0 0, .slice (some ⟨PB, 0, none⟩) 2 2] 45 := by rw [← hWC]; exact Blk.at hsp
  have hbc : Below CB WP WC := by rw [← hWC, hsp]; exact (Below.refl _ WP).alloc (Nat.le_refl _) _
  have HP := Lib.hid (And.intro hl (And.intro (HA.out.2.2.2.trans (hbp.mono HA.out.2.2.2.size)) hsp))
  have HCB := Lib.hid (And.intro hc hbc)
  rw [hPB, hCB, hWP, hWC]
  clear hPB hCB hWP hWC hp hbp hsp hl hc hbc g0 g1 g2 g3 glt HA
  go_cut [38] (fun _ wx => Blk wx CB #[.int .i64 (shK r), .int .i64 0, .slice none 0 0, .slice (some ⟨PB, 0, none⟩) 2 2] 45 ∧ Below CB WP wx)
  case first =>
    have c0 : WC.cell? ⟨CB, 0, none⟩ = some (.int .i64 5) := HCB.out.1.cell 0
    have cf : WC.frozen? ⟨CB, 0, none⟩ = false := HCB.out.1.free 0
    cases r
    · go_wp2_with fail
      go_meet
      exact ⟨HCB.out.1, HCB.out.2⟩
    · go_wp2_with fail
      go_meet
      exact ⟨HCB.out.1.set 0 _, HCB.out.2.setCell (Nat.le_refl _) _⟩
  case rest =>
    obtain ⟨hX, hbx⟩ := hcut
    obtain ⟨wx, hwx⟩ : ∃ x, x = wc := ⟨_, rfl⟩
    subst hwx
    have HX1 := Lib.hid (And.intro hX hbx)
    clear hX hbx HCB
    go_upto_if 40 with fail
    go_cut [40, 41, 42, 43] (fun _ _ _ _ wy => ∃ (k o : Int) (sa : Option Addr) (sl sc : Nat) (ta : Option Addr) (tl tc : Nat), Blk wy CB #[.int .i64 k, .int .i64 o, .slice sa sl sc, .slice ta tl tc] 45 ∧ NdIn wy (shC a b r n) [.int .i64 k, .int .i64 o, .slice sa sl sc, .slice ta tl tc] ∧ Below w.heap.size w wy)
    case first =>
      have clt := HX1.out.1.lt
      have c0 : wx.cell? ⟨CB, 0, none⟩ = some (.int .i64 (shK r)) := HX1.out.1.cell 0
      have c1 : wx.cell? ⟨CB, 1, none⟩ = some (.int .i64 0) := HX1.out.1.cell 1
      have c2 : wx.cell? ⟨CB, 2, none⟩ = some (.slice none 0 0) := HX1.out.1.cell 2
      have c3 : wx.cell? ⟨CB, 3, none⟩ = some (.slice (some ⟨PB, 0, none⟩) 2 2) := HX1.out.1.cell 3
      have f0 : wx.frozen? ⟨CB, 0, none⟩ = false := HX1.out.1.free 0
      have f1 : wx.frozen? ⟨CB, 1, none⟩ = false := HX1.out.1.free 1
      have f2 : wx.frozen? ⟨CB, 2, none⟩ = false := HX1.out.1.free 2
      have f3 : wx.frozen? ⟨CB, 3, none⟩ = false := HX1.out.1.free 3
      cases n
      · go_wp2_with fail
        go_meet
        have hb := HX1.out.2.mono (Nat.le_of_eq HP.out.2.2.symm)
        exact ⟨_, _, _, _, _, _, _, _, HX1.out.1, shA_in (HP.out.1.keep (keeps_below hb)), HP.out.2.1.trans (hb.mono HP.out.2.1.size)⟩
      · go_wp2_with fail
        go_meet
        have hX4 := (((HX1.out.1.set 0 (.int .i64 4)).set 1 (.int .i64 0)).set 2 (.slice none 0 0)).set 3 (.slice (some ⟨wx.heap.size, 0, none⟩) 1 1)
        have hbz : Below CB WP ((((wx.setCell ⟨CB, 0, none⟩ (.int .i64 4)).setCell ⟨CB, 1, none⟩ (.int .i64 0)).setCell ⟨CB, 2, none⟩ (.slice none 0 0)).setCell ⟨CB, 3, none⟩ (.slice (some ⟨wx.heap.size, 0, none⟩) 1 1)) := (((HX1.out.2.setCell (Nat.le_refl _) _).setCell (Nat.le_refl _) _).setCell (Nat.le_refl _) _).setCell (Nat.le_refl _) _
        have hbY := hbz.alloc (by have := HX1.out.1.lt; simp; omega) (.cells #[.int .i64 (shK r), .int .i64 0, .slice none 0 0, .slice (some ⟨PB, 0, none⟩) 2 2] 45)
        have hb := hbY.mono (Nat.le_of_eq HP.out.2.2.symm)
        have hN := slIn_blk (vss := [[.int .i64 (shK r), .int .i64 0, .slice none 0 0, .slice (some ⟨PB, 0, none⟩) 2 2]]) (Blk.at (t := 45) (b := wx.heap.size) (by simp)) rfl one_le (nodes1 (x := shA a b r) rfl (shA_in (HP.out.1.keep (keeps_below hb))))
        exact ⟨_, _, _, _, _, _, _, _, hX4.alloc _, shNot_in hN, HP.out.2.1.trans (hb.mono HP.out.2.1.size)⟩
    case rest =>
      obtain ⟨kc, oc, sa, sl, sc, ta, tl, tc, hC, hN, hB⟩ := hcut
      obtain ⟨wy, hwy⟩ : ∃ x, x = wc := ⟨_, rfl⟩
      subst hwy
      have HY := Lib.hid (And.intro hC (And.intro hN hB))
      clear hC hN hB HX1 HP
      go_upto_region 12 with fail
      refine wp_region_any (by kernel_rfl) ?_
      refine wpAny_sh wy (shC a b r n) (.agg #[.int .i64 kc, .int .i64 oc, .slice sa sl sc, .slice ta tl tc]) rfl ?hs ?hr ?hd ?hb
      case hb => exact (Below.refl _ wy).drew
      case hr =>
        intro l hr hl
        exact all_listed (by kernel_rfl) l hr hl 14 (by decide)
      case hs =>
        intro l a' w' hl v12 v44 v45 v46 v47 v48 v49 v50 v51 v52 v53 v54 v55 v56 ha h14 HF i o ho hi hall
        have hi15 : i < 15 := (Array.getElem?_eq_some_iff.1 ho).1
        subst ha
        have HFF := Lib.hid (And.intro hl (And.intro h14 HF))
        clear hl h14 HF hi HNA HNB
        have hcase : i = 0 ∨ i = 1 ∨ i = 2 ∨ i = 3 ∨ i = 4 ∨ i = 5 ∨ i = 6 ∨ i = 7 ∨ i = 8 ∨ i = 9 ∨ i = 10 ∨ i = 11 ∨ i = 12 ∨ i = 13 ∨ i = 14 := by omega
        clear hi15
        rcases hcase with rfl | rfl | rfl | rfl | rfl | rfl | rfl | rfl | rfl | rfl | rfl | rfl | rfl | rfl | rfl
        · obtain rfl := Option.some.inj ho.symm
          clear ho
          clear hall
          refine wpOp_step rfl (fun K hK => ?_)
          unfold shA0
          go_simp
          exact hK _ _ ⟨by simp [HFF.out.1], v12, (.agg #[.string ⟨#[120]⟩, .int .i64 0]), v45, v46, v47, v48, v49, v50, v51, v52, v53, v54, v55, v56, by kernel_rfl, .inr ⟨by rw [getD_set_ne false (by decide)]; exact HFF.out.2.1, ShF.set0 HFF.out.2.2 (rfl)⟩⟩
        · obtain rfl := Option.some.inj ho.symm
          clear ho
          have d0 := HFF.out.2.2.f0 (hall ⟨0, .data⟩ (by simp) rfl)
          clear hall
          subst d0
          refine wpOp_step rfl (fun K hK => ?_)
          unfold shA0
          go_simp
          exact hK _ _ ⟨by simp [HFF.out.1], v12, (.agg #[.string ⟨#[120]⟩, .int .i64 0]), (.slice (some ⟨w'.heap.size, 0, none⟩) 1 1), v46, v47, v48, v49, v50, v51, v52, v53, v54, v55, v56, by kernel_rfl, .inr ⟨by rw [getD_set_ne false (by decide)]; exact HFF.out.2.1, ShF.set1 (HFF.out.2.2.next ((Below.refl _ w').alloc (Nat.le_refl _) _)) (slIn_blk (vss := [_]) (Blk.at rfl) rfl one_le (nodes1 rfl (declD_in (by decide) ok0)))⟩⟩
        · obtain rfl := Option.some.inj ho.symm
          clear ho
          clear hall
          have hCw := HY.out.1.next HFF.out.2.2.below
          have x0 : w'.cell? ⟨CB, 0, none⟩ = some (.int .i64 kc) := hCw.cell 0
          have x1 : w'.cell? ⟨CB, 1, none⟩ = some (.int .i64 oc) := hCw.cell 1
          have x2 : w'.cell? ⟨CB, 2, none⟩ = some (.slice sa sl sc) := hCw.cell 2
          have x3 : w'.cell? ⟨CB, 3, none⟩ = some (.slice ta tl tc) := hCw.cell 3
          clear hCw
          refine wpOp_step rfl (fun K hK => ?_)
          unfold shA0
          go_simp
          exact hK _ _ ⟨by simp [HFF.out.1], v12, v44, v45, (.agg #[.int .i64 kc, .int .i64 oc, .slice sa sl sc, .slice ta tl tc]), v47, v48, v49, v50, v51, v52, v53, v54, v55, v56, by kernel_rfl, .inr ⟨by rw [getD_set_ne false (by decide)]; exact HFF.out.2.1, ShF.set2 HFF.out.2.2 (rfl)⟩⟩
        · obtain rfl := Option.some.inj ho.symm
          clear ho
          have d2 := HFF.out.2.2.f2 (hall ⟨2, .data⟩ (by simp) rfl)
          clear hall
          subst d2
          refine wpOp_step rfl (fun K hK => ?_)
          unfold shA0
          go_simp
          exact hK _ _ ⟨by simp [HFF.out.1], v12, v44, v45, (.agg #[.int .i64 kc, .int .i64 oc, .slice sa sl sc, .slice ta tl tc]), (.slice (some ⟨w'.heap.size, 0, none⟩) 1 1), v48, v49, v50, v51, v52, v53, v54, v55, v56, by kernel_rfl, .inr ⟨by rw [getD_set_ne false (by decide)]; exact HFF.out.2.1, ShF.set3 (HFF.out.2.2.next ((Below.refl _ w').alloc (Nat.le_refl _) _)) (slIn_blk (vss := [_]) (Blk.at rfl) rfl one_le (nodes1 (shC_ty a b r n) ((HY.out.2.1.keep (keeps_below HFF.out.2.2.below)).keep (keeps_below ((Below.refl _ w').alloc (Nat.le_refl _) _)))))⟩⟩
        · obtain rfl := Option.some.inj ho.symm
          clear ho
          clear hall
          refine wpOp_step rfl (fun K hK => ?_)
          unfold shA0
          go_simp
          refine (HN1.out _).mono ?_
          rintro e wn ⟨y1, y2, y3, y4, y5, y6, rfl, hn5, hb5⟩
          exact hK _ _ ⟨by simp [HFF.out.1], v12, v44, v45, v46, v47, (.agg #[.int .i64 y1, .int .i64 y2, .string y3, .slice y4 y5 y6]), v49, v50, v51, v52, v53, v54, v55, v56, by kernel_rfl, .inr ⟨by rw [getD_set_ne false (by decide)]; exact HFF.out.2.1, ShF.set4 (HFF.out.2.2.next hb5) (⟨_, _, _, _, _, _, rfl, hn5⟩)⟩⟩
        · obtain rfl := Option.some.inj ho.symm
          clear ho
          have d4 := HFF.out.2.2.f4 (hall ⟨4, .data⟩ (by simp) rfl)
          clear hall
          obtain ⟨x1, x2, x3, x4, x5, x6, rfl, hne⟩ := d4
          have HG := Lib.hid (giveS_any ⟨#[120]⟩ (by decide) (numE 1) rfl _ _ _ _ _ _ w' hne)
          clear hne
          refine wpOp_step rfl (fun K hK => ?_)
          unfold shA0
          go_simp
          refine HG.out.mono ?_
          rintro e wn ⟨y1, y3, y4, y5, y6, z3, z4, z5, rfl, rfl, rfl, rfl, hn5, hb5⟩
          exact hK _ _ ⟨by simp [HFF.out.1], v12, v44, v45, v46, v47, (.agg #[.int .i64 x1, .int .i64 x2, .string x3, .slice x4 x5 x6]), (.agg #[.int .i64 y1, .string y3, .slice y4 y5 y6, .slice none 0 0, .slice none 0 0, .slice none 0 0]), v50, v51, v52, v53, v54, v55, v56, by kernel_rfl, .inr ⟨by rw [getD_set_ne false (by decide)]; exact HFF.out.2.1, ShF.set5 (HFF.out.2.2.next hb5) (⟨_, _, _, _, _, rfl, hn5⟩)⟩⟩
        · obtain rfl := Option.some.inj ho.symm
          clear ho
          have d5 := HFF.out.2.2.f5 (hall ⟨5, .data⟩ (by simp) rfl)
          clear hall
          obtain ⟨x1, x3, x4, x5, x6, rfl, hne⟩ := d5
          refine wpOp_step rfl (fun K hK => ?_)
          unfold shA0
          go_simp
          exact hK _ _ ⟨by simp [HFF.out.1], v12, v44, v45, v46, v47, v48, (.agg #[.int .i64 x1, .string x3, .slice x4 x5 x6, .slice none 0 0, .slice none 0 0, .slice none 0 0]), (.slice (some ⟨w'.heap.size, 0, none⟩) 1 1), v51, v52, v53, v54, v55, v56, by kernel_rfl, .inr ⟨by rw [getD_set_ne false (by decide)]; exact HFF.out.2.1, ShF.set6 (HFF.out.2.2.next ((Below.refl _ w').alloc (Nat.le_refl _) _)) (slIn_blk (vss := [_]) (Blk.at rfl) rfl one_le (nodes1 rfl (hne.keep (keeps_below ((Below.refl _ w').alloc (Nat.le_refl _) _)))))⟩⟩
        · obtain rfl := Option.some.inj ho.symm
          clear ho
          clear hall
          refine wpOp_step rfl (fun K hK => ?_)
          unfold shA0
          go_simp
          refine (HN2.out _).mono ?_
          rintro e wn ⟨y1, y2, y3, y4, y5, y6, rfl, hn5, hb5⟩
          exact hK _ _ ⟨by simp [HFF.out.1], v12, v44, v45, v46, v47, v48, v49, v50, (.agg #[.int .i64 y1, .int .i64 y2, .string y3, .slice y4 y5 y6]), v52, v53, v54, v55, v56, by kernel_rfl, .inr ⟨by rw [getD_set_ne false (by decide)]; exact HFF.out.2.1, ShF.set7 (HFF.out.2.2.next hb5) (⟨_, _, _, _, _, _, rfl, hn5⟩)⟩⟩
        · obtain rfl := Option.some.inj ho.symm
          clear ho
          have d7 := HFF.out.2.2.f7 (hall ⟨7, .data⟩ (by simp) rfl)
          clear hall
          obtain ⟨x1, x2, x3, x4, x5, x6, rfl, hne⟩ := d7
          have HG := Lib.hid (giveS_any ⟨#[120]⟩ (by decide) (numE 2) rfl _ _ _ _ _ _ w' hne)
          clear hne
          refine wpOp_step rfl (fun K hK => ?_)
          unfold shA0
          go_simp
          refine HG.out.mono ?_
          rintro e wn ⟨y1, y3, y4, y5, y6, z3, z4, z5, rfl, rfl, rfl, rfl, hn5, hb5⟩
          exact hK _ _ ⟨by simp [HFF.out.1], v12, v44, v45, v46, v47, v48, v49, v50, (.agg #[.int .i64 x1, .int .i64 x2, .string x3, .slice x4 x5 x6]), (.agg #[.int .i64 y1, .string y3, .slice y4 y5 y6, .slice none 0 0, .slice none 0 0, .slice none 0 0]), v53, v54, v55, v56, by kernel_rfl, .inr ⟨by rw [getD_set_ne false (by decide)]; exact HFF.out.2.1, ShF.set8 (HFF.out.2.2.next hb5) (⟨_, _, _, _, _, rfl, hn5⟩)⟩⟩
        · obtain rfl := Option.some.inj ho.symm
          clear ho
          have d8 := HFF.out.2.2.f8 (hall ⟨8, .data⟩ (by simp) rfl)
          clear hall
          obtain ⟨x1, x3, x4, x5, x6, rfl, hne⟩ := d8
          refine wpOp_step rfl (fun K hK => ?_)
          unfold shA0
          go_simp
          exact hK _ _ ⟨by simp [HFF.out.1], v12, v44, v45, v46, v47, v48, v49, v50, v51, (.agg #[.int .i64 x1, .string x3, .slice x4 x5 x6, .slice none 0 0, .slice none 0 0, .slice none 0 0]), (.slice (some ⟨w'.heap.size, 0, none⟩) 1 1), v54, v55, v56, by kernel_rfl, .inr ⟨by rw [getD_set_ne false (by decide)]; exact HFF.out.2.1, ShF.set9 (HFF.out.2.2.next ((Below.refl _ w').alloc (Nat.le_refl _) _)) (slIn_blk (vss := [_]) (Blk.at rfl) rfl one_le (nodes1 rfl (hne.keep (keeps_below ((Below.refl _ w').alloc (Nat.le_refl _) _)))))⟩⟩
        · obtain rfl := Option.some.inj ho.symm
          clear ho
          have d3 := HFF.out.2.2.f3 (hall ⟨3, .data⟩ (by simp) rfl)
          have d6 := HFF.out.2.2.f6 (hall ⟨6, .data⟩ (by simp) rfl)
          have d9 := HFF.out.2.2.f9 (hall ⟨9, .data⟩ (by simp) rfl)
          clear hall
          obtain ⟨x1, y1, rfl, -⟩ := id d3
          obtain ⟨x2, y2, rfl, -⟩ := id d6
          obtain ⟨x3, y3, rfl, -⟩ := id d9
          refine wpOp_step rfl (fun K hK => ?_)
          unfold shA0
          go_simp
          exact hK _ _ ⟨by simp [HFF.out.1], v12, v44, v45, v46, (.slice x1 1 y1), v48, v49, (.slice x2 1 y2), v51, v52, (.slice x3 1 y3), (.agg #[.int .i64 3, .string ⟨#[]⟩, .slice none 0 0, .slice x1 1 y1, .slice x2 1 y2, .slice x3 1 y3]), v55, v56, by kernel_rfl, .inr ⟨by rw [getD_set_ne false (by decide)]; exact HFF.out.2.1, ShF.set10 HFF.out.2.2 (⟨_, _, _, _, _, _, _, _, _, rfl, ifS_in d3 d6 d9⟩)⟩⟩
        · obtain rfl := Option.some.inj ho.symm
          clear ho
          have d10 := HFF.out.2.2.f10 (hall ⟨10, .data⟩ (by simp) rfl)
          clear hall
          obtain ⟨x1, m1, y1, x2, m2, y2, x3, m3, y3, rfl, hne⟩ := d10
          refine wpOp_step rfl (fun K hK => ?_)
          unfold shA0
          go_simp
          exact hK _ _ ⟨by simp [HFF.out.1], v12, v44, v45, v46, v47, v48, v49, v50, v51, v52, v53, (.agg #[.int .i64 3, .string ⟨#[]⟩, .slice none 0 0, .slice x1 m1 y1, .slice x2 m2 y2, .slice x3 m3 y3]), (.slice (some ⟨w'.heap.size, 0, none⟩) 1 1), v56, by kernel_rfl, .inr ⟨by rw [getD_set_ne false (by decide)]; exact HFF.out.2.1, ShF.set11 (HFF.out.2.2.next ((Below.refl _ w').alloc (Nat.le_refl _) _)) (slIn_blk (vss := [_]) (Blk.at rfl) rfl one_le (nodes1 rfl (hne.keep (keeps_below ((Below.refl _ w').alloc (Nat.le_refl _) _)))))⟩⟩
        · obtain rfl := Option.some.inj ho.symm
          clear ho
          have d1 := HFF.out.2.2.f1 (hall ⟨1, .data⟩ (by simp) rfl)
          have d11 := HFF.out.2.2.f11 (hall ⟨11, .data⟩ (by simp) rfl)
          clear hall
          obtain ⟨x1, y1, rfl, -⟩ := id d1
          obtain ⟨x2, y2, rfl, -⟩ := id d11
          refine wpOp_step rfl (fun K hK => ?_)
          unfold shA0
          go_simp
          exact hK _ _ ⟨by simp [HFF.out.1], v12, v44, (.slice x1 1 y1), v46, v47, v48, v49, v50, v51, v52, v53, v54, (.slice x2 1 y2), (.agg #[.slice x1 1 y1, .slice x2 1 y2]), by kernel_rfl, .inr ⟨by rw [getD_set_ne false (by decide)]; exact HFF.out.2.1, ShF.set12 HFF.out.2.2 (⟨_, _, _, _, _, _, rfl, d1, d11⟩)⟩⟩
        · obtain rfl := Option.some.inj ho.symm
          clear ho
          clear hall
          refine wpOp_step rfl (fun K hK => ?_)
          unfold shA0
          go_simp
          exact hK _ _ ⟨by simp [HFF.out.1], (.pointer (some ⟨w'.heap.size, 0, none⟩)), v44, v45, v46, v47, v48, v49, v50, v51, v52, v53, v54, v55, v56, by kernel_rfl, .inr ⟨by rw [getD_set_ne false (by decide)]; exact HFF.out.2.1, ShF.set13 (HFF.out.2.2.next ((Below.refl _ w').alloc (Nat.le_refl _) _)) (⟨_, rfl, HFF.out.2.2.below.size, Blk.new _ _ _⟩)⟩⟩
        · obtain rfl := Option.some.inj ho.symm
          clear ho
          have hj : ∀ j, j < 14 → l.getD j false = true := by
            intro j hj
            have hc : j = 0 ∨ j = 1 ∨ j = 2 ∨ j = 3 ∨ j = 4 ∨ j = 5 ∨ j = 6 ∨ j = 7 ∨ j = 8 ∨ j = 9 ∨ j = 10 ∨ j = 11 ∨ j = 12 ∨ j = 13 := by omega
            rcases hc with rfl | rfl | rfl | rfl | rfl | rfl | rfl | rfl | rfl | rfl | rfl | rfl | rfl | rfl <;> exact hall ⟨_, .phase⟩ (by simp) rfl
          clear hall
          obtain ⟨q, rfl, hq0, hq⟩ := HFF.out.2.2.f13 (hj 13 (by decide))
          obtain ⟨x1, m1, y1, x2, m2, y2, rfl, hs1, hs2⟩ := HFF.out.2.2.f12 (hj 12 (by decide))
          have z0 : w'.cell? ⟨q, 0, none⟩ = some (.slice none 0 0) := hq.cell 0
          have z1 : w'.cell? ⟨q, 1, none⟩ = some (.slice none 0 0) := hq.cell 1
          have z2 : w'.frozen? ⟨q, 0, none⟩ = false := hq.free 0
          have z3 : w'.frozen? ⟨q, 1, none⟩ = false := hq.free 1
          have HQ := Lib.hid (And.intro hj (And.intro hq0 (And.intro hq (And.intro hs1 hs2))))
          clear hj hq0 hq hs1 hs2
          refine wpOp_step rfl (fun K hK => ?_)
          unfold shA0
          go_simp
          have ho := ((Only.refl q w').setCell (p := ⟨q, 0, none⟩) rfl (.slice x1 m1 y1)).setCell (p := ⟨q, 1, none⟩) rfl (.slice x2 m2 y2)
          have hsl : Slices w' q := by
            intro o u hu
            rw [HQ.out.2.2.1.cell o] at hu
            match o, hu with
            | 0, hu => cases hu; exact ⟨_, _, _, rfl⟩
            | 1, hu => cases hu; exact ⟨_, _, _, rfl⟩
            | n + 2, hu => cases hu
          have has : Aside q w' ((w'.setCell ⟨q, 0, none⟩ (.slice x1 m1 y1)).setCell ⟨q, 1, none⟩ (.slice x2 m2 y2)) := fun b o u hb hu => only_cell ho hu hb
          exact hK _ _ ⟨by simp [HFF.out.1], (.pointer (some ⟨q, 0, none⟩)), v44, v45, v46, v47, v48, v49, v50, v51, v52, v53, v54, v55, (.agg #[.slice x1 m1 y1, .slice x2 m2 y2]), by kernel_rfl, .inl ⟨by simp [HFF.out.1], fun j hj => by rw [getD_set_ne false (by omega)]; exact HQ.out.1 j hj, q, _, _, rfl, (HFF.out.2.2.below.setCell HQ.out.2.1 _).setCell HQ.out.2.1 _, HQ.out.2.2.2.1.aside hsl has, HQ.out.2.2.2.2.aside hsl has, (HQ.out.2.2.1.set 0 _).set 1 _, HQ.out.2.1⟩⟩
      case hd =>
        intro w' v12 v44 v45 v46 v47 v48 v49 v50 v51 v52 v53 v54 v55 v56 hG
        obtain ⟨q, d1, d2, rfl, hB1, hs1, hs2, hq, -⟩ := hG
        obtain ⟨x1, y1, rfl, -⟩ := id hs1
        obtain ⟨x2, y2, rfl, -⟩ := id hs2
        have HR := Lib.hid (Run_any [oneD] (shS a b r n) [] 10 _ _ _ w' hs1 hs2 ⟨none, 0, rfl, Nat.le_refl _, Nat.zero_le _, .inl rfl⟩ (fun x hx => by cases hx))
        have HB1 := Lib.hid (HY.out.2.2.trans (hB1.mono HY.out.2.2.size))
        have z0 : w'.cell? ⟨q, 0, none⟩ = some (.slice x1 1 y1) := hq.cell 0
        have z1 : w'.cell? ⟨q, 1, none⟩ = some (.slice x2 1 y2) := hq.cell 1
        clear hs1 hs2 hq hB1 HNA HNB HN0 HN1 HN2 HX
        unfold shA0
        go_wp2_with fail
        refine HR.out.mono ?_
        rintro e wB ⟨u, rfl, hbB, hout, -⟩
        have hO := hout HF.out.1
        rw [HF.out.1]
        rw [HF.out.2] at hO
        have HBA := Lib.hid (HB1.out.trans (hbB.mono HB1.out.size))
        clear hout hbB z0 z1
        unfold shFin at hO
        by_cases hc : (decide (a < b) != r) = true
        · rw [if_pos hc] at hO
          obtain ⟨ve, vv, va, rfl, hev, ⟨bb, cc, rfl, -, -, -, hiv⟩, hrv, -⟩ := hO
          obtain ⟨a15, c15, rfl⟩ := hev.form
          obtain ⟨a17, c17, rfl⟩ := hrv.form
          clear hev hiv hrv
          simp only [List.length_cons, List.length_nil]
          cases r
          · have q1 : decide (a < b) = true := by simpa using hc
            clear hc
            go_wp2_with fail
            go_ret
            exact ⟨rfl, HBA.out.alloc HBA.out.size _⟩
          · have q1 : decide (a < b) = false := by simpa using hc
            clear hc
            go_wp2_with fail
            go_ret
            exact ⟨rfl, HBA.out.alloc HBA.out.size _⟩
        · rw [if_neg hc] at hO
          obtain ⟨ve, vv, va, rfl, hev, ⟨bb, cc, rfl, -, -, -, hiv⟩, hrv, -⟩ := hO
          obtain ⟨a15, c15, rfl⟩ := hev.form
          obtain ⟨a17, c17, rfl⟩ := hrv.form
          have i0 : wB.cell? ⟨bb, 0, none⟩ = some (.int .i64 (if (r != n) = true then 1 else 2)) := hiv 0 (by simp)
          have hlt := World.block_lt_of_cell? wB _ i0
          clear hev hiv hrv
          simp only [List.length_cons, List.length_nil]
          have i1 : (wB.alloc (.cells #[.int .i64 2, .int .i64 0, .int .i64 2, .slice a15 0 c15, .slice (some ⟨bb, 0, none⟩) 1 cc, .slice a17 0 c17] 31)).cell? ⟨bb, 0, none⟩ = some (.int .i64 (if (r != n) = true then 1 else 2)) := (((Below.refl wB.heap.size wB).alloc (Nat.le_refl _) _).cell (p := ⟨bb, 0, none⟩) hlt).trans i0
          clear hlt i0
          cases r
          · have q1 : decide (a < b) = false := by simpa using hc
            clear hc
            cases n
            · simp only [bne_self_eq_false, Bool.false_eq_true, if_false] at i1
              go_wp2_with fail
              go_ret
              exact ⟨rfl, HBA.out.alloc HBA.out.size _⟩
            · simp only [Bool.false_bne, if_true] at i1
              go_wp2_with fail
              go_ret
              exact ⟨rfl, HBA.out.alloc HBA.out.size _⟩
          · have q1 : decide (a < b) = true := by simpa using hc
            clear hc
            cases n
            · simp only [Bool.true_bne, Bool.not_false, if_true] at i1
              go_wp2_with fail
              go_ret
              exact ⟨rfl, HBA.out.alloc HBA.out.size _⟩
            · simp only [bne_self_eq_false, Bool.false_eq_true, if_false] at i1
              go_wp2_with fail
              go_ret
              exact ⟨rfl, HBA.out.alloc HBA.out.size _⟩
end Go.Proofs.Ytbodbbdofoeclaa
