/-
  The statement's own walk: gnomonlaw8.RunOn answers true for every program, script, number of steps and number more.
-/
import Derived.Test.YtbhbmoppipohjaaQOnV
import Derived.Deep.AppendLies
import Derived.BigQuiet
import Derived.Deep.QuietTactic

namespace Go.Proofs.Ytbhbmoppipohjaa
open Go Go.RowKit Go.Maps

/-- Six cells of an outcome. -/
abbrev oc (st wg n : Int) (ve vv va : Value) : Array Value := #[.int .i64 st, .int .i64 wg, .int .i64 n, ve, vv, va]
set_option maxRecDepth 100000 in
set_option maxHeartbeats 8000000 in
theorem on_any (ds ss : List Nd) (l : List Int) (v0 v1 vs : Value) (k m : Int) (w : World) (hd : SlIn w .D ds v0) (hs : SlIn w .S ss v1) (hi : IntsAt w w.heap.size l vs) (hf : ∀ x ∈ l, fitsI x) (_ : (Lit.int .i64 k).wf = true) (hm : (Lit.int .i64 m).wf = true) :
    Calls Try.prog 3 #[.agg #[v0, v1], vs, .int .i64 k, .int .i64 m] w (fun e w' => e = .returned (.bool true) ∧ Below w.heap.size w w') := by
  have hv0 : ∃ a c, v0 = .slice a ds.length c := by obtain ⟨a, c, h, -⟩ := hd; exact ⟨a, c, h⟩
  have hv1 : ∃ a c, v1 = .slice a ss.length c := by obtain ⟨a, c, h, -⟩ := hs; exact ⟨a, c, h⟩
  have hvs : ∃ a c, vs = .slice a l.length c := by obtain ⟨a, c, h, -⟩ := hi; exact ⟨a, c, h⟩
  obtain ⟨a0, c0, rfl⟩ := hv0
  obtain ⟨a1, c1, rfl⟩ := hv1
  obtain ⟨a2, c2, rfl⟩ := hvs
  obtain ⟨X, hX⟩ : ∃ X, w.heap.size = X := ⟨_, rfl⟩
  obtain ⟨W1, hW1⟩ : ∃ W1, w.alloc (.cells #[.slice a0 ds.length c0, .slice a1 ss.length c1] 25) = W1 := ⟨_, rfl⟩
  have hx1 : Blk W1 X #[.slice a0 ds.length c0, .slice a1 ss.length c1] 25 := by rw [← hW1, ← hX]; exact Blk.new w _ _
  have hb1 : Below w.heap.size w W1 := by rw [← hW1]; exact (Below.refl _ w).alloc (Nat.le_refl _) _
  have HKN := Lib.hid (known8_any W1)
  have H1 := Lib.hid (And.intro hx1 hb1)
  have HE := Lib.hid (And.intro hW1 hX)
  have HRUN := Lib.hid (fun (k : Int) w2 (hb : Below w.heap.size w w2) => Run_any ds ss l k _ _ _ w2 (hd.keep (keeps_below hb)) (hs.keep (keeps_below hb)) (hi.up hb hb.size) hf)
  have HRUN2 := Lib.hid (fun (l2 : List Int) v2 w2 (hb : Below w.heap.size w w2) (h2 : IntsAt w2 w2.heap.size l2 v2) (hf2 : ∀ x ∈ l2, fitsI x) => Run_any ds ss l2 k _ _ _ w2 (hd.keep (keeps_below hb)) (hs.keep (keeps_below hb)) h2 hf2)
  have HI := Lib.hid (And.intro hi (And.intro hf (And.intro (fits_wf hm) hs)))
  clear hx1 hb1 hW1 hX hd hs hi hf hm
  by_cases hbad : k < 0 ∨ 2000 < k ∨ 2000 < l.length
  · have hcase : k < 0 ∨ (¬ k < 0 ∧ 2000 < k) ∨ (¬ k < 0 ∧ ¬ 2000 < k ∧ 2000 < l.length) := by omega
    clear hbad
    rcases hcase with h1 | ⟨h1, h2⟩ | ⟨h1, h2, h3⟩
    · have t1 : decide (k < 0) = true := by simpa using h1
      go_enter Try.func3, Try.ntmps3
      go_upto_region 1 with fail
      rw [HE.out.1, HE.out.2]
      go_wp2_with (first | (go_at_call 4; (with_reducible refine HKN.out.mono ?_); rintro e w2 ⟨rfl, hb2⟩; have HB2 := Lib.hid hb2; clear hb2) | fail)
      go_ret
      exact ⟨rfl, H1.out.2.trans (HB2.out.mono H1.out.2.size)⟩
    · have t1 : decide (k < 0) = false := by simpa using h1
      have t2 : decide (2000 < k) = true := by simpa using h2
      go_enter Try.func3, Try.ntmps3
      go_upto_region 1 with fail
      rw [HE.out.1, HE.out.2]
      go_wp2_with (first | (go_at_call 4; (with_reducible refine HKN.out.mono ?_); rintro e w2 ⟨rfl, hb2⟩; have HB2 := Lib.hid hb2; clear hb2) | fail)
      go_ret
      exact ⟨rfl, H1.out.2.trans (HB2.out.mono H1.out.2.size)⟩
    · have t1 : decide (k < 0) = false := by simpa using h1
      have t2 : decide (2000 < k) = false := by simpa using h2
      have t3 : decide (2000 < (l.length : Int)) = true := by simp; omega
      go_enter Try.func3, Try.ntmps3
      go_upto_region 1 with fail
      rw [HE.out.1, HE.out.2]
      go_wp2_with (first | (go_at_call 4; (with_reducible refine HKN.out.mono ?_); rintro e w2 ⟨rfl, hb2⟩; have HB2 := Lib.hid hb2; clear hb2) | fail)
      go_ret
      exact ⟨rfl, H1.out.2.trans (HB2.out.mono H1.out.2.size)⟩
  obtain ⟨k', hk'⟩ : ∃ m : Nat, k = m := ⟨k.toNat, by omega⟩
  have hkl : k' ≤ 2000 := by omega
  have hll : l.length ≤ 2000 := by omega
  have t1 : decide (k < 0) = false := by simp; omega
  have t2 : decide (2000 < k) = false := by simp; omega
  have t3 : decide (2000 < (l.length : Int)) = false := by simp; omega
  obtain ⟨k1, hk1⟩ : ∃ x : Int, ((k' + 1 : Nat) : Int) = x := ⟨_, rfl⟩
  have m1 : IntKind.i64.wrap (k + 1) = k1 := by rw [hk', ← hk1]; exact fits_wrap (by unfold fitsI; omega)
  have hF0 : runF ds ss l k = (wellP ds ss).2 := on_F (by omega) (by omega) (by omega)
  have hF1 : runF ds ss l k1 = (wellP ds ss).2 := on_F (by omega) (by omega) (by omega)
  obtain ⟨Z, hZ⟩ : ∃ z, (wellP ds ss).2 = z := ⟨_, rfl⟩
  have HN := Lib.hid (And.intro hk' (And.intro hkl (And.intro hll (And.intro hk1 hZ))))
  rw [hZ] at hF0 hF1
  have HF := Lib.hid (And.intro hF0 hF1)
  clear hk' hkl hll hk1 hZ hF0 hF1 hbad
  by_cases hz : Z = 0
  · subst hz
    have hw : whlL ss := whl_well HI.out.2.2.2 HN.out.2.2.2.2
    obtain ⟨⟨st, wg, s⟩, h1⟩ : ∃ o, runO ds ss l k = o := ⟨_, rfl⟩
    obtain ⟨⟨st', wg', s'⟩, h2⟩ : ∃ o, runO ds ss l k1 = o := ⟨_, rfl⟩
    have h12 := on_two ds ss hw l k' st wg st' wg' s s' (by rw [← HN.out.1]; exact h1) (by rw [HN.out.2.2.2.1]; exact h2)
    have HO := Lib.hid (And.intro h1 h2)
    have HW := Lib.hid hw
    obtain ⟨hp1, hp2, hp3, hp4, hp5, hcase⟩ := h12
    have HP := Lib.hid (And.intro hp1 (And.intro hp4 hp5))
    have u1 : decide ((s'.steps : Int) < s.steps) = false := by simp; omega
    have u2 : decide ((s.steps : Int) + 1 < s'.steps) = false := by simp; omega
    have u3 : decide (k < (s.steps : Int)) = false := by have := HN.out.1; simp; omega
    have u4 : (s.steps : Int) + 1 ≤ 9223372036854775807 := by have := HN.out.2.1; omega
    clear hw h1 h2 hp1 hp2 hp3 hp4 hp5
    rcases hcase with ⟨rfl, rfl, hk⟩ | ⟨rfl, rfl, he⟩ | ⟨rfl, he⟩
    · have hsk : (s.steps : Int) = k := by rw [hk]; exact HN.out.1.symm
      rw [hsk] at u1 u2 u3 u4
      have u2' : decide (k1 < (s'.steps : Int)) = false := by have := HN.out.1; have := HN.out.2.2.2.1; simp only [decide_eq_false_iff_not] at u2 ⊢; omega
      have HSK := Lib.hid hsk
      clear hk hsk
      go_enter Try.func3, Try.ntmps3
      go_upto_region 1 with fail
      rw [HE.out.1, HE.out.2]
      go_upto_region 5 with (first | (go_at_call 4; (with_reducible refine HKN.out.mono ?_); rintro e w2 ⟨rfl, hb2⟩; have HB2 := Lib.hid hb2; have x2 := (H1.out.1.next hb2).cell; have HR2 := Lib.hid (HRUN.out k w2 (H1.out.2.trans (hb2.mono H1.out.2.size))); clear hb2) | fail)
      go_upto_region 6 with (first | (go_at_call 5; (with_reducible refine HR2.out.mono ?_); rintro e w3 ⟨u, rfl, hb3, hout, -⟩; rw [HF.out.1]; have hO := hout HF.out.1; rw [HO.out.1] at hO; have HO3 := Lib.hid hO; obtain ⟨ve, vv, va, rfl, hev, hiv, hrv, -⟩ := hO; obtain ⟨ea, ec, rfl⟩ := (show EvsIn w3 _ s.evs ve from hev).form; obtain ⟨ib, ic, rfl⟩ := (show IntsIn w3 _ s.vars vv from hiv).form; obtain ⟨ra, rc, rfl⟩ := (show RowsIn w3 _ s.arrs va from hrv).form; clear hev hiv hrv; rw [HSK.out]; have HB3 := Lib.hid hb3; clear hb3 hout x2) | fail)
      have hx3 := (H1.out.1.next HB2.out).next HB3.out
      have hb3 : Below w.heap.size w w3 := (H1.out.2.trans (HB2.out.mono H1.out.2.size)).trans (HB3.out.mono (Nat.le_trans H1.out.2.size HB2.out.size))
      obtain ⟨W4, hW4⟩ : ∃ W, w3.alloc (.cells (oc 1 0 k (.slice ea s.evs.length ec) (.slice (some ⟨ib, 0, none⟩) s.vars.length ic) (.slice ra s.arrs.length rc)) 31) = W := ⟨_, rfl⟩
      obtain ⟨A, hA⟩ : ∃ A, w3.heap.size = A := ⟨_, rfl⟩
      have hb34 : Below w3.heap.size w3 W4 := by rw [← hW4]; exact (Below.refl _ w3).alloc (Nat.le_refl _) _
      have ha4 : Blk W4 A (oc 1 0 k (.slice ea s.evs.length ec) (.slice (some ⟨ib, 0, none⟩) s.vars.length ic) (.slice ra s.arrs.length rc)) 31 := by rw [← hW4, ← hA]; exact Blk.new w3 _ _
      have x4 := (hx3.next hb34).cell
      have hb4 := hb3.trans (hb34.mono hb3.size)
      have HR4 := Lib.hid (HRUN.out k1 W4 hb4)
      have H4 := Lib.hid (And.intro hb4 (And.intro ha4 (And.intro (hx3.next hb34) (HO3.out.next (keepsUp_below _ hb34)))))
      rw [hW4, hA]
      clear hx3 hb3 hW4 hA hb34 ha4 hb4 HO3
      go_upto_region 7 with (first | (go_at_call 5; (with_reducible refine HR4.out.mono ?_); rintro e w5 ⟨u, rfl, hb5, hout, -⟩; rw [HF.out.2]; have hO := hout HF.out.2; rw [HO.out.2] at hO; have HO5 := Lib.hid hO; obtain ⟨ve, vv, va, rfl, hev, hiv, hrv, -⟩ := hO; obtain ⟨fa, fc, rfl⟩ := (show EvsIn w5 _ s'.evs ve from hev).form; obtain ⟨jb, jc, rfl⟩ := (show IntsIn w5 _ s'.vars vv from hiv).form; obtain ⟨sa, sc, rfl⟩ := (show RowsIn w5 _ s'.arrs va from hrv).form; clear hev hiv hrv; have HB5 := Lib.hid hb5; clear hb5 hout x4) | fail)
      obtain ⟨W6, hW6⟩ : ∃ W, w5.alloc (.cells (oc st' wg' s'.steps (.slice fa s'.evs.length fc) (.slice (some ⟨jb, 0, none⟩) s'.vars.length jc) (.slice sa s'.arrs.length sc)) 31) = W := ⟨_, rfl⟩
      obtain ⟨B, hB⟩ : ∃ B, w5.heap.size = B := ⟨_, rfl⟩
      have hb56 : Below w5.heap.size w5 W6 := by rw [← hW6]; exact (Below.refl _ w5).alloc (Nat.le_refl _) _
      have hbb : Blk W6 B (oc st' wg' s'.steps (.slice fa s'.evs.length fc) (.slice (some ⟨jb, 0, none⟩) s'.vars.length jc) (.slice sa s'.arrs.length sc)) 31 := by rw [← hW6, ← hB]; exact Blk.new w5 _ _
      have hb46 := HB5.out.trans (hb56.mono HB5.out.size)
      have ha6 := H4.out.2.1.next hb46
      have hb6 := H4.out.1.trans (hb46.mono H4.out.1.size)
      have ho6 := H4.out.2.2.2.next (keepsUp_below _ hb46)
      have ho6' := HO5.out.next (keepsUp_below _ hb56)
      have HBG := Lib.hid (begins_any s'.evs s.evs _ HP.out.1.choose_spec _ _ _ _ W6 (by obtain ⟨x1, x2, x3, hx, hev, -⟩ := ho6'; cases hx; exact hev) (by obtain ⟨x1, x2, x3, hx, hev, -⟩ := ho6; cases hx; exact hev) (by obtain ⟨x1, x2, x3, hx, -, -, -, q1, q2, -⟩ := ho6'; exact Nat.le_trans q2 q1))
      have c0 : W6.cell? ⟨A, 0, none⟩ = some (.int .i64 1) := ha6.cell 0
      have c3 : W6.cell? ⟨A, 3, none⟩ = some (.slice ea s.evs.length ec) := ha6.cell 3
      have d3 : W6.cell? ⟨B, 3, none⟩ = some (.slice fa s'.evs.length fc) := hbb.cell 3
      have H6 := Lib.hid (And.intro hb6 (And.intro ha6 (And.intro hbb (And.intro (H4.out.2.2.1.next hb46) (And.intro ho6 ho6')))))
      rw [hW6, hB]
      clear hW6 hB hb56 hbb hb46 ha6 hb6 ho6 ho6' HO5 H4
      go_upto_region 11 with (first | (go_at_call 6; (with_reducible refine HBG.out.mono ?_); rintro e w7 ⟨rfl, hb7⟩; have a0 : w7.cell? ⟨A, 0, none⟩ = some (.int .i64 1) := (H6.out.2.1.next hb7).cell 0; have a1 : w7.cell? ⟨A, 1, none⟩ = some (.int .i64 0) := (H6.out.2.1.next hb7).cell 1; have a2 : w7.cell? ⟨A, 2, none⟩ = some (.int .i64 k) := (H6.out.2.1.next hb7).cell 2; have b2 : w7.cell? ⟨B, 2, none⟩ = some (.int .i64 s'.steps) := (H6.out.2.2.1.next hb7).cell 2; have HB7 := Lib.hid hb7; clear hb7 c0 c3 d3) | fail)
      go_upto_region 15 with fail
      obtain ⟨w8, hw8⟩ : ∃ x, x = w7 := ⟨_, rfl⟩
      subst hw8
      have H8 := Lib.hid (And.intro (H6.out.1.trans (HB7.out.mono H6.out.1.size)) (And.intro (H6.out.2.1.next HB7.out) (And.intro (H6.out.2.2.2.1.next HB7.out) (H6.out.2.2.2.2.1.next (keepsUp_below _ HB7.out)))))
      clear a0 a1 a2 b2 H6 HB7
      have hlen : s.evs.length ≤ 2000 := by
        obtain ⟨-, -, -, -, -, -, -, -, q, -⟩ := H8.out.2.2.2
        have := HP.out.2.1; have := HN.out.2.1; simp only at q; omega
      have hev : EvsIn w8 w2.heap.size s.evs (.slice ea s.evs.length ec) := by
        obtain ⟨_, _, _, hx, hev, -⟩ := H8.out.2.2.2
        cases hx
        exact hev
      obtain ⟨_, _, hsl, -, -, her⟩ := hev
      cases hsl
      have HLE := Lib.hid (And.intro hlen her)
      clear hlen her
      clear t1 t2 t3 m1 u1 u2 u3 u4 u2'
      go_wp2_with fail
      go_loopw [13, 14] (fun tk x wr => ∃ (i : Nat), x = .int .i64 i ∧ tk = .int .i64 ((insV (s.evs.take i)).length : Int) ∧ i ≤ s.evs.length ∧ Below w8.heap.size w8 wr) (fun _ x _ => s.evs.length - (intOf x).toNat)
      case atStart => exact ⟨0, rfl, by simp [insV], by omega, Below.refl _ _⟩
      case round =>
        obtain ⟨i, rfl, rfl, hi, hbr⟩ := hrel
        have c0 : wr.cell? ⟨A, 3, none⟩ = some (.slice ea s.evs.length ec) := (H8.out.2.1.next hbr).cell 3
        by_cases hlt : i < s.evs.length
        · have hbi : (i : Int) + 1 ≤ 9223372036854775807 := by have := HLE.out.1; omega
          have hxl : ¬ s.evs.length = 0 := by omega
          obtain ⟨g, rfl, -, hcell⟩ := HLE.out.2.resolve_left hxl
          obtain ⟨q0, q1, q2⟩ := cells_at s.evs i hlt
          have hq0 := keeps_below hbr _ _ _ (hcell _ _ q0)
          have hq1 := keeps_below hbr _ _ _ (hcell _ _ q1)
          have hat := ins_at s.evs s.left l HP.out.2.2 i hlt
          have hnot := ins_not s.evs i hlt
          have hle := ins_le s.evs i
          obtain ⟨T, hT⟩ : ∃ n, (insV (s.evs.take i)).length = n := ⟨_, rfl⟩
          obtain ⟨T2, hT2⟩ : ∃ n, (insV (s.evs.take (i + 1))).length = n := ⟨_, rfl⟩
          have hT' := hT
          simp only [hT, hT2] at hat hnot hle ⊢
          have HT2 := Lib.hid hT2
          obtain ⟨b, hb⟩ : ∃ b, s.evs[i].1 = b := ⟨_, rfl⟩
          obtain ⟨n, hn⟩ : ∃ n, s.evs[i].2.1 = n := ⟨_, rfl⟩
          rw [hb] at hq0 hat hnot
          rw [hn] at hq1 hat
          clear hcell q0 q1 q2 hxl hT hT' hT2 hb hn
          cases b with
          | false =>
            have HT := Lib.hid (hnot rfl)
            clear hat hnot hq1 hle
            go_wp2_with fail
            go_roundw
            case rel => exact ⟨i + 1, by go_num, by rw [HT2.out, HT.out], by omega, hbr⟩
            case measure => simp [intOf]; omega
          | true =>
            obtain ⟨hn1, hn2, hn3⟩ := hat rfl
            have HT := Lib.hid hn3
            have hbt : (T : Int) + 1 ≤ 9223372036854775807 := by have := HLE.out.1; omega
            have hsi : IntsAt w8 w8.heap.size l (.slice a2 l.length c2) := HI.out.1.up H8.out.1 H8.out.1.size
            obtain ⟨sb, so, sc, hsv, -, -, hsb, hsn⟩ := hsi.news (by omega)
            have hss := hsn T (.int .i64 n) (by unfold scrV; rw [List.getElem?_map, hn2]; rfl)
            have hss := keeps_below hbr ((⟨sb, so, none⟩ : Addr).add T).block _ _ (by rw [add_none] at hss ⊢; exact hss)
            rw [add_none] at hss
            simp only [Value.slice.injEq] at hsv
            obtain ⟨rfl, -, rfl⟩ := hsv
            have w1 : decide ((l.length : Int) ≤ (T : Int)) = false := by simp; omega
            have HBR := Lib.hid hbr
            have HLT := Lib.hid (And.intro hn1 hle)
            clear hat hnot hn2 hn3 hbr hsi hsn hle hsb
            go_upto_region 20 with fail
            go_cut [138] (fun s wx => s = .bool false ∧ Below w8.heap.size w8 wx)
            case first =>
              go_quiet (fail)
              go_wp2_with fail
              go_meet
              exact ⟨by simp <;> exact HLT.out.1, ⟨HBR.out.os, HBR.out.tape, HBR.out.output, HBR.out.size, HBR.out.block⟩⟩
            case rest =>
              obtain ⟨rfl, hb⟩ := hcut
              clear c0 hq0 hq1 hss HBR
              go_wp2_with fail
              go_roundw
              case rel => exact ⟨i + 1, by go_num, by rw [HT2.out, HT.out]; go_num, by omega, hb⟩
              case measure => simp [intOf]; omega
        · obtain rfl : i = s.evs.length := by omega
          rw [List.take_length]
          have HBR := Lib.hid hbr
          have hsum : (insV s.evs).length + s.left.length = l.length := by rw [← HP.out.2.2, List.length_append]
          by_cases hl0 : s.left = []
          · have e0 : (insV s.evs).length = l.length := by rw [hl0] at hsum; simpa using hsum
            rw [e0]
            have w1 : ((l.length : Int) == (l.length : Int)) = true := by simp
            clear hbr
            go_wp2_with fail
            go_ret
            exact ⟨rfl, H8.out.1.trans (HBR.out.mono H8.out.1.size)⟩
          · have hpos : 0 < s.left.length := List.length_pos_iff.2 hl0
            obtain ⟨T, hT⟩ : ∃ n, (insV s.evs).length = n := ⟨_, rfl⟩
            rw [hT] at hsum ⊢
            have hne : l ≠ [] := by intro h; rw [h] at hsum; simp only [List.length_nil] at hsum; omega
            obtain ⟨p, x, hpx⟩ := ne_last hne
            have w1 : ((T : Int) == (l.length : Int)) = false := by simp; omega
            have hlp : l.length = p.length + 1 := by rw [hpx]; simp
            have hsi : IntsAt wr wr.heap.size l (.slice a2 l.length c2) := HI.out.1.up (H8.out.1.trans (hbr.mono H8.out.1.size)) (H8.out.1.trans (hbr.mono H8.out.1.size)).size
            obtain ⟨sb, so, sc, hsv, -, -, hsb, hsn⟩ := hsi.news (by omega)
            simp only [Value.slice.injEq] at hsv
            obtain ⟨rfl, -, rfl⟩ := hsv
            obtain ⟨i0, hi0, hz0, hz1, hz2⟩ := info_parts info_i64
            have HI0 := Lib.hid (And.intro hi0 (And.intro hz0 (And.intro hz1 hz2)))
            have HSN := Lib.hid hsn
            have HPX := Lib.hid (And.intro hpx (And.intro hlp (And.intro hl0 hsum)))
            have hll : l.length ≤ 2000 := HN.out.2.2.1
            obtain ⟨L, hL⟩ : ∃ n, l.length = n := ⟨_, rfl⟩
            rw [hL] at hlp w1 hll
            simp only [hL]
            have HL := Lib.hid hL
            have hLp : 0 < L := by omega
            have m2 : IntKind.i64.wrap ((L : Int) - 1) = (p.length : Int) := by rw [fits_wrap (by unfold fitsI; omega)]; omega
            clear hbr hsum hpos hT hne hpx hsi hsb hi0 hz0 hz1 hz2 hsn hl0 hL hlp
            have HAP := Lib.hid (And.intro (show (scrV l).length = L * 1 by rw [scrV_len, HL.out, Nat.mul_one]) (And.intro (scrV_one l) (And.intro (show 0 + L ≤ maxLen by unfold maxLen; omega) (show (0 + L) * 8 ≤ 140737488355328 by omega))))
            have HX := Lib.hid (fun (ops : Array Oper) (rest : List Oper) (o : Oper) (a : Act) (Q : Exit → Act → World → Prop) (hgd : o.guard = none) (ho : o.op = .call { callee := .builtin .append, args := #[(.const (.slice none 0 0)), (.tmp 145)], argTypes := #[26, 26] }) (hx : a.eval (.tmp 145) = .slice (some ⟨sb, so, none⟩) L c2) => @wpList_append_lies Try.prog wr ops rest o a Q hgd (.const (.slice none 0 0)) (.tmp 145) 26 ho wr.heap.size 2 i0 _ 1 8 Try.underlying26 HI0.out.1 HI0.out.2.1 HI0.out.2.2.1 HI0.out.2.2.2 rfl (by omega) (.slice none 0 0) 0 [] rfl ⟨rfl, .inl ⟨rfl, rfl⟩⟩ ⟨sb, so, none⟩ L c2 (scrV l) hx HAP.out.1 HSN.out HAP.out.2.1 hLp HAP.out.2.2.1 HAP.out.2.2.2 (Nat.le_refl _) _ rfl)
            go_upto_region 26 with (first | (at_builtin; (refine HX.out _ _ _ _ _ rfl rfl rfl ?_); (intro g cap w9 hown9 hgrow hat hlt9; rw [Nat.zero_add L] at hown9 ⊢)) | fail)
            have hown : w9.ownsRow wr.heap.size 2 1 (.slice (some ⟨g, 0, none⟩) (p ++ [x]).length cap) (p ++ [x]).length (scrV (p ++ [x])) := by
              have e1 : (p ++ [x]).length = L := by rw [← HPX.out.1, HL.out]
              rw [e1, ← HPX.out.1]
              exact hown9
            obtain ⟨hi9, ⟨u9, hu9⟩, hf9, hg1, hg2, ho9⟩ := last_set (m := m) hown
            have hb9 : Below wr.heap.size wr w9 := (Below.refl _ wr).grown hgrow (Nat.le_refl _) (fun k hk => by cases hk)
            obtain ⟨PL, hPL⟩ : ∃ n, p.length = n := ⟨_, rfl⟩
            have hlp : L = PL + 1 := by rw [← hPL, ← HL.out]; exact HPX.out.2.1
            rw [hPL] at hu9 hf9 ho9 hi9 m2
            obtain ⟨W10, hW10⟩ : ∃ W, w9.setCell ⟨g, PL, none⟩ (.int .i64 m) = W := ⟨_, rfl⟩
            rw [hW10] at hi9 ho9
            have hb10 : Below wr.heap.size wr W10 := hb9.trans (ho9.old hg1 hb9.size)
            have hb8 : Below w8.heap.size w8 W10 := HBR.out.trans (hb10.mono HBR.out.size)
            have hbw : Below w.heap.size w W10 := H8.out.1.trans (hb8.mono H8.out.1.size)
            have x10 := (H8.out.2.2.1.next hb8).cell
            have hi10 : IntsAt W10 W10.heap.size (p ++ [m]) (.slice (some ⟨g, 0, none⟩) L cap) := by
              have e1 : (p ++ [x]).length = L := by rw [← HPX.out.1, HL.out]
              have h2 := hi9.le ho9.size
              rw [e1] at h2
              exact h2
            have hfit : ∀ y ∈ p ++ [m], fitsI y := by
              intro y hy
              rcases List.mem_append.1 hy with h | h
              · exact HI.out.2.1 y (by rw [HPX.out.1]; exact List.mem_append_left _ h)
              · rw [List.mem_singleton.1 h]; exact HI.out.2.2.1
            obtain ⟨q, hq⟩ : ∃ q : List Int, runO ds ss (p ++ [m]) k = (1, 0, { s with left := q }) := by
              have h0 := on_last ds ss HW.out p x m k'
              rw [← HPX.out.1, ← HN.out.1, HO.out.1] at h0
              rcases h0 with h | ⟨q, -, h⟩
              · exact absurd h HPX.out.2.2.1
              · exact ⟨_, h⟩
            have hF10 : runF ds ss (p ++ [m]) k = 0 := by
              have e1 : (p ++ [m]).length = PL + 1 := by rw [List.length_append, hPL]; rfl
              rw [on_F (by have := HN.out.1; omega) (by have := HN.out.1; have := HN.out.2.1; omega) (by rw [e1]; omega)]
              exact HN.out.2.2.2.2
            have HR10 := Lib.hid (HRUN2.out (p ++ [m]) _ W10 hbw hi10 hfit)
            have HQ := Lib.hid (And.intro hq hF10)
            have H10 := Lib.hid (And.intro hb8 (And.intro hbw hW10))
            have hpl : (PL : Int) < (L : Int) := by omega
            clear hlp hown hown9 hgrow hat hlt9 hi9 hg1 hg2 ho9 hb9 hPL hW10 hb10 hb8 hbw hi10 hfit hq hF10
            go_upto_region 27 with fail
            rw [H10.out.2.2]
            go_upto_region 28 with (first | (go_at_call 5; (with_reducible refine HR10.out.mono ?_); rintro e w11 ⟨u, rfl, hb11, hout, -⟩; rw [HQ.out.2]; have hO := hout HQ.out.2; rw [HQ.out.1] at hO; have HO11 := Lib.hid hO; obtain ⟨ve, vv, va, rfl, hev, hiv, hrv, -⟩ := hO; obtain ⟨ha, hc, rfl⟩ := (show EvsIn w11 _ s.evs ve from hev).form; obtain ⟨kb, kc, rfl⟩ := (show IntsIn w11 _ s.vars vv from hiv).form; obtain ⟨ta, tc, rfl⟩ := (show RowsIn w11 _ s.arrs va from hrv).form; clear hev hiv hrv; rw [HSK.out]; have HB11 := Lib.hid hb11; clear hb11 hout x10 hu9 hf9) | fail)
            obtain ⟨W12, hW12⟩ : ∃ W, w11.alloc (.cells (oc 1 0 k (.slice ha s.evs.length hc) (.slice (some ⟨kb, 0, none⟩) s.vars.length kc) (.slice ta s.arrs.length tc)) 31) = W := ⟨_, rfl⟩
            obtain ⟨C, hC⟩ : ∃ C, w11.heap.size = C := ⟨_, rfl⟩
            have hb1112 : Below w11.heap.size w11 W12 := by rw [← hW12]; exact (Below.refl _ w11).alloc (Nat.le_refl _) _
            have hcc : Blk W12 C (oc 1 0 k (.slice ha s.evs.length hc) (.slice (some ⟨kb, 0, none⟩) s.vars.length kc) (.slice ta s.arrs.length tc)) 31 := by rw [← hW12, ← hC]; exact Blk.new w11 _ _
            have hb1012 : Below W10.heap.size W10 W12 := HB11.out.trans (hb1112.mono HB11.out.size)
            have hb812 := H10.out.1.trans (hb1012.mono H10.out.1.size)
            have aa := (H8.out.2.1.next hb812).cell
            have cc := hcc.cell
            have hoc := outcome_any (1, 0, s) _ _ _ _ W12 (H8.out.2.2.2.next (keepsUp_below _ hb812)) (HO11.out.next (keepsUp_below _ hb1112))
            rw [HSK.out] at hoc
            have HOC := Lib.hid hoc
            have H12 := Lib.hid (H10.out.2.1.trans (hb1012.mono H10.out.2.1.size))
            rw [hW12, hC]
            clear hoc hW12 hC hb1112 hcc hb1012 hb812
            go_wp2_with (first | (go_at_call 7; (with_reducible refine HOC.out.mono ?_); rintro e w13 ⟨rfl, hb13⟩; have HB13 := Lib.hid hb13; clear hb13) | fail)
            go_ret
            exact ⟨rfl, H12.out.trans (HB13.out.mono H12.out.size)⟩
    · have he := he.symm
      simp only [Prod.mk.injEq] at he
      obtain ⟨rfl, rfl, rfl⟩ := he
      go_enter Try.func3, Try.ntmps3
      go_upto_region 1 with fail
      rw [HE.out.1, HE.out.2]
      go_upto_region 5 with (first | (go_at_call 4; (with_reducible refine HKN.out.mono ?_); rintro e w2 ⟨rfl, hb2⟩; have HB2 := Lib.hid hb2; have x2 := (H1.out.1.next hb2).cell; have HR2 := Lib.hid (HRUN.out k w2 (H1.out.2.trans (hb2.mono H1.out.2.size))); clear hb2) | fail)
      go_upto_region 6 with (first | (go_at_call 5; (with_reducible refine HR2.out.mono ?_); rintro e w3 ⟨u, rfl, hb3, hout, -⟩; rw [HF.out.1]; have hO := hout HF.out.1; rw [HO.out.1] at hO; have HO3 := Lib.hid hO; obtain ⟨ve, vv, va, rfl, hev, hiv, hrv, -⟩ := hO; obtain ⟨ea, ec, rfl⟩ := (show EvsIn w3 _ s.evs ve from hev).form; obtain ⟨ib, ic, rfl⟩ := (show IntsIn w3 _ s.vars vv from hiv).form; obtain ⟨ra, rc, rfl⟩ := (show RowsIn w3 _ s.arrs va from hrv).form; clear hev hiv hrv; have HB3 := Lib.hid hb3; clear hb3 hout x2) | fail)
      have hx3 := (H1.out.1.next HB2.out).next HB3.out
      have hb3 : Below w.heap.size w w3 := (H1.out.2.trans (HB2.out.mono H1.out.2.size)).trans (HB3.out.mono (Nat.le_trans H1.out.2.size HB2.out.size))
      obtain ⟨W4, hW4⟩ : ∃ W, w3.alloc (.cells (oc 2 0 s.steps (.slice ea s.evs.length ec) (.slice (some ⟨ib, 0, none⟩) s.vars.length ic) (.slice ra s.arrs.length rc)) 31) = W := ⟨_, rfl⟩
      obtain ⟨A, hA⟩ : ∃ A, w3.heap.size = A := ⟨_, rfl⟩
      have hb34 : Below w3.heap.size w3 W4 := by rw [← hW4]; exact (Below.refl _ w3).alloc (Nat.le_refl _) _
      have ha4 : Blk W4 A (oc 2 0 s.steps (.slice ea s.evs.length ec) (.slice (some ⟨ib, 0, none⟩) s.vars.length ic) (.slice ra s.arrs.length rc)) 31 := by rw [← hW4, ← hA]; exact Blk.new w3 _ _
      have x4 := (hx3.next hb34).cell
      have hb4 := hb3.trans (hb34.mono hb3.size)
      have HR4 := Lib.hid (HRUN.out k1 W4 hb4)
      have H4 := Lib.hid (And.intro hb4 (And.intro ha4 (And.intro (hx3.next hb34) (HO3.out.next (keepsUp_below _ hb34)))))
      rw [hW4, hA]
      clear hx3 hb3 hW4 hA hb34 ha4 hb4 HO3
      go_upto_region 7 with (first | (go_at_call 5; (with_reducible refine HR4.out.mono ?_); rintro e w5 ⟨u, rfl, hb5, hout, -⟩; rw [HF.out.2]; have hO := hout HF.out.2; rw [HO.out.2] at hO; have HO5 := Lib.hid hO; obtain ⟨ve, vv, va, rfl, hev, hiv, hrv, -⟩ := hO; obtain ⟨fa, fc, rfl⟩ := (show EvsIn w5 _ s.evs ve from hev).form; obtain ⟨jb, jc, rfl⟩ := (show IntsIn w5 _ s.vars vv from hiv).form; obtain ⟨sa, sc, rfl⟩ := (show RowsIn w5 _ s.arrs va from hrv).form; clear hev hiv hrv; have HB5 := Lib.hid hb5; clear hb5 hout x4) | fail)
      obtain ⟨W6, hW6⟩ : ∃ W, w5.alloc (.cells (oc 2 0 s.steps (.slice fa s.evs.length fc) (.slice (some ⟨jb, 0, none⟩) s.vars.length jc) (.slice sa s.arrs.length sc)) 31) = W := ⟨_, rfl⟩
      obtain ⟨B, hB⟩ : ∃ B, w5.heap.size = B := ⟨_, rfl⟩
      have hb56 : Below w5.heap.size w5 W6 := by rw [← hW6]; exact (Below.refl _ w5).alloc (Nat.le_refl _) _
      have hbb : Blk W6 B (oc 2 0 s.steps (.slice fa s.evs.length fc) (.slice (some ⟨jb, 0, none⟩) s.vars.length jc) (.slice sa s.arrs.length sc)) 31 := by rw [← hW6, ← hB]; exact Blk.new w5 _ _
      have hb46 := HB5.out.trans (hb56.mono HB5.out.size)
      have ha6 := H4.out.2.1.next hb46
      have hb6 := H4.out.1.trans (hb46.mono H4.out.1.size)
      have ho6 := H4.out.2.2.2.next (keepsUp_below _ hb46)
      have ho6' := HO5.out.next (keepsUp_below _ hb56)
      have HBG := Lib.hid (begins_any s.evs s.evs _ HP.out.1.choose_spec _ _ _ _ W6 (by obtain ⟨x1, x2, x3, hx, hev, -⟩ := ho6'; cases hx; exact hev) (by obtain ⟨x1, x2, x3, hx, hev, -⟩ := ho6; cases hx; exact hev) (by obtain ⟨x1, x2, x3, hx, -, -, -, q1, q2, -⟩ := ho6'; exact Nat.le_trans q2 q1))
      have c0 : W6.cell? ⟨A, 0, none⟩ = some (.int .i64 2) := ha6.cell 0
      have c3 : W6.cell? ⟨A, 3, none⟩ = some (.slice ea s.evs.length ec) := ha6.cell 3
      have d3 : W6.cell? ⟨B, 3, none⟩ = some (.slice fa s.evs.length fc) := hbb.cell 3
      have H6 := Lib.hid (And.intro hb6 (And.intro ha6 (And.intro hbb (And.intro (H4.out.2.2.1.next hb46) (And.intro ho6 ho6')))))
      rw [hW6, hB]
      clear hW6 hB hb56 hbb hb46 ha6 hb6 ho6 ho6' HO5 H4
      go_upto_region 11 with (first | (go_at_call 6; (with_reducible refine HBG.out.mono ?_); rintro e w7 ⟨rfl, hb7⟩; have a0 : w7.cell? ⟨A, 0, none⟩ = some (.int .i64 2) := (H6.out.2.1.next hb7).cell 0; have a1 : w7.cell? ⟨A, 1, none⟩ = some (.int .i64 0) := (H6.out.2.1.next hb7).cell 1; have a2 : w7.cell? ⟨A, 2, none⟩ = some (.int .i64 s.steps) := (H6.out.2.1.next hb7).cell 2; have b2 : w7.cell? ⟨B, 2, none⟩ = some (.int .i64 s.steps) := (H6.out.2.2.1.next hb7).cell 2; have HB7 := Lib.hid hb7; have aa := (H6.out.2.1.next hb7).cell; have bb := (H6.out.2.2.1.next hb7).cell; have HOC := Lib.hid (outcome_any (2, 0, s) _ _ _ _ w7 (H6.out.2.2.2.2.1.next (keepsUp_below _ hb7)) (H6.out.2.2.2.2.2.next (keepsUp_below _ hb7))); clear hb7 c0 c3 d3) | fail)
      go_upto_region 15 with (first | (go_at_call 7; (with_reducible refine HOC.out.mono ?_); rintro e w8 ⟨rfl, hb8⟩; have hb68 := HB7.out.trans (hb8.mono HB7.out.size); have g0 : w8.cell? ⟨A, 0, none⟩ = some (.int .i64 2) := (H6.out.2.1.next hb68).cell 0; have g1 : w8.cell? ⟨A, 1, none⟩ = some (.int .i64 0) := (H6.out.2.1.next hb68).cell 1; have g2 : w8.cell? ⟨A, 2, none⟩ = some (.int .i64 s.steps) := (H6.out.2.1.next hb68).cell 2; have HB8 := Lib.hid hb68; clear hb68 hb8 a0 a1 a2 b2 aa bb) | fail)
      have H8 := Lib.hid (And.intro (H6.out.1.trans (HB8.out.mono H6.out.1.size)) (And.intro (H6.out.2.1.next HB8.out) (And.intro (H6.out.2.2.2.1.next HB8.out) (H6.out.2.2.2.2.1.next (keepsUp_below _ HB8.out)))))
      clear g0 g1 g2 H6 HB7 HB8 HOC
      have hlen : s.evs.length ≤ 2000 := by
        obtain ⟨-, -, -, -, -, -, -, -, q, -⟩ := H8.out.2.2.2
        have := HP.out.2.1; have := HN.out.2.1; simp only at q; omega
      have hev : EvsIn w8 w2.heap.size s.evs (.slice ea s.evs.length ec) := by
        obtain ⟨_, _, _, hx, hev, -⟩ := H8.out.2.2.2
        cases hx
        exact hev
      obtain ⟨_, _, hsl, -, -, her⟩ := hev
      cases hsl
      have HLE := Lib.hid (And.intro hlen her)
      clear hlen her
      clear t1 t2 t3 m1 u1 u2 u3 u4
      go_wp2_with fail
      go_loopw [13, 14] (fun tk x wr => ∃ (i : Nat), x = .int .i64 i ∧ tk = .int .i64 ((insV (s.evs.take i)).length : Int) ∧ i ≤ s.evs.length ∧ Below w8.heap.size w8 wr) (fun _ x _ => s.evs.length - (intOf x).toNat)
      case atStart => exact ⟨0, rfl, by simp [insV], by omega, Below.refl _ _⟩
      case round =>
        obtain ⟨i, rfl, rfl, hi, hbr⟩ := hrel
        have c0 : wr.cell? ⟨A, 3, none⟩ = some (.slice ea s.evs.length ec) := (H8.out.2.1.next hbr).cell 3
        by_cases hlt : i < s.evs.length
        · have hbi : (i : Int) + 1 ≤ 9223372036854775807 := by have := HLE.out.1; omega
          have hxl : ¬ s.evs.length = 0 := by omega
          obtain ⟨g, rfl, -, hcell⟩ := HLE.out.2.resolve_left hxl
          obtain ⟨q0, q1, q2⟩ := cells_at s.evs i hlt
          have hq0 := keeps_below hbr _ _ _ (hcell _ _ q0)
          have hq1 := keeps_below hbr _ _ _ (hcell _ _ q1)
          have hat := ins_at s.evs s.left l HP.out.2.2 i hlt
          have hnot := ins_not s.evs i hlt
          have hle := ins_le s.evs i
          obtain ⟨T, hT⟩ : ∃ n, (insV (s.evs.take i)).length = n := ⟨_, rfl⟩
          obtain ⟨T2, hT2⟩ : ∃ n, (insV (s.evs.take (i + 1))).length = n := ⟨_, rfl⟩
          have hT' := hT
          simp only [hT, hT2] at hat hnot hle ⊢
          have HT2 := Lib.hid hT2
          obtain ⟨b, hb⟩ : ∃ b, s.evs[i].1 = b := ⟨_, rfl⟩
          obtain ⟨n, hn⟩ : ∃ n, s.evs[i].2.1 = n := ⟨_, rfl⟩
          rw [hb] at hq0 hat hnot
          rw [hn] at hq1 hat
          clear hcell q0 q1 q2 hxl hT hT' hT2 hb hn
          cases b with
          | false =>
            have HT := Lib.hid (hnot rfl)
            clear hat hnot hq1 hle
            go_wp2_with fail
            go_roundw
            case rel => exact ⟨i + 1, by go_num, by rw [HT2.out, HT.out], by omega, hbr⟩
            case measure => simp [intOf]; omega
          | true =>
            obtain ⟨hn1, hn2, hn3⟩ := hat rfl
            have HT := Lib.hid hn3
            have hbt : (T : Int) + 1 ≤ 9223372036854775807 := by have := HLE.out.1; omega
            have hsi : IntsAt w8 w8.heap.size l (.slice a2 l.length c2) := HI.out.1.up H8.out.1 H8.out.1.size
            obtain ⟨sb, so, sc, hsv, -, -, hsb, hsn⟩ := hsi.news (by omega)
            have hss := hsn T (.int .i64 n) (by unfold scrV; rw [List.getElem?_map, hn2]; rfl)
            have hss := keeps_below hbr ((⟨sb, so, none⟩ : Addr).add T).block _ _ (by rw [add_none] at hss ⊢; exact hss)
            rw [add_none] at hss
            simp only [Value.slice.injEq] at hsv
            obtain ⟨rfl, -, rfl⟩ := hsv
            have w1 : decide ((l.length : Int) ≤ (T : Int)) = false := by simp; omega
            have HBR := Lib.hid hbr
            have HLT := Lib.hid (And.intro hn1 hle)
            clear hat hnot hn2 hn3 hbr hsi hsn hle hsb
            go_upto_region 20 with fail
            go_cut [138] (fun s wx => s = .bool false ∧ Below w8.heap.size w8 wx)
            case first =>
              go_quiet (fail)
              go_wp2_with fail
              go_meet
              exact ⟨by simp <;> exact HLT.out.1, ⟨HBR.out.os, HBR.out.tape, HBR.out.output, HBR.out.size, HBR.out.block⟩⟩
            case rest =>
              obtain ⟨rfl, hb⟩ := hcut
              clear c0 hq0 hq1 hss HBR
              go_wp2_with fail
              go_roundw
              case rel => exact ⟨i + 1, by go_num, by rw [HT2.out, HT.out]; go_num, by omega, hb⟩
              case measure => simp [intOf]; omega
        · obtain rfl : i = s.evs.length := by omega
          rw [List.take_length]
          have HBR := Lib.hid hbr
          have hsum : (insV s.evs).length + s.left.length = l.length := by rw [← HP.out.2.2, List.length_append]
          by_cases hl0 : s.left = []
          · have e0 : (insV s.evs).length = l.length := by rw [hl0] at hsum; simpa using hsum
            rw [e0]
            have w1 : ((l.length : Int) == (l.length : Int)) = true := by simp
            clear hbr
            go_wp2_with fail
            go_ret
            exact ⟨rfl, H8.out.1.trans (HBR.out.mono H8.out.1.size)⟩
          · have hpos : 0 < s.left.length := List.length_pos_iff.2 hl0
            obtain ⟨T, hT⟩ : ∃ n, (insV s.evs).length = n := ⟨_, rfl⟩
            rw [hT] at hsum ⊢
            have hne : l ≠ [] := by intro h; rw [h] at hsum; simp only [List.length_nil] at hsum; omega
            obtain ⟨p, x, hpx⟩ := ne_last hne
            have w1 : ((T : Int) == (l.length : Int)) = false := by simp; omega
            have hlp : l.length = p.length + 1 := by rw [hpx]; simp
            have hsi : IntsAt wr wr.heap.size l (.slice a2 l.length c2) := HI.out.1.up (H8.out.1.trans (hbr.mono H8.out.1.size)) (H8.out.1.trans (hbr.mono H8.out.1.size)).size
            obtain ⟨sb, so, sc, hsv, -, -, hsb, hsn⟩ := hsi.news (by omega)
            simp only [Value.slice.injEq] at hsv
            obtain ⟨rfl, -, rfl⟩ := hsv
            obtain ⟨i0, hi0, hz0, hz1, hz2⟩ := info_parts info_i64
            have HI0 := Lib.hid (And.intro hi0 (And.intro hz0 (And.intro hz1 hz2)))
            have HSN := Lib.hid hsn
            have HPX := Lib.hid (And.intro hpx (And.intro hlp (And.intro hl0 hsum)))
            have hll : l.length ≤ 2000 := HN.out.2.2.1
            obtain ⟨L, hL⟩ : ∃ n, l.length = n := ⟨_, rfl⟩
            rw [hL] at hlp w1 hll
            simp only [hL]
            have HL := Lib.hid hL
            have hLp : 0 < L := by omega
            have m2 : IntKind.i64.wrap ((L : Int) - 1) = (p.length : Int) := by rw [fits_wrap (by unfold fitsI; omega)]; omega
            clear hbr hsum hpos hT hne hpx hsi hsb hi0 hz0 hz1 hz2 hsn hl0 hL hlp
            have HAP := Lib.hid (And.intro (show (scrV l).length = L * 1 by rw [scrV_len, HL.out, Nat.mul_one]) (And.intro (scrV_one l) (And.intro (show 0 + L ≤ maxLen by unfold maxLen; omega) (show (0 + L) * 8 ≤ 140737488355328 by omega))))
            have HX := Lib.hid (fun (ops : Array Oper) (rest : List Oper) (o : Oper) (a : Act) (Q : Exit → Act → World → Prop) (hgd : o.guard = none) (ho : o.op = .call { callee := .builtin .append, args := #[(.const (.slice none 0 0)), (.tmp 145)], argTypes := #[26, 26] }) (hx : a.eval (.tmp 145) = .slice (some ⟨sb, so, none⟩) L c2) => @wpList_append_lies Try.prog wr ops rest o a Q hgd (.const (.slice none 0 0)) (.tmp 145) 26 ho wr.heap.size 2 i0 _ 1 8 Try.underlying26 HI0.out.1 HI0.out.2.1 HI0.out.2.2.1 HI0.out.2.2.2 rfl (by omega) (.slice none 0 0) 0 [] rfl ⟨rfl, .inl ⟨rfl, rfl⟩⟩ ⟨sb, so, none⟩ L c2 (scrV l) hx HAP.out.1 HSN.out HAP.out.2.1 hLp HAP.out.2.2.1 HAP.out.2.2.2 (Nat.le_refl _) _ rfl)
            go_upto_region 26 with (first | (at_builtin; (refine HX.out _ _ _ _ _ rfl rfl rfl ?_); (intro g cap w9 hown9 hgrow hat hlt9; rw [Nat.zero_add L] at hown9 ⊢)) | fail)
            have hown : w9.ownsRow wr.heap.size 2 1 (.slice (some ⟨g, 0, none⟩) (p ++ [x]).length cap) (p ++ [x]).length (scrV (p ++ [x])) := by
              have e1 : (p ++ [x]).length = L := by rw [← HPX.out.1, HL.out]
              rw [e1, ← HPX.out.1]
              exact hown9
            obtain ⟨hi9, ⟨u9, hu9⟩, hf9, hg1, hg2, ho9⟩ := last_set (m := m) hown
            have hb9 : Below wr.heap.size wr w9 := (Below.refl _ wr).grown hgrow (Nat.le_refl _) (fun k hk => by cases hk)
            obtain ⟨PL, hPL⟩ : ∃ n, p.length = n := ⟨_, rfl⟩
            have hlp : L = PL + 1 := by rw [← hPL, ← HL.out]; exact HPX.out.2.1
            rw [hPL] at hu9 hf9 ho9 hi9 m2
            obtain ⟨W10, hW10⟩ : ∃ W, w9.setCell ⟨g, PL, none⟩ (.int .i64 m) = W := ⟨_, rfl⟩
            rw [hW10] at hi9 ho9
            have hb10 : Below wr.heap.size wr W10 := hb9.trans (ho9.old hg1 hb9.size)
            have hb8 : Below w8.heap.size w8 W10 := HBR.out.trans (hb10.mono HBR.out.size)
            have hbw : Below w.heap.size w W10 := H8.out.1.trans (hb8.mono H8.out.1.size)
            have x10 := (H8.out.2.2.1.next hb8).cell
            have hi10 : IntsAt W10 W10.heap.size (p ++ [m]) (.slice (some ⟨g, 0, none⟩) L cap) := by
              have e1 : (p ++ [x]).length = L := by rw [← HPX.out.1, HL.out]
              have h2 := hi9.le ho9.size
              rw [e1] at h2
              exact h2
            have hfit : ∀ y ∈ p ++ [m], fitsI y := by
              intro y hy
              rcases List.mem_append.1 hy with h | h
              · exact HI.out.2.1 y (by rw [HPX.out.1]; exact List.mem_append_left _ h)
              · rw [List.mem_singleton.1 h]; exact HI.out.2.2.1
            obtain ⟨q, hq⟩ : ∃ q : List Int, runO ds ss (p ++ [m]) k = (2, 0, { s with left := q }) := by
              have h0 := on_last ds ss HW.out p x m k'
              rw [← HPX.out.1, ← HN.out.1, HO.out.1] at h0
              rcases h0 with h | ⟨q, -, h⟩
              · exact absurd h HPX.out.2.2.1
              · exact ⟨_, h⟩
            have hF10 : runF ds ss (p ++ [m]) k = 0 := by
              have e1 : (p ++ [m]).length = PL + 1 := by rw [List.length_append, hPL]; rfl
              rw [on_F (by have := HN.out.1; omega) (by have := HN.out.1; have := HN.out.2.1; omega) (by rw [e1]; omega)]
              exact HN.out.2.2.2.2
            have HR10 := Lib.hid (HRUN2.out (p ++ [m]) _ W10 hbw hi10 hfit)
            have HQ := Lib.hid (And.intro hq hF10)
            have H10 := Lib.hid (And.intro hb8 (And.intro hbw hW10))
            have hpl : (PL : Int) < (L : Int) := by omega
            clear hlp hown hown9 hgrow hat hlt9 hi9 hg1 hg2 ho9 hb9 hPL hW10 hb10 hb8 hbw hi10 hfit hq hF10
            go_upto_region 27 with fail
            rw [H10.out.2.2]
            go_upto_region 28 with (first | (go_at_call 5; (with_reducible refine HR10.out.mono ?_); rintro e w11 ⟨u, rfl, hb11, hout, -⟩; rw [HQ.out.2]; have hO := hout HQ.out.2; rw [HQ.out.1] at hO; have HO11 := Lib.hid hO; obtain ⟨ve, vv, va, rfl, hev, hiv, hrv, -⟩ := hO; obtain ⟨ha, hc, rfl⟩ := (show EvsIn w11 _ s.evs ve from hev).form; obtain ⟨kb, kc, rfl⟩ := (show IntsIn w11 _ s.vars vv from hiv).form; obtain ⟨ta, tc, rfl⟩ := (show RowsIn w11 _ s.arrs va from hrv).form; clear hev hiv hrv; have HB11 := Lib.hid hb11; clear hb11 hout x10 hu9 hf9) | fail)
            obtain ⟨W12, hW12⟩ : ∃ W, w11.alloc (.cells (oc 2 0 s.steps (.slice ha s.evs.length hc) (.slice (some ⟨kb, 0, none⟩) s.vars.length kc) (.slice ta s.arrs.length tc)) 31) = W := ⟨_, rfl⟩
            obtain ⟨C, hC⟩ : ∃ C, w11.heap.size = C := ⟨_, rfl⟩
            have hb1112 : Below w11.heap.size w11 W12 := by rw [← hW12]; exact (Below.refl _ w11).alloc (Nat.le_refl _) _
            have hcc : Blk W12 C (oc 2 0 s.steps (.slice ha s.evs.length hc) (.slice (some ⟨kb, 0, none⟩) s.vars.length kc) (.slice ta s.arrs.length tc)) 31 := by rw [← hW12, ← hC]; exact Blk.new w11 _ _
            have hb1012 : Below W10.heap.size W10 W12 := HB11.out.trans (hb1112.mono HB11.out.size)
            have hb812 := H10.out.1.trans (hb1012.mono H10.out.1.size)
            have aa := (H8.out.2.1.next hb812).cell
            have cc := hcc.cell
            have hoc := outcome_any (2, 0, s) _ _ _ _ W12 (H8.out.2.2.2.next (keepsUp_below _ hb812)) (HO11.out.next (keepsUp_below _ hb1112))
            skip
            have HOC := Lib.hid hoc
            have H12 := Lib.hid (H10.out.2.1.trans (hb1012.mono H10.out.2.1.size))
            rw [hW12, hC]
            clear hoc hW12 hC hb1112 hcc hb1012 hb812
            go_wp2_with (first | (go_at_call 7; (with_reducible refine HOC.out.mono ?_); rintro e w13 ⟨rfl, hb13⟩; have HB13 := Lib.hid hb13; clear hb13) | fail)
            go_ret
            exact ⟨rfl, H12.out.trans (HB13.out.mono H12.out.size)⟩
    · have he := he.symm
      simp only [Prod.mk.injEq] at he
      obtain ⟨rfl, rfl, rfl⟩ := he
      go_enter Try.func3, Try.ntmps3
      go_upto_region 1 with fail
      rw [HE.out.1, HE.out.2]
      go_upto_region 5 with (first | (go_at_call 4; (with_reducible refine HKN.out.mono ?_); rintro e w2 ⟨rfl, hb2⟩; have HB2 := Lib.hid hb2; have x2 := (H1.out.1.next hb2).cell; have HR2 := Lib.hid (HRUN.out k w2 (H1.out.2.trans (hb2.mono H1.out.2.size))); clear hb2) | fail)
      go_upto_region 6 with (first | (go_at_call 5; (with_reducible refine HR2.out.mono ?_); rintro e w3 ⟨u, rfl, hb3, hout, -⟩; rw [HF.out.1]; have hO := hout HF.out.1; rw [HO.out.1] at hO; have HO3 := Lib.hid hO; obtain ⟨ve, vv, va, rfl, hev, hiv, hrv, -⟩ := hO; obtain ⟨ea, ec, rfl⟩ := (show EvsIn w3 _ s.evs ve from hev).form; obtain ⟨ib, ic, rfl⟩ := (show IntsIn w3 _ s.vars vv from hiv).form; obtain ⟨ra, rc, rfl⟩ := (show RowsIn w3 _ s.arrs va from hrv).form; clear hev hiv hrv; have HB3 := Lib.hid hb3; clear hb3 hout x2) | fail)
      have hx3 := (H1.out.1.next HB2.out).next HB3.out
      have hb3 : Below w.heap.size w w3 := (H1.out.2.trans (HB2.out.mono H1.out.2.size)).trans (HB3.out.mono (Nat.le_trans H1.out.2.size HB2.out.size))
      obtain ⟨W4, hW4⟩ : ∃ W, w3.alloc (.cells (oc 3 wg s.steps (.slice ea s.evs.length ec) (.slice (some ⟨ib, 0, none⟩) s.vars.length ic) (.slice ra s.arrs.length rc)) 31) = W := ⟨_, rfl⟩
      obtain ⟨A, hA⟩ : ∃ A, w3.heap.size = A := ⟨_, rfl⟩
      have hb34 : Below w3.heap.size w3 W4 := by rw [← hW4]; exact (Below.refl _ w3).alloc (Nat.le_refl _) _
      have ha4 : Blk W4 A (oc 3 wg s.steps (.slice ea s.evs.length ec) (.slice (some ⟨ib, 0, none⟩) s.vars.length ic) (.slice ra s.arrs.length rc)) 31 := by rw [← hW4, ← hA]; exact Blk.new w3 _ _
      have x4 := (hx3.next hb34).cell
      have hb4 := hb3.trans (hb34.mono hb3.size)
      have HR4 := Lib.hid (HRUN.out k1 W4 hb4)
      have H4 := Lib.hid (And.intro hb4 (And.intro ha4 (And.intro (hx3.next hb34) (HO3.out.next (keepsUp_below _ hb34)))))
      rw [hW4, hA]
      clear hx3 hb3 hW4 hA hb34 ha4 hb4 HO3
      go_upto_region 7 with (first | (go_at_call 5; (with_reducible refine HR4.out.mono ?_); rintro e w5 ⟨u, rfl, hb5, hout, -⟩; rw [HF.out.2]; have hO := hout HF.out.2; rw [HO.out.2] at hO; have HO5 := Lib.hid hO; obtain ⟨ve, vv, va, rfl, hev, hiv, hrv, -⟩ := hO; obtain ⟨fa, fc, rfl⟩ := (show EvsIn w5 _ s.evs ve from hev).form; obtain ⟨jb, jc, rfl⟩ := (show IntsIn w5 _ s.vars vv from hiv).form; obtain ⟨sa, sc, rfl⟩ := (show RowsIn w5 _ s.arrs va from hrv).form; clear hev hiv hrv; have HB5 := Lib.hid hb5; clear hb5 hout x4) | fail)
      obtain ⟨W6, hW6⟩ : ∃ W, w5.alloc (.cells (oc 3 wg s.steps (.slice fa s.evs.length fc) (.slice (some ⟨jb, 0, none⟩) s.vars.length jc) (.slice sa s.arrs.length sc)) 31) = W := ⟨_, rfl⟩
      obtain ⟨B, hB⟩ : ∃ B, w5.heap.size = B := ⟨_, rfl⟩
      have hb56 : Below w5.heap.size w5 W6 := by rw [← hW6]; exact (Below.refl _ w5).alloc (Nat.le_refl _) _
      have hbb : Blk W6 B (oc 3 wg s.steps (.slice fa s.evs.length fc) (.slice (some ⟨jb, 0, none⟩) s.vars.length jc) (.slice sa s.arrs.length sc)) 31 := by rw [← hW6, ← hB]; exact Blk.new w5 _ _
      have hb46 := HB5.out.trans (hb56.mono HB5.out.size)
      have ha6 := H4.out.2.1.next hb46
      have hb6 := H4.out.1.trans (hb46.mono H4.out.1.size)
      have ho6 := H4.out.2.2.2.next (keepsUp_below _ hb46)
      have ho6' := HO5.out.next (keepsUp_below _ hb56)
      have HBG := Lib.hid (begins_any s.evs s.evs _ HP.out.1.choose_spec _ _ _ _ W6 (by obtain ⟨x1, x2, x3, hx, hev, -⟩ := ho6'; cases hx; exact hev) (by obtain ⟨x1, x2, x3, hx, hev, -⟩ := ho6; cases hx; exact hev) (by obtain ⟨x1, x2, x3, hx, -, -, -, q1, q2, -⟩ := ho6'; exact Nat.le_trans q2 q1))
      have c0 : W6.cell? ⟨A, 0, none⟩ = some (.int .i64 3) := ha6.cell 0
      have c3 : W6.cell? ⟨A, 3, none⟩ = some (.slice ea s.evs.length ec) := ha6.cell 3
      have d3 : W6.cell? ⟨B, 3, none⟩ = some (.slice fa s.evs.length fc) := hbb.cell 3
      have H6 := Lib.hid (And.intro hb6 (And.intro ha6 (And.intro hbb (And.intro (H4.out.2.2.1.next hb46) (And.intro ho6 ho6')))))
      rw [hW6, hB]
      clear hW6 hB hb56 hbb hb46 ha6 hb6 ho6 ho6' HO5 H4
      go_upto_region 11 with (first | (go_at_call 6; (with_reducible refine HBG.out.mono ?_); rintro e w7 ⟨rfl, hb7⟩; have a0 : w7.cell? ⟨A, 0, none⟩ = some (.int .i64 3) := (H6.out.2.1.next hb7).cell 0; have a1 : w7.cell? ⟨A, 1, none⟩ = some (.int .i64 wg) := (H6.out.2.1.next hb7).cell 1; have a2 : w7.cell? ⟨A, 2, none⟩ = some (.int .i64 s.steps) := (H6.out.2.1.next hb7).cell 2; have b2 : w7.cell? ⟨B, 2, none⟩ = some (.int .i64 s.steps) := (H6.out.2.2.1.next hb7).cell 2; have HB7 := Lib.hid hb7; have aa := (H6.out.2.1.next hb7).cell; have bb := (H6.out.2.2.1.next hb7).cell; have HOC := Lib.hid (outcome_any (3, wg, s) _ _ _ _ w7 (H6.out.2.2.2.2.1.next (keepsUp_below _ hb7)) (H6.out.2.2.2.2.2.next (keepsUp_below _ hb7))); clear hb7 c0 c3 d3) | fail)
      go_upto_region 15 with (first | (go_at_call 7; (with_reducible refine HOC.out.mono ?_); rintro e w8 ⟨rfl, hb8⟩; have hb68 := HB7.out.trans (hb8.mono HB7.out.size); have g0 : w8.cell? ⟨A, 0, none⟩ = some (.int .i64 3) := (H6.out.2.1.next hb68).cell 0; have g1 : w8.cell? ⟨A, 1, none⟩ = some (.int .i64 wg) := (H6.out.2.1.next hb68).cell 1; have g2 : w8.cell? ⟨A, 2, none⟩ = some (.int .i64 s.steps) := (H6.out.2.1.next hb68).cell 2; have HB8 := Lib.hid hb68; clear hb68 hb8 a0 a1 a2 b2 aa bb) | fail)
      have H8 := Lib.hid (And.intro (H6.out.1.trans (HB8.out.mono H6.out.1.size)) (And.intro (H6.out.2.1.next HB8.out) (And.intro (H6.out.2.2.2.1.next HB8.out) (H6.out.2.2.2.2.1.next (keepsUp_below _ HB8.out)))))
      clear g0 g1 g2 H6 HB7 HB8 HOC
      have hlen : s.evs.length ≤ 2000 := by
        obtain ⟨-, -, -, -, -, -, -, -, q, -⟩ := H8.out.2.2.2
        have := HP.out.2.1; have := HN.out.2.1; simp only at q; omega
      have hev : EvsIn w8 w2.heap.size s.evs (.slice ea s.evs.length ec) := by
        obtain ⟨_, _, _, hx, hev, -⟩ := H8.out.2.2.2
        cases hx
        exact hev
      obtain ⟨_, _, hsl, -, -, her⟩ := hev
      cases hsl
      have HLE := Lib.hid (And.intro hlen her)
      clear hlen her
      clear t1 t2 t3 m1 u1 u2 u3 u4
      go_wp2_with fail
      go_loopw [13, 14] (fun tk x wr => ∃ (i : Nat), x = .int .i64 i ∧ tk = .int .i64 ((insV (s.evs.take i)).length : Int) ∧ i ≤ s.evs.length ∧ Below w8.heap.size w8 wr) (fun _ x _ => s.evs.length - (intOf x).toNat)
      case atStart => exact ⟨0, rfl, by simp [insV], by omega, Below.refl _ _⟩
      case round =>
        obtain ⟨i, rfl, rfl, hi, hbr⟩ := hrel
        have c0 : wr.cell? ⟨A, 3, none⟩ = some (.slice ea s.evs.length ec) := (H8.out.2.1.next hbr).cell 3
        by_cases hlt : i < s.evs.length
        · have hbi : (i : Int) + 1 ≤ 9223372036854775807 := by have := HLE.out.1; omega
          have hxl : ¬ s.evs.length = 0 := by omega
          obtain ⟨g, rfl, -, hcell⟩ := HLE.out.2.resolve_left hxl
          obtain ⟨q0, q1, q2⟩ := cells_at s.evs i hlt
          have hq0 := keeps_below hbr _ _ _ (hcell _ _ q0)
          have hq1 := keeps_below hbr _ _ _ (hcell _ _ q1)
          have hat := ins_at s.evs s.left l HP.out.2.2 i hlt
          have hnot := ins_not s.evs i hlt
          have hle := ins_le s.evs i
          obtain ⟨T, hT⟩ : ∃ n, (insV (s.evs.take i)).length = n := ⟨_, rfl⟩
          obtain ⟨T2, hT2⟩ : ∃ n, (insV (s.evs.take (i + 1))).length = n := ⟨_, rfl⟩
          have hT' := hT
          simp only [hT, hT2] at hat hnot hle ⊢
          have HT2 := Lib.hid hT2
          obtain ⟨b, hb⟩ : ∃ b, s.evs[i].1 = b := ⟨_, rfl⟩
          obtain ⟨n, hn⟩ : ∃ n, s.evs[i].2.1 = n := ⟨_, rfl⟩
          rw [hb] at hq0 hat hnot
          rw [hn] at hq1 hat
          clear hcell q0 q1 q2 hxl hT hT' hT2 hb hn
          cases b with
          | false =>
            have HT := Lib.hid (hnot rfl)
            clear hat hnot hq1 hle
            go_wp2_with fail
            go_roundw
            case rel => exact ⟨i + 1, by go_num, by rw [HT2.out, HT.out], by omega, hbr⟩
            case measure => simp [intOf]; omega
          | true =>
            obtain ⟨hn1, hn2, hn3⟩ := hat rfl
            have HT := Lib.hid hn3
            have hbt : (T : Int) + 1 ≤ 9223372036854775807 := by have := HLE.out.1; omega
            have hsi : IntsAt w8 w8.heap.size l (.slice a2 l.length c2) := HI.out.1.up H8.out.1 H8.out.1.size
            obtain ⟨sb, so, sc, hsv, -, -, hsb, hsn⟩ := hsi.news (by omega)
            have hss := hsn T (.int .i64 n) (by unfold scrV; rw [List.getElem?_map, hn2]; rfl)
            have hss := keeps_below hbr ((⟨sb, so, none⟩ : Addr).add T).block _ _ (by rw [add_none] at hss ⊢; exact hss)
            rw [add_none] at hss
            simp only [Value.slice.injEq] at hsv
            obtain ⟨rfl, -, rfl⟩ := hsv
            have w1 : decide ((l.length : Int) ≤ (T : Int)) = false := by simp; omega
            have HBR := Lib.hid hbr
            have HLT := Lib.hid (And.intro hn1 hle)
            clear hat hnot hn2 hn3 hbr hsi hsn hle hsb
            go_upto_region 20 with fail
            go_cut [138] (fun s wx => s = .bool false ∧ Below w8.heap.size w8 wx)
            case first =>
              go_quiet (fail)
              go_wp2_with fail
              go_meet
              exact ⟨by simp <;> exact HLT.out.1, ⟨HBR.out.os, HBR.out.tape, HBR.out.output, HBR.out.size, HBR.out.block⟩⟩
            case rest =>
              obtain ⟨rfl, hb⟩ := hcut
              clear c0 hq0 hq1 hss HBR
              go_wp2_with fail
              go_roundw
              case rel => exact ⟨i + 1, by go_num, by rw [HT2.out, HT.out]; go_num, by omega, hb⟩
              case measure => simp [intOf]; omega
        · obtain rfl : i = s.evs.length := by omega
          rw [List.take_length]
          have HBR := Lib.hid hbr
          have hsum : (insV s.evs).length + s.left.length = l.length := by rw [← HP.out.2.2, List.length_append]
          by_cases hl0 : s.left = []
          · have e0 : (insV s.evs).length = l.length := by rw [hl0] at hsum; simpa using hsum
            rw [e0]
            have w1 : ((l.length : Int) == (l.length : Int)) = true := by simp
            clear hbr
            go_wp2_with fail
            go_ret
            exact ⟨rfl, H8.out.1.trans (HBR.out.mono H8.out.1.size)⟩
          · have hpos : 0 < s.left.length := List.length_pos_iff.2 hl0
            obtain ⟨T, hT⟩ : ∃ n, (insV s.evs).length = n := ⟨_, rfl⟩
            rw [hT] at hsum ⊢
            have hne : l ≠ [] := by intro h; rw [h] at hsum; simp only [List.length_nil] at hsum; omega
            obtain ⟨p, x, hpx⟩ := ne_last hne
            have w1 : ((T : Int) == (l.length : Int)) = false := by simp; omega
            have hlp : l.length = p.length + 1 := by rw [hpx]; simp
            have hsi : IntsAt wr wr.heap.size l (.slice a2 l.length c2) := HI.out.1.up (H8.out.1.trans (hbr.mono H8.out.1.size)) (H8.out.1.trans (hbr.mono H8.out.1.size)).size
            obtain ⟨sb, so, sc, hsv, -, -, hsb, hsn⟩ := hsi.news (by omega)
            simp only [Value.slice.injEq] at hsv
            obtain ⟨rfl, -, rfl⟩ := hsv
            obtain ⟨i0, hi0, hz0, hz1, hz2⟩ := info_parts info_i64
            have HI0 := Lib.hid (And.intro hi0 (And.intro hz0 (And.intro hz1 hz2)))
            have HSN := Lib.hid hsn
            have HPX := Lib.hid (And.intro hpx (And.intro hlp (And.intro hl0 hsum)))
            have hll : l.length ≤ 2000 := HN.out.2.2.1
            obtain ⟨L, hL⟩ : ∃ n, l.length = n := ⟨_, rfl⟩
            rw [hL] at hlp w1 hll
            simp only [hL]
            have HL := Lib.hid hL
            have hLp : 0 < L := by omega
            have m2 : IntKind.i64.wrap ((L : Int) - 1) = (p.length : Int) := by rw [fits_wrap (by unfold fitsI; omega)]; omega
            clear hbr hsum hpos hT hne hpx hsi hsb hi0 hz0 hz1 hz2 hsn hl0 hL hlp
            have HAP := Lib.hid (And.intro (show (scrV l).length = L * 1 by rw [scrV_len, HL.out, Nat.mul_one]) (And.intro (scrV_one l) (And.intro (show 0 + L ≤ maxLen by unfold maxLen; omega) (show (0 + L) * 8 ≤ 140737488355328 by omega))))
            have HX := Lib.hid (fun (ops : Array Oper) (rest : List Oper) (o : Oper) (a : Act) (Q : Exit → Act → World → Prop) (hgd : o.guard = none) (ho : o.op = .call { callee := .builtin .append, args := #[(.const (.slice none 0 0)), (.tmp 145)], argTypes := #[26, 26] }) (hx : a.eval (.tmp 145) = .slice (some ⟨sb, so, none⟩) L c2) => @wpList_append_lies Try.prog wr ops rest o a Q hgd (.const (.slice none 0 0)) (.tmp 145) 26 ho wr.heap.size 2 i0 _ 1 8 Try.underlying26 HI0.out.1 HI0.out.2.1 HI0.out.2.2.1 HI0.out.2.2.2 rfl (by omega) (.slice none 0 0) 0 [] rfl ⟨rfl, .inl ⟨rfl, rfl⟩⟩ ⟨sb, so, none⟩ L c2 (scrV l) hx HAP.out.1 HSN.out HAP.out.2.1 hLp HAP.out.2.2.1 HAP.out.2.2.2 (Nat.le_refl _) _ rfl)
            go_upto_region 26 with (first | (at_builtin; (refine HX.out _ _ _ _ _ rfl rfl rfl ?_); (intro g cap w9 hown9 hgrow hat hlt9; rw [Nat.zero_add L] at hown9 ⊢)) | fail)
            have hown : w9.ownsRow wr.heap.size 2 1 (.slice (some ⟨g, 0, none⟩) (p ++ [x]).length cap) (p ++ [x]).length (scrV (p ++ [x])) := by
              have e1 : (p ++ [x]).length = L := by rw [← HPX.out.1, HL.out]
              rw [e1, ← HPX.out.1]
              exact hown9
            obtain ⟨hi9, ⟨u9, hu9⟩, hf9, hg1, hg2, ho9⟩ := last_set (m := m) hown
            have hb9 : Below wr.heap.size wr w9 := (Below.refl _ wr).grown hgrow (Nat.le_refl _) (fun k hk => by cases hk)
            obtain ⟨PL, hPL⟩ : ∃ n, p.length = n := ⟨_, rfl⟩
            have hlp : L = PL + 1 := by rw [← hPL, ← HL.out]; exact HPX.out.2.1
            rw [hPL] at hu9 hf9 ho9 hi9 m2
            obtain ⟨W10, hW10⟩ : ∃ W, w9.setCell ⟨g, PL, none⟩ (.int .i64 m) = W := ⟨_, rfl⟩
            rw [hW10] at hi9 ho9
            have hb10 : Below wr.heap.size wr W10 := hb9.trans (ho9.old hg1 hb9.size)
            have hb8 : Below w8.heap.size w8 W10 := HBR.out.trans (hb10.mono HBR.out.size)
            have hbw : Below w.heap.size w W10 := H8.out.1.trans (hb8.mono H8.out.1.size)
            have x10 := (H8.out.2.2.1.next hb8).cell
            have hi10 : IntsAt W10 W10.heap.size (p ++ [m]) (.slice (some ⟨g, 0, none⟩) L cap) := by
              have e1 : (p ++ [x]).length = L := by rw [← HPX.out.1, HL.out]
              have h2 := hi9.le ho9.size
              rw [e1] at h2
              exact h2
            have hfit : ∀ y ∈ p ++ [m], fitsI y := by
              intro y hy
              rcases List.mem_append.1 hy with h | h
              · exact HI.out.2.1 y (by rw [HPX.out.1]; exact List.mem_append_left _ h)
              · rw [List.mem_singleton.1 h]; exact HI.out.2.2.1
            obtain ⟨q, hq⟩ : ∃ q : List Int, runO ds ss (p ++ [m]) k = (3, wg, { s with left := q }) := by
              have h0 := on_last ds ss HW.out p x m k'
              rw [← HPX.out.1, ← HN.out.1, HO.out.1] at h0
              rcases h0 with h | ⟨q, -, h⟩
              · exact absurd h HPX.out.2.2.1
              · exact ⟨_, h⟩
            have hF10 : runF ds ss (p ++ [m]) k = 0 := by
              have e1 : (p ++ [m]).length = PL + 1 := by rw [List.length_append, hPL]; rfl
              rw [on_F (by have := HN.out.1; omega) (by have := HN.out.1; have := HN.out.2.1; omega) (by rw [e1]; omega)]
              exact HN.out.2.2.2.2
            have HR10 := Lib.hid (HRUN2.out (p ++ [m]) _ W10 hbw hi10 hfit)
            have HQ := Lib.hid (And.intro hq hF10)
            have H10 := Lib.hid (And.intro hb8 (And.intro hbw hW10))
            have hpl : (PL : Int) < (L : Int) := by omega
            clear hlp hown hown9 hgrow hat hlt9 hi9 hg1 hg2 ho9 hb9 hPL hW10 hb10 hb8 hbw hi10 hfit hq hF10
            go_upto_region 27 with fail
            rw [H10.out.2.2]
            go_upto_region 28 with (first | (go_at_call 5; (with_reducible refine HR10.out.mono ?_); rintro e w11 ⟨u, rfl, hb11, hout, -⟩; rw [HQ.out.2]; have hO := hout HQ.out.2; rw [HQ.out.1] at hO; have HO11 := Lib.hid hO; obtain ⟨ve, vv, va, rfl, hev, hiv, hrv, -⟩ := hO; obtain ⟨ha, hc, rfl⟩ := (show EvsIn w11 _ s.evs ve from hev).form; obtain ⟨kb, kc, rfl⟩ := (show IntsIn w11 _ s.vars vv from hiv).form; obtain ⟨ta, tc, rfl⟩ := (show RowsIn w11 _ s.arrs va from hrv).form; clear hev hiv hrv; have HB11 := Lib.hid hb11; clear hb11 hout x10 hu9 hf9) | fail)
            obtain ⟨W12, hW12⟩ : ∃ W, w11.alloc (.cells (oc 3 wg s.steps (.slice ha s.evs.length hc) (.slice (some ⟨kb, 0, none⟩) s.vars.length kc) (.slice ta s.arrs.length tc)) 31) = W := ⟨_, rfl⟩
            obtain ⟨C, hC⟩ : ∃ C, w11.heap.size = C := ⟨_, rfl⟩
            have hb1112 : Below w11.heap.size w11 W12 := by rw [← hW12]; exact (Below.refl _ w11).alloc (Nat.le_refl _) _
            have hcc : Blk W12 C (oc 3 wg s.steps (.slice ha s.evs.length hc) (.slice (some ⟨kb, 0, none⟩) s.vars.length kc) (.slice ta s.arrs.length tc)) 31 := by rw [← hW12, ← hC]; exact Blk.new w11 _ _
            have hb1012 : Below W10.heap.size W10 W12 := HB11.out.trans (hb1112.mono HB11.out.size)
            have hb812 := H10.out.1.trans (hb1012.mono H10.out.1.size)
            have aa := (H8.out.2.1.next hb812).cell
            have cc := hcc.cell
            have hoc := outcome_any (3, wg, s) _ _ _ _ W12 (H8.out.2.2.2.next (keepsUp_below _ hb812)) (HO11.out.next (keepsUp_below _ hb1112))
            skip
            have HOC := Lib.hid hoc
            have H12 := Lib.hid (H10.out.2.1.trans (hb1012.mono H10.out.2.1.size))
            rw [hW12, hC]
            clear hoc hW12 hC hb1112 hcc hb1012 hb812
            go_wp2_with (first | (go_at_call 7; (with_reducible refine HOC.out.mono ?_); rintro e w13 ⟨rfl, hb13⟩; have HB13 := Lib.hid hb13; clear hb13) | fail)
            go_ret
            exact ⟨rfl, H12.out.trans (HB13.out.mono H12.out.size)⟩
  · have t4 : (Z != 0) = true := by simpa using hz
    have t5 : (Z == Z) = true := by simp
    have HZ := Lib.hid hz
    clear hz
    go_enter Try.func3, Try.ntmps3
    go_upto_region 1 with fail
    rw [HE.out.1, HE.out.2]
    go_upto_region 5 with (first | (go_at_call 4; (with_reducible refine HKN.out.mono ?_); rintro e w2 ⟨rfl, hb2⟩; have HB2 := Lib.hid hb2; have x2 := (H1.out.1.next hb2).cell; have HR2 := Lib.hid (HRUN.out k w2 (H1.out.2.trans (hb2.mono H1.out.2.size))); clear hb2) | fail)
    go_upto_region 6 with (first | (go_at_call 5; (with_reducible refine HR2.out.mono ?_); rintro e w3 ⟨u, rfl, hb3, -, hu⟩; rw [HF.out.1]; have hu2 := hu (by rw [HF.out.1]; exact HZ.out); unfold zeroO at hu2; subst hu2; have HB3 := Lib.hid hb3; clear hb3 hu x2) | fail)
    have hx3 := (H1.out.1.next HB2.out).next HB3.out
    have hb3 : Below w.heap.size w w3 := (H1.out.2.trans (HB2.out.mono H1.out.2.size)).trans (HB3.out.mono (Nat.le_trans H1.out.2.size HB2.out.size))
    obtain ⟨W4, hW4⟩ : ∃ W, w3.alloc (.cells (oc 0 0 0 (.slice none 0 0) (.slice none 0 0) (.slice none 0 0)) 31) = W := ⟨_, rfl⟩
    have hb34 : Below w3.heap.size w3 W4 := by rw [← hW4]; exact (Below.refl _ w3).alloc (Nat.le_refl _) _
    have x4 := (hx3.next hb34).cell
    have hb4 := hb3.trans (hb34.mono hb3.size)
    have HR4 := Lib.hid (HRUN.out k1 W4 hb4)
    have H4 := Lib.hid hb4
    rw [hW4]
    clear hx3 hb3 hW4 hb34 hb4
    go_upto_region 7 with (first | (go_at_call 5; (with_reducible refine HR4.out.mono ?_); rintro e w5 ⟨u, rfl, hb5, -, hu⟩; rw [HF.out.2]; have hu2 := hu (by rw [HF.out.2]; exact HZ.out); unfold zeroO at hu2; subst hu2; have HB5 := Lib.hid hb5; clear hb5 hu x4) | fail)
    go_wp2_with fail
    go_ret
    exact ⟨rfl, (H4.out.trans (HB5.out.mono H4.out.size)).alloc (H4.out.trans (HB5.out.mono H4.out.size)).size _⟩
end Go.Proofs.Ytbhbmoppipohjaa
