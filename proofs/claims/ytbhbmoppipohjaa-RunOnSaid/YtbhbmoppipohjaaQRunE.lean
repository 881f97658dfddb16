/-
  The machine's value of an expression: proved is that it is the plain run's, in whatever world, for every tree that runs; and stepless.
-/
import Derived.Test.YtbhbmoppipohjaaQRunV

namespace Go.Proofs.Ytbhbmoppipohjaa
open Go Go.RowKit Go.Maps

theorem con_fits {K : Me} {w0 : World} {x : Nd} {us : List Value} (hty : x.ty = .E) (hok : okN K x) (hin : NdIn w0 x us) {v : Int} (h : conN x = some v) : fitsI v := by
  obtain ⟨ty, k, n, nm, xs, cs, ts, es⟩ := x
  simp only [Nd.ty] at hty
  subst hty
  unfold okN at hok
  obtain ⟨⟨hk1, hk2, -, hk4, -⟩, hxs, -⟩ := hok
  unfold NdIn at hin
  obtain ⟨-, -, hn, -, vx, vc, vt, ve, -, hsl, -⟩ := hin
  unfold conN at h
  cases xs with
  | nil =>
    change (if k = 1 then some n else none) = some v at h
    split at h
    · cases h; exact fits_wf hn
    · cases h
  | cons y l =>
    change (if k = 1 then some n else if k = 5 ∧ kindN y = 1 then some (-(numN y)) else none) = some v at h
    split at h
    · cases h; exact fits_wf hn
    · split at h
      · rename_i hq
        cases h
        obtain ⟨_, _, _, _, _, hrow⟩ := hsl
        obtain ⟨b, o, -, hrw⟩ := hrow.resolve_left (by simp)
        have h0 := okL_at hxs 0 (by simp)
        simp only [List.getElem_cons_zero] at h0
        unfold RowIn at hrw
        obtain ⟨⟨hty0, us0, -, hin0⟩, -⟩ := hrw
        obtain ⟨ty0, k0, n0, nm0, xs0, cs0, ts0, es0⟩ := y
        simp only [Nd.ty] at hty0
        subst hty0
        have h01 := h0.2
        unfold okN at h01
        obtain ⟨⟨-, -, hkn0, -⟩, -⟩ := h01
        unfold NdIn at hin0
        obtain ⟨-, -, hn64, -⟩ := hin0
        have h0n := hkn0 hq.2
        have := fits_wf hn64
        simp only [numN]
        unfold fitsI at this ⊢
        omega
      · cases h
theorem val_item (E : Rv) (nm : ByteArray) (fs : List (Rn → Res Int)) (s : Rn) : valK E 4 nm none fs s = (fnR fs 0 s).bind fun i s => (itemR E nm i s).bind fun j s => .go ((s.arrs.getD (E.pl nm) []).getD j 0) s := rfl
theorem vars_at {K : Me} {w : World} {s : Rn} {sv ve : Value} (h : Mc K w s sv ve) (i : Nat) (hi : i < K.nv) : w.cell? ⟨K.vb, i, none⟩ = some (.int .i64 (s.vars.getD i 0)) ∧ w.frozen? ⟨K.vb, i, none⟩ = false ∧ fitsI (s.vars.getD i 0) := by
  have hl : i < s.vars.length := by rw [h.nv]; exact hi
  refine ⟨by rw [h.vars.cell]; exact intsV_at _ _ hl, h.vars.free i, ?_⟩
  rw [List.getD_eq_getElem?_getD, List.getElem?_eq_getElem hl]
  exact h.fv _ (List.getElem_mem hl)
theorem arrs_at {K : Me} {w : World} {s : Rn} {sv ve : Value} (h : Mc K w s sv ve) (nm : ByteArray) (hp : K.E.pl nm < K.ab.length) (j : Nat) (hj : j < (arrB K nm).2) : w.cell? ⟨(arrB K nm).1, j, none⟩ = some (.int .i64 ((s.arrs.getD (K.E.pl nm) []).getD j 0)) ∧ w.frozen? ⟨(arrB K nm).1, j, none⟩ = false ∧ fitsI ((s.arrs.getD (K.E.pl nm) []).getD j 0) := by
  have hab : arrB K nm = K.ab[K.E.pl nm] := by unfold arrB; rw [List.getD_eq_getElem?_getD, List.getElem?_eq_getElem hp]; rfl
  rw [hab] at hj ⊢
  have hz := h.sz _ hp
  have hl : j < (s.arrs.getD (K.E.pl nm) []).length := by rw [hz]; exact hj
  have hX := h.arrs _ hp
  refine ⟨by rw [hX.cell]; exact intsV_at _ _ hl, hX.free j, ?_⟩
  have hna := h.na
  rw [List.getD_eq_getElem?_getD, List.getElem?_eq_getElem hl]
  refine h.fa _ ?_ _ (List.getElem_mem hl)
  rw [List.getD_eq_getElem?_getD, List.getElem?_eq_getElem (by omega)]
  exact List.getElem_mem _

set_option maxRecDepth 100000 in
set_option maxHeartbeats 8000000 in
theorem value_any (K : Me) (hk : K.ok) (w0 : World) (hH : w0.heap.size ≤ K.H0) : ∀ (N : Nat) (x : Nd), SizeOf.sizeOf x ≤ N → x.ty = .E → okN K x → RVal K w0 x := by
  intro N
  induction N with
  | zero =>
    intro x hN
    obtain ⟨ty, k, n, nm, xs, cs, ts, es⟩ := x
    simp only [Nd.mk.sizeOf_spec] at hN
    omega
  | succ N ih =>
    intro x hN hty hok us s r w hin hw h
    have hcf := fun v => con_fits (v := v) hty hok hin
    have hcon := constant_any K w0 x us hty hok hin
    have hopr := fun h5 hc hch => operation_any K hk w0 hH x us hty hok h5 hc hch
    obtain ⟨ty, k, n, nm, xs, cs, ts, es⟩ := x
    simp only [Nd.mk.sizeOf_spec] at hN
    simp only [Nd.ty] at hty
    subst hty
    have hin0 := hin
    have hok0 := hok
    unfold okN at hok
    obtain ⟨⟨hk1, hk10, -, hl1, hl2, hp2, hp4⟩, hgx, -⟩ := hok
    have hch : ∀ i (hi : i < xs.length), RVal K w0 xs[i] := fun i hi => ih xs[i] (by have := List.sizeOf_lt_of_mem (List.getElem_mem (l := xs) (n := i) hi); omega) (okL_at hgx i hi).1 (okL_at hgx i hi).2
    clear ih hN
    unfold NdIn at hin
    obtain ⟨hz, -, hn64, hnm, vx, vc, vt, ve, rfl, hxs, -⟩ := hin
    simp only [fits] at hz
    obtain ⟨rfl, rfl, rfl⟩ := hz
    obtain ⟨a, c, rfl, hlc, hcm, hrow⟩ := hxs
    unfold lay at hin0
    change ∀ w, _ → Calls _ _ #[.agg #[.int .i64 k, .int .i64 n, .string nm, .slice a xs.length c]] w _ at hcon
    change ∀ h5 hc hch s r w, _ → _ → _ → Calls _ _ #[_, .agg #[.int .i64 k, .int .i64 n, .string nm, .slice a xs.length c]] w _ at hopr
    change Calls _ _ #[_, .agg #[.int .i64 k, .int .i64 n, .string nm, .slice a xs.length c]] w _
    obtain ⟨CN, hCN⟩ : ∃ c, conN (.mk .E k n nm xs [] [] []) = c := ⟨_, rfl⟩
    rw [hCN] at hcf
    simp only [hCN] at hcon
    have hval : valN K.E (.mk .E k n nm xs [] [] []) s = valK K.E k nm CN (valL K.E xs) s := by unfold valN; rw [← hCN]; rfl
    have hhop : ∀ (h5 : 5 ≤ k) (hc : CN = none), ∀ w1, At K w1 s r → Below w0.heap.size w0 w1 → Calls Try.prog 59 #[.pointer (some ⟨K.M, 0, none⟩), .agg #[.int .i64 k, .int .i64 n, .string nm, .slice a xs.length c]] w1 (Ran K intV fitsI r w1 (valN K.E (.mk .E k n nm xs [] [] []) s)) := fun h5 hc w1 h1 hw1 =>
      hopr h5 (hCN.trans hc) (fun xs' ⟨_, _, _, _, _, _, _, e⟩ i hi => by cases e; exact hch i hi) s r w1 hin0 hw1 h1
    rw [hval]
    rw [hval] at hhop
    obtain ⟨R, hR⟩ : ∃ R, valK K.E k nm CN (valL K.E xs) s = R := ⟨_, rfl⟩
    rw [hR]
    rw [hR] at hhop
    have hne1 : CN = none → k ≠ 1 := by
      intro e h1
      subst h1
      rw [← hCN] at e
      cases xs <;> simp [conN, conK] at e
    have HNE := Lib.hid hne1
    clear hopr hCN hval hok0 hne1
    have ht := Tm.new h #[.int .i64 k, .int .i64 n, .string nm, .slice a xs.length c] 42
    have h1 := h.alloc hk (.cells #[.int .i64 k, .int .i64 n, .string nm, .slice a xs.length c] 42)
    obtain ⟨W1, hW1⟩ : ∃ W1, w.alloc (.cells #[.int .i64 k, .int .i64 n, .string nm, .slice a xs.length c] 42) = W1 := ⟨_, rfl⟩
    obtain ⟨X, hX⟩ : ∃ X, w.heap.size = X := ⟨_, rfl⟩
    have hkr : Kr K r r w W1 := by rw [← hW1]; exact (Kr.refl K r w).alloc _
    rw [hW1] at ht h1
    rw [hX] at ht
    have hw1 : Below w0.heap.size w0 W1 := hw.trans ((hkr.old hk h).mono hH)
    have x0 : W1.cell? ⟨X, 0, none⟩ = some (.int .i64 k) := ht.blk.cell 0
    have x1 : W1.cell? ⟨X, 1, none⟩ = some (.int .i64 n) := ht.blk.cell 1
    have x2 : W1.cell? ⟨X, 2, none⟩ = some (.string nm) := ht.blk.cell 2
    have x3 : W1.cell? ⟨X, 3, none⟩ = some (.slice a xs.length c) := ht.blk.cell 3
    have HCON := Lib.hid (hcon W1 hw1); clear hcon
    have HHOP := Lib.hid hhop; clear hhop
    have HT := Lib.hid (And.intro ht (And.intro h1 (And.intro hkr (And.intro hw1 hR)))); clear ht h1 hkr hw1 hR
    have HW1 := Lib.hid hW1; clear hW1
    have HX := Lib.hid hX; clear hX
    have HL := Lib.hid (And.intro hl1 (And.intro hl2 (And.intro hp2 (And.intro hp4 (And.intro hnm (And.intro hk1 hk10)))))); clear hl1 hl2 hp2 hp4 hnm hk1 hk10
    have HROW := Lib.hid hrow; clear hrow
    have HCH := Lib.hid hch; clear hch
    clear hn64 hgx hin0 hw h
    cases CN with
    | some v =>
      have HF := Lib.hid (hcf v rfl)
      clear hcf
      unfold conV at HCON
      go_enter Try.func41, Try.ntmps41
      go_upto_region 1 with fail
      rw [HW1.out, HX.out]
      go_wp2_with (first | (go_at_call 57; (with_reducible refine HCON.out.mono ?_); rintro e w2 ⟨rfl, hb2⟩; have HB2 := Lib.hid hb2; clear hb2) | fail)
      go_ret
      obtain ⟨ht, h1, hkr, hw1, hR⟩ := HT.out
      exact Ran.go (val := intV) hR.symm (hkr.trans (Kr.below HB2.out)) HF.out (h1.next hk HB2.out)
    | none =>
      clear hcf
      unfold conV at HCON
      by_cases k2 : k = 2
      · subst k2
        have hp := HL.out.2.2.1 rfl
        go_enter Try.func41, Try.ntmps41
        go_upto_region 1 with fail
        rw [HW1.out, HX.out]
        clear HW1
        go_upto_region 4 with (first | (go_at_call 57; (with_reducible refine HCON.out.mono ?_); rintro e w2 ⟨rfl, hb2⟩; have HB2 := Lib.hid hb2; have q0 : w2.cell? ⟨X, 0, none⟩ = some (.int .i64 2) := (HT.out.1.next hb2).blk.cell 0; have q1 : w2.cell? ⟨X, 1, none⟩ = some (.int .i64 n) := (HT.out.1.next hb2).blk.cell 1; have q2 : w2.cell? ⟨X, 2, none⟩ = some (.string nm) := (HT.out.1.next hb2).blk.cell 2; have q3 : w2.cell? ⟨X, 3, none⟩ = some (.slice a xs.length c) := (HT.out.1.next hb2).blk.cell 3; have HA2 := Lib.hid (HT.out.2.1.next hk hb2); clear hb2) | fail)
        obtain ⟨sv, ve, hm, he⟩ := HA2.out
        obtain ⟨v1, v2, hfv⟩ := vars_at hm _ hp
        have HV := Lib.hid (variable_any K hk s r nm HL.out.2.2.2.2.1 hp w2 HA2.out)
        have hR := HT.out.2.2.2.2
        unfold valK at hR
        simp only [if_true] at hR
        obtain ⟨I, hI⟩ : ∃ I : Nat, K.E.pl nm = I := ⟨_, rfl⟩
        rw [hI] at v1 v2 hfv HV hR
        have HR := Lib.hid (And.intro hR hfv)
        clear hm he hp hI hR hfv hlc hcm
        go_wp2_with (first | (go_at_call 56; (with_reducible refine HV.out.mono ?_); rintro e w3 ⟨rfl, rfl⟩) | fail)
        go_ret
        obtain ⟨ht, h1, hkr, hw1, -⟩ := HT.out
        exact Ran.go (val := intV) HR.out.1.symm (hkr.trans (Kr.below HB2.out)).drew HR.out.2 (HA2.out.drew hk)
      have t2 : (k == 2) = false := by simpa using k2
      by_cases k3 : k = 3
      · subst k3
        have hR := HT.out.2.2.2.2
        unfold valK at hR
        simp only [if_true] at hR
        rw [if_neg (by decide)] at hR
        have HR := Lib.hid hR
        clear hR
        go_enter Try.func41, Try.ntmps41
        go_upto_region 1 with fail
        rw [HW1.out, HX.out]
        clear HW1
        go_upto_region 4 with (first | (go_at_call 57; (with_reducible refine HCON.out.mono ?_); rintro e w2 ⟨rfl, hb2⟩; have HB2 := Lib.hid hb2; have q0 : w2.cell? ⟨X, 0, none⟩ = some (.int .i64 3) := (HT.out.1.next hb2).blk.cell 0; have q1 : w2.cell? ⟨X, 1, none⟩ = some (.int .i64 n) := (HT.out.1.next hb2).blk.cell 1; have q2 : w2.cell? ⟨X, 2, none⟩ = some (.string nm) := (HT.out.1.next hb2).blk.cell 2; have q3 : w2.cell? ⟨X, 3, none⟩ = some (.slice a xs.length c) := (HT.out.1.next hb2).blk.cell 3; have HA2 := Lib.hid (HT.out.2.1.next hk hb2); clear hb2) | fail)
        have HV := Lib.hid (input_any K hk s r w2 HA2.out)
        go_wp2_with fail
        refine HV.out.mono ?_
        rintro e w3 ⟨r3, hk3, ⟨v, s3, hr3, rfl, hf3, h3⟩ | ⟨st, wr3, s3, hr3, rfl, h3⟩⟩
        · have H3 := Lib.hid (And.intro hk3 (And.intro hr3 (And.intro hf3 h3)))
          clear hk3 hr3 hf3 h3
          go_wp2_with fail
          go_ret
          exact Ran.go (val := intV) (HR.out.symm.trans H3.out.2.1) ((HT.out.2.2.1.trans (Kr.below HB2.out)).trans H3.out.1) H3.out.2.2.1 H3.out.2.2.2
        · exact ⟨rfl, Ran.stop (HR.out.symm.trans hr3) ((HT.out.2.2.1.trans (Kr.below HB2.out)).trans hk3) h3⟩
      have t3 : (k == 3) = false := by simpa using k3
      by_cases k4 : k = 4
      · subst k4
        have hp := HL.out.2.2.2.1 rfl
        have hl := HL.out.1 (.inl rfl)
        have hl0 : 0 < xs.length := by omega
        have hl1 : (0 : Int) < xs.length := by omega
        have hr2 := HROW.out.resolve_left (by omega)
        clear HROW hl
        obtain ⟨b0, o, rfl, hrow⟩ := hr2
        obtain ⟨hty, u0, u1, u2, u3, m0, m1, m2, m3, hnd⟩ := SlIn.item4 rfl hrow 0 hl0
        obtain ⟨fk, fn, fs', fa, fl, fc, rfl, rfl, rfl, rfl⟩ := NdIn.formE hty hnd
        have hR := HT.out.2.2.2.2
        rw [val_item, valL_at K.E xs 0 hl0] at hR
        have HR := Lib.hid hR
        have HM := Lib.hid (And.intro m0 (And.intro m1 (And.intro m2 (And.intro m3 (And.intro hnd (And.intro hp HL.out.2.2.2.2.1))))))
        have HC := Lib.hid (HCH.out 0 hl0)
        clear hR m0 m1 m2 m3 hnd hrow hty HCH hp
        obtain ⟨E0, hE0⟩ : ∃ y, xs[0] = y := ⟨_, rfl⟩
        rw [hE0] at HR HC HM
        go_enter Try.func41, Try.ntmps41
        go_upto_region 1 with fail
        rw [HW1.out, HX.out]
        clear HW1
        go_upto_region 10 with (first | (go_at_call 57; (with_reducible refine HCON.out.mono ?_); rintro e w2 ⟨rfl, hb2⟩; have HB2 := Lib.hid hb2; have q0 : w2.cell? ⟨X, 0, none⟩ = some (.int .i64 4) := (HT.out.1.next hb2).blk.cell 0; have q1 : w2.cell? ⟨X, 1, none⟩ = some (.int .i64 n) := (HT.out.1.next hb2).blk.cell 1; have q2 : w2.cell? ⟨X, 2, none⟩ = some (.string nm) := (HT.out.1.next hb2).blk.cell 2; have q3 : w2.cell? ⟨X, 3, none⟩ = some (.slice (some ⟨b0, o, none⟩) xs.length c) := (HT.out.1.next hb2).blk.cell 3; have HA2 := Lib.hid (HT.out.2.1.next hk hb2); clear hb2) | fail)
        have hold : Below w0.heap.size w0 w2 := HT.out.2.2.2.1.trans (HB2.out.mono HT.out.2.2.2.1.size)
        have kk := keeps_below hold
        have k0 := kk _ _ _ HM.out.1
        have k1 := kk _ _ _ HM.out.2.1
        have k2' := kk _ _ _ HM.out.2.2.1
        have k3' := kk _ _ _ HM.out.2.2.2.1
        simp only [Nat.zero_mul, Nat.add_zero] at k0 k1 k2' k3'
        have HV := Lib.hid (HC.out _ s r w2.drew HM.out.2.2.2.2.1 hold.drew (HA2.out.drew hk))
        have HT2 := Lib.hid ((HT.out.1.next HB2.out).next (Below.refl _ w2).drew)
        clear kk hold hlc hcm
        go_region_with (first
          | (go_at_call 41; (with_reducible refine HV.out.mono ?_); rintro e w3 ⟨r3, hk3, ⟨v, s3, hr3, rfl, hf3, h3⟩ | ⟨st, wr3, s3, hr3, rfl, h3⟩⟩; rotate_left; (exact ⟨rfl, Ran.stop (by rw [← HR.out, hr3]; rfl) ((HT.out.2.2.1.trans (Kr.below HB2.out)).drew.trans hk3) h3⟩); (have p2 : w3.cell? ⟨X, 2, none⟩ = some (.string nm) := (HT2.out.kr hk hk3).blk.cell 2); (have H3 := Lib.hid (And.intro hk3 (And.intro hr3 (And.intro hf3 h3)))); clear hk3 hr3 hf3 h3)
          | (go_at_call 42; (with_reducible refine (item_any K hk s3 r3 nm HM.out.2.2.2.2.2.2 HM.out.2.2.2.2.2.1 v w3 H3.out.2.2.2).mono ?_); rintro e w4 ⟨r4, hk4, ⟨j, s4, hr4, rfl, hf4, h4⟩ | ⟨st, wr4, s4, hr4, rfl, h4⟩⟩; rotate_left; (exact ⟨rfl, Ran.stop (by rw [← HR.out, H3.out.2.1]; show (itemR K.E nm v s3).bind _ = _; rw [hr4]; rfl) (((HT.out.2.2.1.trans (Kr.below HB2.out)).drew.trans H3.out.1).trans hk4) h4⟩); (have v4 : w4.cell? ⟨(arrB K nm).1, j, none⟩ = some (.int .i64 ((s4.arrs.getD (K.E.pl nm) []).getD j 0)) := by (obtain ⟨sv, ve, hm, -⟩ := h4; exact (arrs_at hm nm HM.out.2.2.2.2.2.1 j hf4).1)); (have H4 := Lib.hid (And.intro hk4 (And.intro hr4 (And.intro hf4 h4)))); clear hk4 hr4 hf4 h4))
        all_goals
          go_wp2_with fail
          go_ret
          refine Ran.go (val := intV) (by rw [← HR.out, H3.out.2.1]; show (itemR K.E nm v s3).bind _ = _; rw [H4.out.2.1]; rfl) (((HT.out.2.2.1.trans (Kr.below HB2.out)).drew.trans H3.out.1).trans H4.out.1) ?_ H4.out.2.2.2
          obtain ⟨sv, ve, hm, -⟩ := H4.out.2.2.2
          exact (arrs_at hm nm HM.out.2.2.2.2.2.1 j H4.out.2.2.1).2.2
      have t4 : (k == 4) = false := by simpa using k4
      have h5 : 5 ≤ k := by have := HL.out.2.2.2.2.2.1; have := HNE.out (by first | rfl | trivial); omega
      go_enter Try.func41, Try.ntmps41
      go_upto_region 1 with fail
      rw [HW1.out, HX.out]
      clear HW1
      go_upto_region 11 with (first | (go_at_call 57; (with_reducible refine HCON.out.mono ?_); rintro e w2 ⟨rfl, hb2⟩; have HB2 := Lib.hid hb2; have q0 : w2.cell? ⟨X, 0, none⟩ = some (.int .i64 k) := (HT.out.1.next hb2).blk.cell 0; have q1 : w2.cell? ⟨X, 1, none⟩ = some (.int .i64 n) := (HT.out.1.next hb2).blk.cell 1; have q2 : w2.cell? ⟨X, 2, none⟩ = some (.string nm) := (HT.out.1.next hb2).blk.cell 2; have q3 : w2.cell? ⟨X, 3, none⟩ = some (.slice a xs.length c) := (HT.out.1.next hb2).blk.cell 3; have HA2 := Lib.hid (HT.out.2.1.next hk hb2); clear hb2) | fail)
      have HV := Lib.hid (HHOP.out h5 (by first | rfl | trivial) w2 HA2.out (HT.out.2.2.2.1.trans (HB2.out.mono HT.out.2.2.2.1.size)))
      go_wp2_with fail
      refine HV.out.mono ?_
      rintro e w3 ⟨r3, hk3, ⟨v, s3, hr3, rfl, hf3, h3⟩ | ⟨st, wr3, s3, hr3, rfl, h3⟩⟩
      · have H3 := Lib.hid (And.intro hk3 (And.intro hr3 (And.intro hf3 h3)))
        clear hk3 hr3 hf3 h3
        go_wp2_with fail
        go_ret
        exact Ran.go (val := intV) H3.out.2.1 ((HT.out.2.2.1.trans (Kr.below HB2.out)).trans H3.out.1) H3.out.2.2.1 H3.out.2.2.2
      · exact ⟨rfl, Ran.stop hr3 ((HT.out.2.2.1.trans (Kr.below HB2.out)).trans hk3) h3⟩
end Go.Proofs.Ytbhbmoppipohjaa
