/-
  The machine's stmt: proved is that each statement runs as the plain run does, loops among them.
-/
import Derived.Test.YtbhbmoppipohjaaQRunS

namespace Go.Proofs.Ytbhbmoppipohjaa
open Go Go.RowKit Go.Maps

mutual
theorem cnd_of {K : Me} : ∀ (x : Nd), x.ty = .C → okN K x → cndN x
  | .mk ty k n nm xs cs ts es, hty, h => by
    simp only [Nd.ty] at hty
    subst hty
    unfold okN at h
    obtain ⟨⟨hk1, hk6, -, hl4, hl5⟩, -, hc, -⟩ := h
    unfold cndN partsR
    exact ⟨hk6, ⟨hl4, hl5⟩, cndL_of cs hc⟩
theorem cndL_of {K : Me} : ∀ (l : List Nd), okL K .C l → cndL l
  | [], _ => by unfold cndL; trivial
  | x :: r, h => by
    unfold okL at h
    unfold cndL
    exact ⟨cnd_of x h.1 h.2.1, cndL_of r h.2.2⟩
end
theorem st_asg (E : Rv) (nm : ByteArray) (q : Bool) (fs : List (Rn → Res Int)) (hs : List (Rn → Res Bool)) (t e : Rn → Res Unit) (s : Rn) : stK E 1 nm q fs hs t e s = (fnR fs 0 s).bind fun v s => (if q then stepR E s else .go () s).bind fun _ s => .go () (putV E nm v s) := rfl
theorem st_sto (E : Rv) (nm : ByteArray) (q : Bool) (fs : List (Rn → Res Int)) (hs : List (Rn → Res Bool)) (t e : Rn → Res Unit) (s : Rn) : stK E 2 nm q fs hs t e s = (fnR fs 0 s).bind fun i s => (fnR fs 1 s).bind fun v s => (itemR E nm i s).bind fun j s => .go () (putA E nm j v s) := rfl
theorem st_if (E : Rv) (nm : ByteArray) (q : Bool) (fs : List (Rn → Res Int)) (hs : List (Rn → Res Bool)) (t e : Rn → Res Unit) (s : Rn) : stK E 3 nm q fs hs t e s = (hnR hs 0 s).bind fun b s => if b then t s else e s := rfl
theorem st_while (E : Rv) (nm : ByteArray) (q : Bool) (fs : List (Rn → Res Int)) (hs : List (Rn → Res Bool)) (t e : Rn → Res Unit) (s : Rn) : stK E 4 nm q fs hs t e s = loopR (hnR hs 0) t (E.most + 1 - s.steps) s := rfl
theorem st_assert (E : Rv) (nm : ByteArray) (q : Bool) (fs : List (Rn → Res Int)) (hs : List (Rn → Res Bool)) (t e : Rn → Res Unit) (s : Rn) : stK E 5 nm q fs hs t e s = (hnR hs 0 s).bind fun b s => (stepR E s).bind fun _ s => if b then .go () (noteR false 0 true s) else .stop 3 4 (noteR false 0 false s) := rfl
theorem st_assume (E : Rv) (nm : ByteArray) (q : Bool) (fs : List (Rn → Res Int)) (hs : List (Rn → Res Bool)) (t e : Rn → Res Unit) (s : Rn) : stK E 6 nm q fs hs t e s = (hnR hs 0 s).bind fun b s => if b then .go () s else .stop 2 0 s := rfl
theorem st_skip (E : Rv) (nm : ByteArray) (q : Bool) (fs : List (Rn → Res Int)) (hs : List (Rn → Res Bool)) (t e : Rn → Res Unit) (s : Rn) : stK E 7 nm q fs hs t e s = stepR E s := rfl
theorem loopR_succ (h : Rn → Res Bool) (b : Rn → Res Unit) (n : Nat) (s : Rn) : loopR h b (n + 1) s = (h s).bind fun c s => if c then (b s).bind fun _ s => loopR h b n s else .go () s := rfl
/-- How many steps the machine has counted. -/
def stepsOf (K : Me) (w : World) : Nat := (intOf ((w.cell? ⟨K.M, 5, none⟩).getD undef)).toNat
theorem stepsOf_at {K : Me} {w : World} {s : Rn} {r : Option Nat} (h : At K w s r) : stepsOf K w = s.steps := by
  obtain ⟨sv, ve, hm, -⟩ := h
  have c5 : w.cell? ⟨K.M, 5, none⟩ = some (.int .i64 s.steps) := hm.mach.cell 5
  unfold stepsOf
  rw [c5]
  simp [intOf]
theorem At.most {K : Me} {w : World} {s : Rn} {r : Option Nat} (h : At K w s r) : s.steps ≤ K.E.most := by
  obtain ⟨sv, ve, hm, -⟩ := h
  exact hm.steps

set_option maxRecDepth 100000 in
set_option maxHeartbeats 16000000 in
theorem stmt_any (K : Me) (hk : K.ok) (w0 : World) (hH : w0.heap.size ≤ K.H0) : ∀ (N : Nat) (x : Nd), SizeOf.sizeOf x ≤ N → x.ty = .S → okN K x → RSt K w0 x := by
  intro N
  induction N with
  | zero =>
    intro x hN
    obtain ⟨ty, k, n, nm, xs, cs, ts, es⟩ := x
    simp only [Nd.mk.sizeOf_spec] at hN
    omega
  | succ N ih =>
    intro x hN hty hok us s r w hin hw h
    obtain ⟨ty, k, n, nm, xs, cs, ts, es⟩ := x
    simp only [Nd.mk.sizeOf_spec] at hN
    simp only [Nd.ty] at hty
    subst hty
    unfold okN at hok
    obtain ⟨⟨hk1, hk7, hl1, hl2, hl3, hp1, hp2⟩, hgx, hgc, hgt, hge⟩ := hok
    have hbt : RBlk K w0 ts := block_any K hk w0 hH ts fun i hi => ih ts[i] (by have := List.sizeOf_lt_of_mem (List.getElem_mem (l := ts) (n := i) hi); omega) (okL_at hgt i hi).1 (okL_at hgt i hi).2
    have hbe : RBlk K w0 es := block_any K hk w0 hH es fun i hi => ih es[i] (by have := List.sizeOf_lt_of_mem (List.getElem_mem (l := es) (n := i) hi); omega) (okL_at hge i hi).1 (okL_at hge i hi).2
    have hhl := hldL_at K.E cs
    have hvl := valL_at K.E xs
    obtain ⟨R, hR⟩ : ∃ R, stN K.E (.mk .S k n nm xs cs ts es) s = R := ⟨_, rfl⟩
    rw [hR]
    unfold stN at hR
    unfold NdIn at hin
    obtain ⟨hz, -, -, hnm, vx, vc, vt, ve, rfl, hxs, hcs, hts, hes⟩ := hin
    clear ih hN hgt hge hz
    have HTS := Lib.hid (show SlIn w0 .S ts vt from hts)
    have HES := Lib.hid (show SlIn w0 .S es ve from hes)
    obtain ⟨a, c, rfl, hlc, hcm, hrow⟩ := hxs
    obtain ⟨a2, c2, rfl, hlc2, hcm2, hrow2⟩ := hcs
    obtain ⟨a3, c3, rfl, -, -, -⟩ := hts
    obtain ⟨a4, c4, rfl, -, -, -⟩ := hes
    change Calls _ _ #[_, .agg #[.int .i64 k, .string nm, .slice a xs.length c, .slice a2 cs.length c2, .slice a3 ts.length c3, .slice a4 es.length c4]] w _
    have ht := Tm.new h #[.int .i64 k, .string nm, .slice a xs.length c, .slice a2 cs.length c2, .slice a3 ts.length c3, .slice a4 es.length c4] 47
    have h1 := h.alloc hk (.cells #[.int .i64 k, .string nm, .slice a xs.length c, .slice a2 cs.length c2, .slice a3 ts.length c3, .slice a4 es.length c4] 47)
    obtain ⟨W1, hW1⟩ : ∃ W1, w.alloc (.cells #[.int .i64 k, .string nm, .slice a xs.length c, .slice a2 cs.length c2, .slice a3 ts.length c3, .slice a4 es.length c4] 47) = W1 := ⟨_, rfl⟩
    obtain ⟨X, hX⟩ : ∃ X, w.heap.size = X := ⟨_, rfl⟩
    have hkr : Kr K r r w W1 := by rw [← hW1]; exact (Kr.refl K r w).alloc _
    rw [hW1] at ht h1
    rw [hX] at ht
    have hw1 : Below w0.heap.size w0 W1 := hw.trans ((hkr.old hk h).mono hH)
    have x0 : W1.cell? ⟨X, 0, none⟩ = some (.int .i64 k) := ht.blk.cell 0
    have x1 : W1.cell? ⟨X, 1, none⟩ = some (.string nm) := ht.blk.cell 1
    have x2 : W1.cell? ⟨X, 2, none⟩ = some (.slice a xs.length c) := ht.blk.cell 2
    have x3 : W1.cell? ⟨X, 3, none⟩ = some (.slice a2 cs.length c2) := ht.blk.cell 3
    have x4 : W1.cell? ⟨X, 4, none⟩ = some (.slice a3 ts.length c3) := ht.blk.cell 4
    have x5 : W1.cell? ⟨X, 5, none⟩ = some (.slice a4 es.length c4) := ht.blk.cell 5
    have HT := Lib.hid (And.intro ht (And.intro h1 (And.intro hkr (And.intro hw1 hR)))); clear ht h1 hkr hw1 hR
    have HW1 := Lib.hid hW1; clear hW1
    have HX := Lib.hid hX; clear hX
    have HL := Lib.hid (And.intro hl1 (And.intro hl2 (And.intro hl3 (And.intro hp1 (And.intro hp2 (And.intro hnm (And.intro hk1 hk7))))))); clear hl1 hl2 hl3 hp1 hp2 hnm hk1 hk7
    have HROW := Lib.hid hrow; clear hrow
    have HROW2 := Lib.hid hrow2; clear hrow2
    have HGX := Lib.hid hgx; clear hgx
    have HGC := Lib.hid hgc; clear hgc
    have HBT := Lib.hid hbt; clear hbt
    have HBE := Lib.hid hbe; clear hbe
    have HHL := Lib.hid hhl; clear hhl
    have HVL := Lib.hid hvl; clear hvl
    have HWH := Lib.hid (And.intro hw h)
    clear hw h hlc hcm hlc2 hcm2
    by_cases k1 : k = 1
    · subst k1
      have hl := HL.out.1 rfl
      have hl0 : 0 < xs.length := by omega
      have hli : (0 : Int) < xs.length := by omega
      have hbar : barL xs = barN xs[0] := by
        match xs, hl with
        | [x0], _ => rfl
      have hr2 := HROW.out.resolve_left (by omega)
      clear HROW hl HROW2 HGC HHL HTS HES HBT HBE
      obtain ⟨b0, o, rfl, hrow⟩ := hr2
      obtain ⟨hty, u0, u1, u2, u3, m0, m1, m2, m3, hnd⟩ := SlIn.item4 rfl hrow 0 hl0
      obtain ⟨fk, fn, fs', fa, fl, fc, rfl, rfl, rfl, rfl⟩ := NdIn.formE hty hnd
      have hg := okL_at HGX.out 0 hl0
      have kk := keeps_below HT.out.2.2.2.1
      have y0 := kk _ _ _ m0
      have y1 := kk _ _ _ m1
      have y2 := kk _ _ _ m2
      have y3 := kk _ _ _ m3
      simp only [Nat.zero_mul, Nat.add_zero] at y0 y1 y2 y3
      have hR : asgR K.E nm xs[0] s = R := by rw [← HT.out.2.2.2.2, st_asg, HVL.out 0 hl0, hbar]; rfl
      have HC := Lib.hid (assign_any K hk w0 hH nm HL.out.2.2.2.2.2.1 (HL.out.2.2.2.1 rfl) _ _ hg.1 hg.2 s r W1.drew hnd HT.out.2.2.2.1.drew (HT.out.2.1.drew hk))
      rw [hR] at HC
      clear m0 m1 m2 m3 hnd hrow hty kk hg hR hbar HVL HGX
      go_enter Try.func28, Try.ntmps28
      go_upto_region 1 with fail
      rw [HW1.out, HX.out]
      clear HW1
      go_upto_region 3 with fail
      go_region_with (go_at_call 40; (with_reducible refine HC.out.mono ?_); rintro e w3 ⟨r3, hk3, ⟨u, s3, hr3, rfl, -, h3⟩ | ⟨st, wr3, s3, hr3, rfl, h3⟩⟩; rotate_left; (exact ⟨rfl, Ran.stop hr3 (HT.out.2.2.1.drew.trans hk3) h3⟩); (have H3 := Lib.hid (And.intro hk3 (And.intro hr3 h3))); clear hk3 hr3 h3)
      all_goals
        go_wp2_with fail
        go_end0
        exact Ran.go (val := unitV) (a := ()) H3.out.2.1 (HT.out.2.2.1.drew.trans H3.out.1) trivial H3.out.2.2
    have t1 : (k == 1) = false := by simpa using k1
    by_cases k2 : k = 2
    · subst k2
      have hl := HL.out.2.1 rfl
      have hl0 : 0 < xs.length := by omega
      have hli : (0 : Int) < xs.length := by omega
      have hl2 : 1 < xs.length := by omega
      have hlj : (1 : Int) < xs.length := by omega
      have hr2 := HROW.out.resolve_left (by omega)
      clear HROW hl HROW2 HGC HHL HTS HES HBT HBE
      obtain ⟨b0, o, rfl, hrow⟩ := hr2
      obtain ⟨hty, u0, u1, u2, u3, m0, m1, m2, m3, hnd⟩ := SlIn.item4 rfl hrow 0 hl0
      obtain ⟨fk, fn, fs', fa, fl, fc, rfl, rfl, rfl, rfl⟩ := NdIn.formE hty hnd
      obtain ⟨jty, u0, u1, u2, u3, j0, j1, j2, j3, jnd⟩ := SlIn.item4 rfl hrow 1 hl2
      obtain ⟨gk, gn, gs', ga, gl, gc, rfl, rfl, rfl, rfl⟩ := NdIn.formE jty jnd
      have hg := okL_at HGX.out 0 hl0
      have hg2 := okL_at HGX.out 1 hl2
      have hR := HT.out.2.2.2.2
      rw [st_sto, HVL.out 0 hl0, HVL.out 1 hl2] at hR
      have HR := Lib.hid hR
      have kk := keeps_below HT.out.2.2.2.1
      have y0 := kk _ _ _ m0
      have y1 := kk _ _ _ m1
      have y2 := kk _ _ _ m2
      have y3 := kk _ _ _ m3
      have z0 := kk _ _ _ j0
      have z1 := kk _ _ _ j1
      have z2 := kk _ _ _ j2
      have z3 := kk _ _ _ j3
      simp only [Nat.zero_mul, Nat.add_zero] at y0 y1 y2 y3
      simp only [Nat.one_mul] at z0 z1 z2 z3
      have HC := Lib.hid (value_any K hk w0 hH _ _ (Nat.le_refl _) hg.1 hg.2 _ s r W1.drew hnd HT.out.2.2.2.1.drew (HT.out.2.1.drew hk))
      have HD := Lib.hid (value_any K hk w0 hH _ _ (Nat.le_refl _) hg2.1 hg2.2)
      have HJ := Lib.hid (And.intro j0 (And.intro j1 (And.intro j2 (And.intro j3 jnd))))
      have HT2 := Lib.hid (HT.out.1.next (Below.refl _ W1).drew)
      have HNM := Lib.hid (And.intro HL.out.2.2.2.2.2.1 (HL.out.2.2.2.2.1 rfl))
      obtain ⟨E0, hE0⟩ : ∃ y, xs[0] = y := ⟨_, rfl⟩
      obtain ⟨E1, hE1⟩ : ∃ y, xs[1] = y := ⟨_, rfl⟩
      rw [hE0] at HR HC
      rw [hE1] at HR HD HJ
      clear hR m0 m1 m2 m3 hnd hrow hty kk j0 j1 j2 j3 jnd jty HVL HGX hg hg2 hE0 hE1 HL
      go_enter Try.func28, Try.ntmps28
      go_upto_region 1 with fail
      rw [HW1.out, HX.out]
      clear HW1
      go_upto_region 5 with fail
      go_region_with (first
        | (go_at_call 41; (with_reducible refine HC.out.mono ?_); rintro e w3 ⟨r3, hk3, ⟨v, s3, hr3, rfl, hf3, h3⟩ | ⟨st, wr3, s3, hr3, rfl, h3⟩⟩; rotate_left; (exact ⟨rfl, Ran.stop (by rw [← HR.out, hr3]; rfl) (HT.out.2.2.1.drew.trans hk3) h3⟩); (have hold : Below w0.heap.size w0 w3 := HT.out.2.2.2.1.drew.trans ((hk3.old hk (HT.out.2.1.drew hk)).mono hH)); (have k0 := keeps_below hold _ _ _ HJ.out.1); (have k1 := keeps_below hold _ _ _ HJ.out.2.1); (have k2 := keeps_below hold _ _ _ HJ.out.2.2.1); (have k3 := keeps_below hold _ _ _ HJ.out.2.2.2.1); (simp only [Nat.one_mul] at k0 k1 k2 k3); (have q2 : w3.cell? ⟨X, 2, none⟩ = some (.slice (some ⟨b0, o, none⟩) xs.length c) := (HT2.out.kr hk hk3).blk.cell 2); (have HD3 := Lib.hid (HD.out _ s3 r3 w3 HJ.out.2.2.2.2 hold h3)); (have HT3 := Lib.hid (HT2.out.kr hk hk3)); (have H3 := Lib.hid (And.intro hk3 (And.intro hr3 (And.intro hf3 h3)))); clear hk3 hr3 hf3 h3 hold)
        | (go_at_call 41; (with_reducible refine HD3.out.mono ?_); rintro e w4 ⟨r4, hk4, ⟨v4, s4, hr4, rfl, hf4, h4⟩ | ⟨st, wr4, s4, hr4, rfl, h4⟩⟩; rotate_left; (exact ⟨rfl, Ran.stop (by rw [← HR.out, H3.out.2.1]; show (valN K.E E1 s3).bind _ = _; rw [hr4]; rfl) ((HT.out.2.2.1.drew.trans H3.out.1).trans hk4) h4⟩); (have HT4 := Lib.hid (HT3.out.kr hk hk4)); (have H4 := Lib.hid (And.intro hk4 (And.intro hr4 (And.intro hf4 h4)))); clear hk4 hr4 hf4 h4))
      all_goals
        have p1 : w4.cell? ⟨X, 1, none⟩ = some (.string nm) := HT4.out.blk.cell 1
        have HI := Lib.hid (item_any K hk s4 r4 nm HNM.out.1 HNM.out.2 v w4 H4.out.2.2.2)
        go_wp2_with fail
        refine HI.out.mono ?_
        rintro e w5 ⟨r5, hk5, ⟨j, s5, hr5, rfl, hj5, h5⟩ | ⟨st, wr5, s5, hr5, rfl, h5⟩⟩
        · obtain ⟨sv5, ve5, hm5, he5⟩ := h5
          obtain ⟨v5, f5, -⟩ := arrs_at hm5 nm HNM.out.2 j hj5
          have H5 := Lib.hid (And.intro hk5 (And.intro hr5 (And.intro hm5 he5)))
          clear hk5 hr5 hm5 he5
          go_wp2_with fail
          go_end0
          obtain ⟨hk5, hr5, hm5, he5⟩ := H5.out
          have hab : arrB K nm = K.ab[K.E.pl nm]'HNM.out.2 := by unfold arrB; rw [List.getD_eq_getElem?_getD, List.getElem?_eq_getElem HNM.out.2]; rfl
          rw [hab]
          refine Ran.go (val := unitV) (a := ()) (r' := r5) (s' := putA K.E nm j v4 s5) ?_ ((((HT.out.2.2.1.drew.trans H3.out.1).trans H4.out.1).trans hk5).trans (Kr.onlyA (List.getElem_mem HNM.out.2) ((Only.refl _ w5).setCell (p := ⟨(K.ab[K.E.pl nm]'HNM.out.2).1, j, none⟩) rfl _))) trivial ⟨sv5, ve5, hm5.setA hk (K.E.pl nm) HNM.out.2 j H4.out.2.2.1, he5⟩
          rw [← HR.out, H3.out.2.1]
          show (valN K.E E1 s3).bind _ = _
          rw [H4.out.2.1]
          show (itemR K.E nm v s4).bind _ = _
          rw [hr5]
          rfl
        · refine ⟨rfl, Ran.stop ?_ (((HT.out.2.2.1.drew.trans H3.out.1).trans H4.out.1).trans hk5) h5⟩
          rw [← HR.out, H3.out.2.1]
          show (valN K.E E1 s3).bind _ = _
          rw [H4.out.2.1]
          show (itemR K.E nm v s4).bind _ = _
          rw [hr5]
          rfl
    have t2 : (k == 2) = false := by simpa using k2
    by_cases k3 : k = 3
    · subst k3
      have hl := HL.out.2.2.1 (by omega)
      have hl0 : 0 < cs.length := by omega
      have hli : (0 : Int) < cs.length := by omega
      have hr2 := HROW2.out.resolve_left (by omega)
      clear HROW2 hl HROW HGX HVL
      obtain ⟨b0, o, rfl, hrow⟩ := hr2
      obtain ⟨hty, u0, u1, u2, u3, m0, m1, m2, m3, hnd⟩ := SlIn.item4 rfl hrow 0 hl0
      obtain ⟨fk, fn, fa, fl, fc, fa2, fl2, fc2, rfl, rfl, rfl, rfl⟩ := NdIn.formC hty hnd
      have hg := okL_at HGC.out 0 hl0
      have kk := keeps_below HT.out.2.2.2.1
      have y0 := kk _ _ _ m0
      have y1 := kk _ _ _ m1
      have y2 := kk _ _ _ m2
      have y3 := kk _ _ _ m3
      simp only [Nat.zero_mul, Nat.add_zero] at y0 y1 y2 y3
      have hR := HT.out.2.2.2.2
      rw [st_if, HHL.out 0 hl0] at hR
      have HR := Lib.hid hR
      clear hR
      have HC := Lib.hid (holds_any K hk w0 hH _ _ (Nat.le_refl _) hg.1 hg.2 _ s r W1 hnd HT.out.2.2.2.1 HT.out.2.1)
      clear m0 m1 m2 m3 hnd hrow hty kk hg HHL HGC
      go_enter Try.func28, Try.ntmps28
      go_upto_region 1 with fail
      rw [HW1.out, HX.out]
      clear HW1
      go_wp2_with fail
      refine HC.out.mono ?_
      rintro e w3 ⟨r3, hk3, ⟨v, s3, hr3, rfl, -, h3⟩ | ⟨st, wr3, s3, hr3, rfl, h3⟩⟩
      · have HOLD := Lib.hid (HT.out.2.2.2.1.trans ((hk3.old hk HT.out.2.1).mono hH))
        have H3 := Lib.hid (And.intro hk3 (And.intro hr3 h3))
        clear hk3 hr3 h3
        cases v with
        | true =>
          have q4 : w3.cell? ⟨X, 4, none⟩ = some (.slice a3 ts.length c3) := (HT.out.1.kr hk H3.out.1).blk.cell 4
          have HBC := Lib.hid (HBT.out _ s3 r3 w3 (HTS.out.keep (fun _ _ _ h => h)) HOLD.out H3.out.2.2)
          have hR2 : stL K.E ts s3 = R := by rw [← HR.out, H3.out.2.1]; rfl
          rw [hR2] at HBC
          clear hR2
          go_wp2_with fail
          refine HBC.out.mono ?_
          rintro e w4 ⟨r4, hk4, ⟨u, s4, hr4, rfl, -, h4⟩ | ⟨st, wr4, s4, hr4, rfl, h4⟩⟩
          · have H4 := Lib.hid (And.intro hk4 (And.intro hr4 h4))
            clear hk4 hr4 h4
            go_wp2_with fail
            go_end0
            exact Ran.go (val := unitV) (a := ()) H4.out.2.1 ((HT.out.2.2.1.trans H3.out.1).trans H4.out.1) trivial H4.out.2.2
          · exact ⟨rfl, Ran.stop hr4 ((HT.out.2.2.1.trans H3.out.1).trans hk4) h4⟩
        | false =>
          have q5 : w3.cell? ⟨X, 5, none⟩ = some (.slice a4 es.length c4) := (HT.out.1.kr hk H3.out.1).blk.cell 5
          have HBC := Lib.hid (HBE.out _ s3 r3 w3 (HES.out.keep (fun _ _ _ h => h)) HOLD.out H3.out.2.2)
          have hR2 : stL K.E es s3 = R := by rw [← HR.out, H3.out.2.1]; rfl
          rw [hR2] at HBC
          clear hR2
          go_wp2_with fail
          refine HBC.out.mono ?_
          rintro e w4 ⟨r4, hk4, ⟨u, s4, hr4, rfl, -, h4⟩ | ⟨st, wr4, s4, hr4, rfl, h4⟩⟩
          · have H4 := Lib.hid (And.intro hk4 (And.intro hr4 h4))
            clear hk4 hr4 h4
            go_wp2_with fail
            go_end0
            exact Ran.go (val := unitV) (a := ()) H4.out.2.1 ((HT.out.2.2.1.trans H3.out.1).trans H4.out.1) trivial H4.out.2.2
          · exact ⟨rfl, Ran.stop hr4 ((HT.out.2.2.1.trans H3.out.1).trans hk4) h4⟩
      · exact ⟨rfl, Ran.stop (by rw [← HR.out, hr3]; rfl) (HT.out.2.2.1.trans hk3) h3⟩
    have t3 : (k == 3) = false := by simpa using k3
    by_cases k4 : k = 4
    · subst k4
      have hl := HL.out.2.2.1 (by omega)
      have hl0 : 0 < cs.length := by omega
      have hli : (0 : Int) < cs.length := by omega
      have hr2 := HROW2.out.resolve_left (by omega)
      clear HROW2 hl HROW HGX HVL
      obtain ⟨b0, o, rfl, hrow⟩ := hr2
      obtain ⟨hty, u0, u1, u2, u3, m0, m1, m2, m3, hnd⟩ := SlIn.item4 rfl hrow 0 hl0
      obtain ⟨fk, fn, fa, fl, fc, fa2, fl2, fc2, rfl, rfl, rfl, rfl⟩ := NdIn.formC hty hnd
      have hg := okL_at HGC.out 0 hl0
      have kk := keeps_below HT.out.2.2.2.1
      have y0 := kk _ _ _ m0
      have y1 := kk _ _ _ m1
      have y2 := kk _ _ _ m2
      have y3 := kk _ _ _ m3
      simp only [Nat.zero_mul, Nat.add_zero] at y0 y1 y2 y3
      have hR := HT.out.2.2.2.2
      rw [st_while, HHL.out 0 hl0] at hR
      have HR := Lib.hid hR
      clear hR
      have HMORE := Lib.hid (fun s => hldN_more K.E cs[0] s (cnd_of _ hg.1 hg.2))
      have HHD := Lib.hid (fun s r w => holds_any K hk w0 hH _ _ (Nat.le_refl _) hg.1 hg.2 _ s r w hnd)
      have HM := Lib.hid (And.intro m0 (And.intro m1 (And.intro m2 m3)))
      clear m0 m1 m2 m3 hnd hrow hty kk hg HHL HGC HES HBE
      go_enter Try.func28, Try.ntmps28
      go_upto_region 1 with fail
      rw [HW1.out, HX.out]
      clear HW1
      go_wp2_with fail
      go_loopw [62] (fun _ wr => ∃ (s' : Rn) (r' : Option Nat) (n' : Nat), loopR (hldN K.E cs[0]) (stL K.E ts) n' s' = R ∧ K.E.most < n' + s'.steps ∧ Kr K r r' w wr ∧ At K wr s' r' ∧ Tm K wr r' X #[.int .i64 4, .string nm, .slice a xs.length c, .slice (some ⟨b0, o, none⟩) cs.length c2, .slice a3 ts.length c3, .slice a4 es.length c4] 47) (fun _ wr => K.E.most - stepsOf K wr)
      case atStart => exact ⟨s, r, _, HR.out, by have := HT.out.2.1.most; omega, HT.out.2.2.1, HT.out.2.1, HT.out.1⟩
      case round =>
        obtain ⟨s1, r1, n1, hR1, hn1, hkr1, h1, ht1⟩ := hrel
        have hold : Below w0.heap.size w0 wr := HWH.out.1.trans ((hkr1.old hk HWH.out.2).mono hH)
        have kk := keeps_below hold
        have k0 := kk _ _ _ HM.out.1
        have k1' := kk _ _ _ HM.out.2.1
        have k2' := kk _ _ _ HM.out.2.2.1
        have k3' := kk _ _ _ HM.out.2.2.2
        simp only [Nat.zero_mul, Nat.add_zero] at k0 k1' k2' k3'
        have q3 : wr.cell? ⟨X, 3, none⟩ = some (.slice (some ⟨b0, o, none⟩) cs.length c2) := ht1.blk.cell 3
        have q4 : wr.cell? ⟨X, 4, none⟩ = some (.slice a3 ts.length c3) := ht1.blk.cell 4
        have hm1 := h1.most
        obtain ⟨n2, rfl⟩ : ∃ n2, n1 = n2 + 1 := ⟨n1 - 1, by omega⟩
        rw [loopR_succ] at hR1
        have HC := Lib.hid (HHD.out s1 r1 wr hold h1)
        have H1 := Lib.hid (And.intro hR1 (And.intro hn1 (And.intro hkr1 (And.intro h1 (And.intro ht1 hm1)))))
        clear hold kk hR1 hn1 hkr1 h1 ht1 hm1
        go_wp2_with fail
        refine HC.out.mono ?_
        rintro e w3 ⟨r3, hk3, ⟨v, s3, hr3, rfl, -, h3⟩ | ⟨st, wr3, s3, hr3, rfl, h3⟩⟩
        · have hlt := HMORE.out s1 v s3 hr3
          have hR3 := H1.out.1
          rw [hr3] at hR3
          have HR3 : Hid ((if v = true then (stL K.E ts s3).bind (fun _ s => loopR (hldN K.E cs[0]) (stL K.E ts) n2 s) else .go () s3) = R) := Lib.hid hR3
          have HLT := Lib.hid hlt
          have HOLD := Lib.hid (HWH.out.1.trans (((H1.out.2.2.1.trans hk3).old hk HWH.out.2).mono hH))
          have p4 : w3.cell? ⟨X, 4, none⟩ = some (.slice a3 ts.length c3) := (H1.out.2.2.2.2.1.kr hk hk3).blk.cell 4
          have H3 := Lib.hid (And.intro hk3 h3)
          clear hk3 hr3 h3 hR3 hlt k0 k1' k2' k3' q3 q4
          cases v with
          | false =>
            go_wp2_with fail
            go_end0
            exact Ran.go (val := unitV) (a := ()) HR3.out.symm (H1.out.2.2.1.trans H3.out.1) trivial H3.out.2
          | true =>
            have HBC := Lib.hid (HBT.out _ s3 r3 w3 (HTS.out.keep (fun _ _ _ h => h)) HOLD.out H3.out.2)
            go_wp2_with fail
            refine HBC.out.mono ?_
            rintro e w4 ⟨r4, hk4, ⟨u, s4, hr4, rfl, -, h4⟩ | ⟨st, wr4, s4, hr4, rfl, h4⟩⟩
            · have hR4 := HR3.out
              simp only [if_true] at hR4
              rw [hr4] at hR4
              have HR4 : Hid (loopR (hldN K.E cs[0]) (stL K.E ts) n2 s4 = R) := Lib.hid hR4
              have hup := stL_up K.E ts s3
              rw [hr4] at hup
              have HUP : Hid (s3.steps ≤ s4.steps) := Lib.hid hup
              have HMO := Lib.hid h4.most
              have H4 := Lib.hid (And.intro hk4 h4)
              clear hk4 hr4 h4 hR4 hup
              go_wp2_with fail
              go_roundw
              case rel => exact ⟨s4, r4, n2, HR4.out, by have := H1.out.2.1; have := HLT.out; have := HUP.out; omega, (H1.out.2.2.1.trans H3.out.1).trans H4.out.1, H4.out.2, (H1.out.2.2.2.2.1.kr hk H3.out.1).kr hk H4.out.1⟩
              case measure =>
                have e1 := stepsOf_at H1.out.2.2.2.1
                have e2 := stepsOf_at H4.out.2
                have h6 := HLT.out
                have h7 := HUP.out
                have h8 := HMO.out
                simp only [e1, e2]
                omega
            · refine ⟨rfl, Ran.stop ?_ ((H1.out.2.2.1.trans H3.out.1).trans hk4) h4⟩
              have hR4 := HR3.out
              simp only [if_true] at hR4
              rw [hr4] at hR4
              exact hR4.symm
        · refine ⟨rfl, Ran.stop ?_ (H1.out.2.2.1.trans hk3) h3⟩
          rw [← H1.out.1, hr3]
          rfl
    have t4 : (k == 4) = false := by simpa using k4
    by_cases k5 : k = 5
    · subst k5
      have hl := HL.out.2.2.1 (by omega)
      have hl0 : 0 < cs.length := by omega
      have hli : (0 : Int) < cs.length := by omega
      have hr2 := HROW2.out.resolve_left (by omega)
      clear HROW2 hl HROW HGX HVL
      obtain ⟨b0, o, rfl, hrow⟩ := hr2
      obtain ⟨hty, u0, u1, u2, u3, m0, m1, m2, m3, hnd⟩ := SlIn.item4 rfl hrow 0 hl0
      obtain ⟨fk, fn, fa, fl, fc, fa2, fl2, fc2, rfl, rfl, rfl, rfl⟩ := NdIn.formC hty hnd
      have hg := okL_at HGC.out 0 hl0
      have kk := keeps_below HT.out.2.2.2.1
      have y0 := kk _ _ _ m0
      have y1 := kk _ _ _ m1
      have y2 := kk _ _ _ m2
      have y3 := kk _ _ _ m3
      simp only [Nat.zero_mul, Nat.add_zero] at y0 y1 y2 y3
      have hR : astR K.E cs[0] s = R := by rw [← HT.out.2.2.2.2, st_assert, HHL.out 0 hl0]; rfl
      have HC := Lib.hid (assert_any K hk w0 hH _ _ hg.1 hg.2 s r W1 hnd HT.out.2.2.2.1 HT.out.2.1)
      rw [hR] at HC
      clear hR
      clear m0 m1 m2 m3 hnd hrow hty kk hg HHL HGC
      go_enter Try.func28, Try.ntmps28
      go_upto_region 1 with fail
      rw [HW1.out, HX.out]
      clear HW1
      go_wp2_with fail
      refine HC.out.mono ?_
      rintro e w3 ⟨r3, hk3, ⟨u, s3, hr3, rfl, -, h3⟩ | ⟨st, wr3, s3, hr3, rfl, h3⟩⟩
      · have H3 := Lib.hid (And.intro hk3 (And.intro hr3 h3))
        clear hk3 hr3 h3
        go_wp2_with fail
        go_end0
        exact Ran.go (val := unitV) (a := ()) H3.out.2.1 (HT.out.2.2.1.trans H3.out.1) trivial H3.out.2.2
      · exact ⟨rfl, Ran.stop hr3 (HT.out.2.2.1.trans hk3) h3⟩
    have t5 : (k == 5) = false := by simpa using k5
    by_cases k6 : k = 6
    · subst k6
      have hl := HL.out.2.2.1 (by omega)
      have hl0 : 0 < cs.length := by omega
      have hli : (0 : Int) < cs.length := by omega
      have hr2 := HROW2.out.resolve_left (by omega)
      clear HROW2 hl HROW HGX HVL
      obtain ⟨b0, o, rfl, hrow⟩ := hr2
      obtain ⟨hty, u0, u1, u2, u3, m0, m1, m2, m3, hnd⟩ := SlIn.item4 rfl hrow 0 hl0
      obtain ⟨fk, fn, fa, fl, fc, fa2, fl2, fc2, rfl, rfl, rfl, rfl⟩ := NdIn.formC hty hnd
      have hg := okL_at HGC.out 0 hl0
      have kk := keeps_below HT.out.2.2.2.1
      have y0 := kk _ _ _ m0
      have y1 := kk _ _ _ m1
      have y2 := kk _ _ _ m2
      have y3 := kk _ _ _ m3
      simp only [Nat.zero_mul, Nat.add_zero] at y0 y1 y2 y3
      have hR := HT.out.2.2.2.2
      rw [st_assume, HHL.out 0 hl0] at hR
      have HR := Lib.hid hR
      clear hR
      have HC := Lib.hid (holds_any K hk w0 hH _ _ (Nat.le_refl _) hg.1 hg.2 _ s r W1 hnd HT.out.2.2.2.1 HT.out.2.1)
      clear m0 m1 m2 m3 hnd hrow hty kk hg HHL HGC
      go_enter Try.func28, Try.ntmps28
      go_upto_region 1 with fail
      rw [HW1.out, HX.out]
      clear HW1
      go_wp2_with fail
      refine HC.out.mono ?_
      rintro e w3 ⟨r3, hk3, ⟨v, s3, hr3, rfl, -, h3⟩ | ⟨st, wr3, s3, hr3, rfl, h3⟩⟩
      · have H3 := Lib.hid (And.intro hk3 (And.intro hr3 h3))
        clear hk3 hr3 h3
        cases v with
        | true =>
          go_wp2_with fail
          go_end0
          exact Ran.go (val := unitV) (a := ()) (by rw [← HR.out, H3.out.2.1]; rfl) (HT.out.2.2.1.trans H3.out.1) trivial H3.out.2.2
        | false =>
          go_wp2_with fail
          refine (halt_any _ _).mono ?_
          rintro e w4 ⟨rfl, rfl⟩
          exact ⟨rfl, Ran.stop (by rw [← HR.out, H3.out.2.1]; rfl) (HT.out.2.2.1.trans H3.out.1) H3.out.2.2⟩
      · exact ⟨rfl, Ran.stop (by rw [← HR.out, hr3]; rfl) (HT.out.2.2.1.trans hk3) h3⟩
    have t6 : (k == 6) = false := by simpa using k6
    obtain rfl : k = 7 := by have := HL.out.2.2.2.2.2.2; omega
    have hR := HT.out.2.2.2.2
    rw [st_skip] at hR
    have HC := Lib.hid (step_any K hk s r W1 HT.out.2.1)
    rw [hR] at HC
    clear hR HROW HROW2 HGX HGC HHL HVL HBT HBE
    go_enter Try.func28, Try.ntmps28
    go_upto_region 1 with fail
    rw [HW1.out, HX.out]
    clear HW1
    go_wp2_with fail
    refine HC.out.mono ?_
    rintro e w3 ⟨r3, hk3, ⟨u, s3, hr3, rfl, -, h3⟩ | ⟨st, wr3, s3, hr3, rfl, h3⟩⟩
    · have H3 := Lib.hid (And.intro hk3 (And.intro hr3 h3))
      clear hk3 hr3 h3
      go_wp2_with fail
      go_end0
      exact Ran.go (val := unitV) (a := ()) H3.out.2.1 (HT.out.2.2.1.trans H3.out.1) trivial H3.out.2.2
    · exact ⟨rfl, Ran.stop hr3 (HT.out.2.2.1.trans hk3) h3⟩
end Go.Proofs.Ytbhbmoppipohjaa
