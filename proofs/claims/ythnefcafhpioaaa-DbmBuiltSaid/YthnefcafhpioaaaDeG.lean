/-
  The walk of DbmPoints.
-/
import Derived.Test.YthnefcafhpioaaaDeF
namespace Go.Proofs.Ythnefcafhpioaaa
open Go Go.RowKit Go.Shelf

/-- What holds while DbmPoints asks. -/
structure PtF (X : Nat) (w : World) (cs : Array Value) (m p : List Int) (l : List (List Int)) (a1 ap al : Option Addr) (W : World) : Prop where
  bx : Blk W X cs 24
  mx : MAt W m a1
  mp : MAt W p ap
  ml : RsAt W l al
  low : Below w.heap.size w W
theorem PtF.next {X : Nat} {w : World} {cs : Array Value} {m p : List Int} {l : List (List Int)} {a1 ap al : Option Addr} {W W' : World} (h : PtF X w cs m p l a1 ap al W) (hb : Below W.heap.size W W') : PtF X w cs m p l a1 ap al W' := ⟨h.bx.below hb h.bx.lt, h.mx.next hb, h.mp.next hb, h.ml.next hb, h.low.trans (hb.mono h.low.size)⟩
theorem octB_refl (x : Oc) : octB x x = true := by unfold octB; simp
theorem ptsO_len (n : Int) (l : List (List Int)) : (ptsO n l).1.m.length ≤ maxLen := by
  unfold ptsO
  split
  · exact Nat.zero_le _
  · split
    · exact Nat.zero_le _
    · rename_i h1 h2
      simp only [not_or, Bool.not_eq_false] at h1
      obtain ⟨h0, h64⟩ := numB_true h1.1
      show (ptsM (2 * n.toNat) l).length ≤ maxLen
      rw [ptsM_len]
      exact Nat.le_trans (Nat.mul_le_mul (show 2 * n.toNat ≤ 128 by omega) (show 2 * n.toNat ≤ 128 by omega)) (by unfold maxLen; omega)
set_option maxRecDepth 100000 in
set_option maxHeartbeats 8000000 in
theorem points_law (x : Oc) (a1 : Option Addr) (c1 : Nat) (p : List Int) (ap : Option Addr) (cp : Nat) (nn : Int) (l : List (List Int)) (al : Option Addr) (cl : Nat) (w : World) (hx : MAt w x.m a1) (hp : MAt w p ap) (hpi : ∀ v ∈ p, isI v) (hl : RsAt w l al) (hll : l.length ≤ maxLen) (hli : ∀ r ∈ l, ∀ v ∈ r, isI v) :
    Calls Try.prog 5 #[ocV x a1 c1, .slice ap p.length cp, .int .i64 nn, .slice al l.length cl] w fun e w' => e = .returned (.bool true) ∧ Below w.heap.size w w' := by
  have HH1 : Hid (∀ ww : World, MAt ww x.m a1 → MAt ww p ap → Calls Try.prog 25 #[.agg #[.int .i64 x.n, .bool x.em, .slice a1 x.m.length c1], .slice ap p.length cp] ww fun e w' => e = .returned (.bool (hasV x p)) ∧ Below ww.heap.size ww w') := Lib.hid fun ww h h2 => has_any x a1 c1 p ap cp ww h h2 hpi
  have HH2 : Hid (∀ ww : World, MAt ww x.m a1 → MAt ww p ap → Calls Try.prog 26 #[.agg #[.int .i64 x.n, .bool x.em, .slice a1 x.m.length c1], .slice ap p.length cp] ww fun e w' => e = .returned (.bool (hasV x p)) ∧ Below ww.heap.size ww w') := Lib.hid fun ww h h2 => rhas_any x a1 c1 p ap cp ww h h2 hpi
  have HP1 : Hid (∀ ww : World, RsAt ww l al → Calls Try.prog 27 #[.int .i64 nn, .slice al l.length cl] ww fun e w' => ∃ a c, e = .returned (.tuple #[ocV (ptsO nn l).1 a c, .int .i64 (ptsO nn l).2]) ∧ MAt w' (ptsO nn l).1.m a ∧ Below ww.heap.size ww w') := Lib.hid fun ww h => (points_any nn l al cl ww h hll hli).mono fun e w' ⟨a, c, he, hm, hb⟩ => ⟨a, c, he, hm.mat, hb⟩
  have HP2 : Hid (∀ ww : World, RsAt ww l al → Calls Try.prog 28 #[.int .i64 nn, .slice al l.length cl] ww fun e w' => ∃ a c, e = .returned (.tuple #[ocV (ptsO nn l).1 a c, .int .i64 (ptsO nn l).2]) ∧ MAt w' (ptsO nn l).1.m a ∧ Below ww.heap.size ww w') := Lib.hid fun ww h => (rpoints_any nn l al cl ww h hll hli).mono fun e w' ⟨a, c, he, hm, hb⟩ => ⟨a, c, he, hm.mat, hb⟩
  have hpl := ptsO_len nn l
  obtain ⟨⟨po, pe⟩, hpo⟩ : ∃ z, ptsO nn l = z := ⟨_, rfl⟩
  rw [hpo] at HP1 HP2 hpl
  obtain ⟨pn, pem, pm⟩ := po
  simp only at HP1 HP2 hpl
  have HO : Hid (∀ (b b2 : Option Addr) (d d2 : Nat) (ww : World), MAt ww pm b → MAt ww pm b2 → Calls Try.prog 16 #[.agg #[.int .i64 pn, .bool pem, .slice b pm.length d], .agg #[.int .i64 pn, .bool pem, .slice b2 pm.length d2]] ww fun e w' => e = .returned (.bool true) ∧ Below ww.heap.size ww w') := Lib.hid fun b b2 d d2 ww h h2 => by
    have h3 := oct_any ⟨pn, pem, pm⟩ ⟨pn, pem, pm⟩ b b2 d d2 ww h h2 hpl
    rw [octB_refl] at h3
    exact h3
  obtain ⟨E, hE⟩ : ∃ E, hasV x p = E := ⟨_, rfl⟩
  rw [hE] at HH1 HH2
  obtain ⟨n1, e1, m1⟩ := x
  simp only at hx HH1 HH2
  show Calls Try.prog 5 #[.agg #[.int .i64 n1, .bool e1, .slice a1 m1.length c1], .slice ap p.length cp, .int .i64 nn, .slice al l.length cl] w _
  obtain ⟨X, hX⟩ : ∃ X, w.heap.size = X := ⟨_, rfl⟩
  obtain ⟨L1, hL1⟩ : ∃ X, m1.length = X := ⟨_, rfl⟩
  obtain ⟨LP, hLP⟩ : ∃ X, p.length = X := ⟨_, rfl⟩
  obtain ⟨LL, hLL⟩ : ∃ X, l.length = X := ⟨_, rfl⟩
  obtain ⟨PL, hPL⟩ : ∃ X, pm.length = X := ⟨_, rfl⟩
  have HP1 : Hid (∀ ww : World, RsAt ww l al → Calls Try.prog 27 #[.int .i64 nn, .slice al LL cl] ww fun e w' => ∃ a c, e = .returned (.tuple #[.agg #[.int .i64 pn, .bool pem, .slice a PL c], .int .i64 pe]) ∧ MAt w' pm a ∧ Below ww.heap.size ww w') := Lib.hid (by rw [← hLL, ← hPL]; exact HP1.out)
  have HP2 : Hid (∀ ww : World, RsAt ww l al → Calls Try.prog 28 #[.int .i64 nn, .slice al LL cl] ww fun e w' => ∃ a c, e = .returned (.tuple #[.agg #[.int .i64 pn, .bool pem, .slice a PL c], .int .i64 pe]) ∧ MAt w' pm a ∧ Below ww.heap.size ww w') := Lib.hid (by rw [← hLL, ← hPL]; exact HP2.out)
  rw [hPL] at HO
  rw [hL1, hLP] at HH1 HH2
  rw [hL1, hLP, hLL]
  obtain ⟨W1, hW1⟩ : ∃ W, w.alloc (.cells #[.int .i64 n1, .bool e1, .slice a1 L1 c1] 24) = W := ⟨_, rfl⟩
  have hx1 : Blk W1 X #[.int .i64 n1, .bool e1, .slice a1 L1 c1] 24 := by rw [← hW1, ← hX]; exact Blk.new w _ _
  have hb1 : Below w.heap.size w W1 := by rw [← hW1]; exact (Below.refl _ w).alloc (Nat.le_refl _) _
  have HW := Lib.hid (And.intro hX hW1)
  have HKN := Lib.hid (known12_any W1)
  have HE : Hid (PtF X w #[.int .i64 n1, .bool e1, .slice a1 L1 c1] m1 p l a1 ap al W1) := Lib.hid ⟨hx1, hx.next hb1, hp.next hb1, hl.next hb1, hb1⟩
  have hLm : LL ≤ maxLen := by omega
  unfold maxLen at hLm
  clear hx hp hpi hl hll hli hE hpo hpl hX hL1 hLP hLL hPL hW1 hx1 hb1
  by_cases hbig : 30 < LL
  · have k1 : decide (30 < (LL : Int)) = true := by simp; omega
    go_enter Try.func5, Try.ntmps5
    go_upto_region 1 with fail
    simp only [HW.out.1]
    rw [HW.out.2]
    go_wp2_with (first | (go_at_call 9; (with_reducible refine HKN.out.mono ?_); rintro e W3 ⟨rfl, hb2⟩; have H3 := Lib.hid (HE.out.next hb2); clear hb2) | fail)
    go_ret
    exact ⟨rfl, H3.out.low⟩
  · have k1 : decide (30 < (LL : Int)) = false := by simp; omega
    clear hbig
    go_enter Try.func5, Try.ntmps5
    go_upto_region 1 with fail
    simp only [HW.out.1]
    rw [HW.out.2]
    go_upto_region 5 with (first | (go_at_call 9; (with_reducible refine HKN.out.mono ?_); rintro e W3 ⟨rfl, hb2⟩; have H3 := Lib.hid (HE.out.next hb2); clear hb2) | fail)
    refine wp_region_any (by kernel_rfl) ?_
    refine wpAny_vals [18, 19, 20, 21, 22, 23, 24] [.agg #[.int .i64 n1, .bool e1, .slice a1 L1 c1], .slice ap LP cp, .bool E, .agg #[.int .i64 n1, .bool e1, .slice a1 L1 c1], .slice ap LP cp, .bool E, .bool false] (fun w' => Below W3.heap.size W3 w') rfl (by kernel_rfl) (by decide) (by kernel_rfl) ?hs ?he ?hj
    case hj => exact (Below.refl _ _).drew
    case hs =>
      intro qi qo ho fr0 hv hx w' hJ
      have hi : qi < 7 := (Array.getElem?_eq_some_iff.1 ho).1
      have HM := Lib.hid (And.intro (H3.out.mx.next hJ) (H3.out.mp.next hJ))
      have x0 : w'.cell? ⟨X, 0, none⟩ = some (.int .i64 n1) := (hJ.cell (p := ⟨X, 0, none⟩) H3.out.bx.lt).trans (H3.out.bx.cell 0)
      have x1 : w'.cell? ⟨X, 1, none⟩ = some (.bool e1) := (hJ.cell (p := ⟨X, 1, none⟩) H3.out.bx.lt).trans (H3.out.bx.cell 1)
      have x2 : w'.cell? ⟨X, 2, none⟩ = some (.slice a1 L1 c1) := (hJ.cell (p := ⟨X, 2, none⟩) H3.out.bx.lt).trans (H3.out.bx.cell 2)
      have HJ := Lib.hid hJ
      clear hJ
      have hcase : qi = 0 ∨ qi = 1 ∨ qi = 2 ∨ qi = 3 ∨ qi = 4 ∨ qi = 5 ∨ qi = 6 := by omega
      clear hi
      rcases hcase with rfl | rfl | rfl | rfl | rfl | rfl | rfl
      · obtain rfl := Option.some.inj ho.symm
        clear ho
        have x4 : fr0.tmps[(4 : Nat)]? = some (.pointer (some ⟨X, 0, none⟩)) := hx 4 (by decide)
        clear hv hx
        refine wpOp_step rfl (fun K hK => ?_)
        go_simp
        exact hK _ _ ⟨rfl, HJ.out⟩
      · obtain rfl := Option.some.inj ho.symm
        clear ho
        have x1 : fr0.tmps[(1 : Nat)]? = some (.slice ap LP cp) := hx 1 (by decide)
        clear hv hx
        refine wpOp_step rfl (fun K hK => ?_)
        go_simp
        exact hK _ _ ⟨rfl, HJ.out⟩
      · obtain rfl := Option.some.inj ho.symm
        clear ho
        have d0 : fr0.tmps[(18 : Nat)]? = some (.agg #[.int .i64 n1, .bool e1, .slice a1 L1 c1]) := hv ⟨0, .data⟩ (by simp) rfl
        have d1 : fr0.tmps[(19 : Nat)]? = some (.slice ap LP cp) := hv ⟨1, .data⟩ (by simp) rfl
        clear hv hx
        refine wpOp_step rfl (fun K hK => ?_)
        go_simp
        go_at_call 25
        refine (HH1.out _ HM.out.1 HM.out.2).mono ?_
        rintro e w2 ⟨rfl, hb2⟩
        exact hK _ _ ⟨rfl, HJ.out.trans (hb2.mono HJ.out.size)⟩
      · obtain rfl := Option.some.inj ho.symm
        clear ho
        have x4 : fr0.tmps[(4 : Nat)]? = some (.pointer (some ⟨X, 0, none⟩)) := hx 4 (by decide)
        clear hv hx
        refine wpOp_step rfl (fun K hK => ?_)
        go_simp
        exact hK _ _ ⟨rfl, HJ.out⟩
      · obtain rfl := Option.some.inj ho.symm
        clear ho
        have x1 : fr0.tmps[(1 : Nat)]? = some (.slice ap LP cp) := hx 1 (by decide)
        clear hv hx
        refine wpOp_step rfl (fun K hK => ?_)
        go_simp
        exact hK _ _ ⟨rfl, HJ.out⟩
      · obtain rfl := Option.some.inj ho.symm
        clear ho
        have d3 : fr0.tmps[(21 : Nat)]? = some (.agg #[.int .i64 n1, .bool e1, .slice a1 L1 c1]) := hv ⟨3, .data⟩ (by simp) rfl
        have d4 : fr0.tmps[(22 : Nat)]? = some (.slice ap LP cp) := hv ⟨4, .data⟩ (by simp) rfl
        clear hv hx
        refine wpOp_step rfl (fun K hK => ?_)
        go_simp
        go_at_call 26
        refine (HH2.out _ HM.out.1 HM.out.2).mono ?_
        rintro e w2 ⟨rfl, hb2⟩
        exact hK _ _ ⟨rfl, HJ.out.trans (hb2.mono HJ.out.size)⟩
      · obtain rfl := Option.some.inj ho.symm
        clear ho
        have d2 : fr0.tmps[(20 : Nat)]? = some (.bool E) := hv ⟨2, .data⟩ (by simp) rfl
        have d5 : fr0.tmps[(23 : Nat)]? = some (.bool E) := hv ⟨5, .data⟩ (by simp) rfl
        clear hv hx
        refine wpOp_step rfl (fun K hK => ?_)
        go_simp
        exact hK _ _ ⟨rfl, HJ.out⟩
    case he =>
      intro w' hJ
      simp only [putF, valsAt, Nat.reduceAdd, Nat.zero_add, List.getD_cons_zero, List.getD_cons_succ, Act.put, List.setIfInBounds_toArray, List.set_cons_succ, List.set_cons_zero]
      have H5 := Lib.hid (H3.out.next hJ)
      clear hJ HH1 HH2 HKN H3
      go_upto_region 8 with (first | (go_at_call 27; (with_reducible refine (HP1.out _ H5.out.ml).mono ?_); rintro e w5 ⟨ta, tc, rfl, hmt, hb5⟩) | fail)
      obtain ⟨V, hV⟩ : ∃ Y, w5.heap.size = Y := ⟨_, rfl⟩
      obtain ⟨W6, hW6⟩ : ∃ W, w5.alloc (.cells #[.int .i64 pn, .bool pem, .slice ta PL tc] 24) = W := ⟨_, rfl⟩
      have hb6 : Below w5.heap.size w5 W6 := by rw [← hW6]; exact (Below.refl _ w5).alloc (Nat.le_refl _) _
      have H6 : Hid (Blk W6 V #[.int .i64 pn, .bool pem, .slice ta PL tc] 24 ∧ MAt W6 pm ta ∧ PtF X w #[.int .i64 n1, .bool e1, .slice a1 L1 c1] m1 p l a1 ap al W6) := Lib.hid ⟨by rw [← hW6, ← hV]; exact Blk.new w5 _ _, hmt.next hb6, (H5.out.next hb5).next hb6⟩
      rw [hW6, hV]
      clear hV hW6 hb6 hmt hb5 H5
      go_upto_region 9 with (first | (go_at_call 28; (with_reducible refine (HP2.out _ H6.out.2.2.ml).mono ?_); rintro e w7 ⟨ua, uc, rfl, hmu, hb7⟩) | fail)
      obtain ⟨U, hU⟩ : ∃ Y, w7.heap.size = Y := ⟨_, rfl⟩
      obtain ⟨W9, hW9⟩ : ∃ W, w7.alloc (.cells #[.int .i64 pn, .bool pem, .slice ua PL uc] 24) = W := ⟨_, rfl⟩
      have hb9 : Below w7.heap.size w7 W9 := by rw [← hW9]; exact (Below.refl _ w7).alloc (Nat.le_refl _) _
      have H9 : Hid (Blk W9 V #[.int .i64 pn, .bool pem, .slice ta PL tc] 24 ∧ Blk W9 U #[.int .i64 pn, .bool pem, .slice ua PL uc] 24 ∧ MAt W9 pm ta ∧ MAt W9 pm ua ∧ Below w.heap.size w W9) := Lib.hid (by
        have hb : Below W6.heap.size W6 W9 := hb7.trans (hb9.mono hb7.size)
        exact ⟨H6.out.1.below hb H6.out.1.lt, by rw [← hW9, ← hU]; exact Blk.new w7 _ _, H6.out.2.1.next hb, hmu.next hb9, H6.out.2.2.low.trans (hb.mono H6.out.2.2.low.size)⟩)
      rw [hW9, hU]
      clear hU hW9 hb9 hb7 hmu H6
      have t0 := H9.out.1.cell 0
      have t1 := H9.out.1.cell 1
      have t2 := H9.out.1.cell 2
      have u0 := H9.out.2.1.cell 0
      have u1 := H9.out.2.1.cell 1
      have u2 := H9.out.2.1.cell 2
      go_wp2_with (first | (go_at_call 16; (with_reducible refine (HO.out _ _ _ _ _ H9.out.2.2.1 H9.out.2.2.2.1).mono ?_); rintro e w10 ⟨rfl, hb10⟩) | fail)
      go_ret
      exact ⟨rfl, H9.out.2.2.2.2.trans (hb10.mono H9.out.2.2.2.2.size)⟩
end Go.Proofs.Ythnefcafhpioaaa
