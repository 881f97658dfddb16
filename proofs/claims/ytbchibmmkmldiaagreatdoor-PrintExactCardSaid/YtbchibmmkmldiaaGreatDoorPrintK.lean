/-
  The document's text of a condition (gnomonref5's cond): proved is that it is the project's.
-/
import Derived.Test.YtbchibmmkmldiaaGreatDoorPrintS
import Derived.Test.YtbchibmmkmldiaaGreatDoorPrintC
namespace Go.Proofs.YtbchibmmkmldiaaGreatDoor
open Go Go.RowKit Go.Shelf

set_option maxRecDepth 100000 in
theorem rsign_any (op : Int) (h1 : 1 ≤ op) (h2 : op ≤ 6) (w : World) : Calls Tryz.prog 54 #[.int .i64 op] w (fun e w' => e = .returned (.string (sgnO op)) ∧ Below w.heap.size w w') := by
  have hk : op = 1 ∨ op = 2 ∨ op = 3 ∨ op = 4 ∨ op = 5 ∨ op = 6 := by omega
  rcases hk with rfl | rfl | rfl | rfl | rfl | rfl
  · go_enter Tryz.func54, Tryz.ntmps54
    go_wp2_with fail
    go_ret
    exact ⟨rfl, (Below.refl _ w).alloc (Nat.le_refl _) _⟩
  · go_enter Tryz.func54, Tryz.ntmps54
    go_wp2_with fail
    go_ret
    exact ⟨rfl, (Below.refl _ w).alloc (Nat.le_refl _) _⟩
  · go_enter Tryz.func54, Tryz.ntmps54
    go_wp2_with fail
    go_ret
    exact ⟨rfl, (Below.refl _ w).alloc (Nat.le_refl _) _⟩
  · go_enter Tryz.func54, Tryz.ntmps54
    go_wp2_with fail
    go_ret
    exact ⟨rfl, (Below.refl _ w).alloc (Nat.le_refl _) _⟩
  · go_enter Tryz.func54, Tryz.ntmps54
    go_wp2_with fail
    go_ret
    exact ⟨rfl, (Below.refl _ w).alloc (Nat.le_refl _) _⟩
  · go_enter Tryz.func54, Tryz.ntmps54
    go_wp2_with fail
    go_ret
    exact ⟨rfl, (Below.refl _ w).alloc (Nat.le_refl _) _⟩
theorem kdc_of {w : World} {x : Nd} {k n : Int} {a2 a : Option Addr} {len2 c2 len c : Nat} (hty : x.ty = .C) (hin : NdIn w x [.int .i64 k, .int .i64 n, .slice a2 len2 c2, .slice a len c]) : kdN x = k := by
  obtain ⟨ty, k', n', nm, xs, cs, ts, es⟩ := x
  simp only [Nd.ty] at hty
  subst hty
  unfold NdIn at hin
  obtain ⟨-, -, -, -, vx, vc, vt, ve, hvs, -⟩ := hin
  simp only [lay, List.cons.injEq, Value.int.injEq, true_and] at hvs
  exact hvs.1.symm
/-- The document's text of a condition is told. -/
def RCond (w0 : World) (x : Nd) : Prop := ∀ us w, NdIn w0 x us → Below w0.heap.size w0 w → Calls Tryz.prog 27 #[.agg us.toArray] w (fun e w' => e = .returned (.string (bts (txtN x))) ∧ Below w.heap.size w w')

set_option maxRecDepth 100000 in
set_option maxHeartbeats 16000000 in
theorem rcond_any (w0 : World) : ∀ (N : Nat) (x : Nd), SizeOf.sizeOf x ≤ N → x.ty = .C → goodT x → cstN x ≤ 1099511627776 → RCond w0 x := by
  intro N
  induction N with
  | zero =>
    intro x hN
    obtain ⟨ty, k, n, nm, xs, cs, ts, es⟩ := x
    simp only [Nd.mk.sizeOf_spec] at hN
    omega
  | succ N ih =>
    intro x hN hty hg hcost us w hin hw
    obtain ⟨ty, k, n, nm, xs, cs, ts, es⟩ := x
    simp only [Nd.mk.sizeOf_spec] at hN
    simp only [Nd.ty] at hty
    subst hty
    unfold cstN at hcost
    have hch := fun i (hi : i < cs.length) => ih cs[i] (by have := List.sizeOf_lt_of_mem (List.getElem_mem (l := cs) (n := i) hi); omega)
    unfold goodT at hg
    obtain ⟨⟨hk1, hk2, hk3, hk4, hk6⟩, hgx, hgc⟩ := hg
    have hcw := fun i (hi : i < cs.length) => hch i hi (goodTL_at hgc i hi).1 (goodTL_at hgc i hi).2 (by have := cstL_at cs i hi; omega)
    have hcl := fun i (hi : i < cs.length) => txt_le _ cs[i] (Nat.le_refl _) (goodTL_at hgc i hi).2 (.inr (goodTL_at hgc i hi).1)
    have hct := fun i (hi : i < cs.length) => (goodTL_at hgc i hi).1
    have hcc := cstL_at cs
    have hec := cstL_at xs
    have hew := fun i (hi : i < xs.length) => rexpr_any w0 _ xs[i] (Nat.le_refl _) (goodTL_at hgx i hi).1 (goodTL_at hgx i hi).2 (by have := cstL_at xs i hi; omega)
    have hel := fun i (hi : i < xs.length) => txt_le _ xs[i] (Nat.le_refl _) (goodTL_at hgx i hi).2 (.inl (goodTL_at hgx i hi).1)
    clear ih hch hgx hgc hN
    unfold NdIn at hin
    obtain ⟨hz, -, -, -, vx, vc, vt, ve, rfl, hxs, hcs, -⟩ := hin
    simp only [fits] at hz
    obtain ⟨rfl, rfl, rfl⟩ := hz
    obtain ⟨a2, c2, rfl, hlc2, hcm2, hrow2⟩ := hxs
    obtain ⟨a, c, rfl, hlc, hcm, hrow⟩ := hcs
    change Calls _ _ #[.agg #[.int .i64 k, .int .i64 n, .slice a2 xs.length c2, .slice a cs.length c]] w _
    obtain ⟨W1, hW1⟩ : ∃ W1, w.alloc (.cells #[.int .i64 k, .int .i64 n, .slice a2 xs.length c2, .slice a cs.length c] 82) = W1 := ⟨_, rfl⟩
    obtain ⟨X, hX⟩ : ∃ X, w.heap.size = X := ⟨_, rfl⟩
    have hX1 : Blk W1 X #[.int .i64 k, .int .i64 n, .slice a2 xs.length c2, .slice a cs.length c] 82 := by rw [← hW1, ← hX]; exact Blk.new w _ _
    have hk1' : Below w.heap.size w W1 := by rw [← hW1]; exact (Below.refl _ _).alloc (Nat.le_refl _) _
    have hw1 : Below w0.heap.size w0 W1 := hw.trans (hk1'.mono hw.size)
    have m0 : W1.cell? ⟨X, 0, none⟩ = some (.int .i64 k) := hX1.cell 0
    have m1 : W1.cell? ⟨X, 1, none⟩ = some (.int .i64 n) := hX1.cell 1
    have m2 : W1.cell? ⟨X, 2, none⟩ = some (.slice a2 xs.length c2) := hX1.cell 2
    have m3 : W1.cell? ⟨X, 3, none⟩ = some (.slice a cs.length c) := hX1.cell 3
    have HX1 := Lib.hid hX1; clear hX1
    have HK1 := Lib.hid hk1'; clear hk1'
    have HOLD := Lib.hid hw1; clear hw1 hw
    have HW1 := Lib.hid hW1; clear hW1
    have HXX := Lib.hid hX; clear hX
    have HROW := Lib.hid hrow; clear hrow
    have HROW2 := Lib.hid hrow2; clear hrow2
    have HCW := Lib.hid hcw; clear hcw
    have HCL := Lib.hid hcl; clear hcl
    have HCT := Lib.hid hct; clear hct
    have HCC := Lib.hid hcc; clear hcc
    have HEW := Lib.hid hew; clear hew
    have HEL := Lib.hid hel; clear hel
    have HEC := Lib.hid hec; clear hec
    go_enter Tryz.func27, Tryz.ntmps27
    go_upto_region 1 with fail
    rw [HW1.out, HXX.out]
    clear HW1
    by_cases q1 : k = 1
    · subst q1
      go_wp2_with fail
      go_ret
      exact ⟨by rw [txc_1]; rfl, HK1.out⟩
    have t1 : (k == 1) = false := by simpa using q1
    by_cases q2 : k = 2
    · subst q2
      go_wp2_with fail
      go_ret
      exact ⟨by rw [txc_2]; rfl, HK1.out⟩
    have t2 : (k == 2) = false := by simpa using q2
    by_cases q3 : k = 3
    · obtain ⟨hl1, hn1, hn6⟩ := hk3 q3
      subst q3
      have h0 : 0 < xs.length := by omega
      have h1 : 1 < xs.length := by omega
      obtain ⟨b0, o0, rfl, hrow⟩ := HROW2.out.resolve_left (by omega)
      obtain ⟨ck, cn, cs0, ca, cl, cc, hnd, g0, g1, g2, g3⟩ := item_at hrow HOLD.out 0 h0
      obtain ⟨dk, dn, ds, da, dl, dc, hnd2, f0, f1, f2, f3⟩ := item_at hrow HOLD.out 1 h1
      simp only [Nat.zero_mul, Nat.one_mul, Nat.add_zero] at g0 g1 g2 g3 f0 f1 f2 f3
      have hcx := HEC.out 0 h0
      have hle := HEL.out 0 h0
      have hcx2 := HEC.out 1 h1
      have hle2 := HEL.out 1 h1
      have HC := Lib.hid (HEW.out 0 h0 _ W1.drew hnd HOLD.out.drew)
      have HC2 := Lib.hid (fun v hv => HEW.out 1 h1 _ v hnd2 (below_next HOLD.out hv))
      have HSG := Lib.hid (fun v => rsign_any n hn1 hn6 v)
      have hso : (sgnO n).size ≤ 2 := by
        have hk : n = 1 ∨ n = 2 ∨ n = 3 ∨ n = 4 ∨ n = 5 ∨ n = 6 := by omega
        rcases hk with rfl | rfl | rfl | rfl | rfl | rfl <;> decide
      have hfin : bts (txtN xs[0]) ++ ⟨#[32]⟩ ++ sgnO n ++ ⟨#[32]⟩ ++ bts (txtN xs[1]) = bts (txtN (.mk .C 3 n ⟨#[]⟩ xs cs [] [])) := by
        rw [txc_3 _ _ _ _ _ _ h0 h1, show (⟨#[32]⟩ : ByteArray) = bts [32] from rfl]
        conv => lhs; rw [bts_of (sgnO n)]
        rw [bts_app, bts_app, bts_app, bts_app]
        simp
      have hz := bts_size (txtN xs[0])
      have hz2 := bts_size (txtN xs[1])
      obtain ⟨C0, hC0⟩ : ∃ C, bts (txtN xs[0]) = C := ⟨_, rfl⟩
      obtain ⟨C2, hC2⟩ : ∃ C, bts (txtN xs[1]) = C := ⟨_, rfl⟩
      obtain ⟨G, hG⟩ : ∃ C, sgnO n = C := ⟨_, rfl⟩
      rw [hC0] at HC hfin hz
      rw [hC2] at HC2 hfin hz2
      rw [hG] at HSG hfin hso
      have u1 : ¬ 9223372036854775807 < C0.size + 1 := by omega
      have u1b : ¬ 9223372036854775807 ≤ C0.size := by omega
      have u2 : ¬ 9223372036854775807 < C0.size + 1 + G.size := by omega
      have u3 : ¬ 9223372036854775807 < C0.size + 1 + G.size + 1 := by omega
      have u3b : ¬ 9223372036854775807 ≤ C0.size + 1 + G.size := by omega
      have u4 : ¬ 9223372036854775807 < C0.size + 1 + G.size + 1 + C2.size := by omega
      have HF := Lib.hid hfin; clear hfin hnd hnd2 hrow hC0 hC2 hG hz hz2 hcx hle hcx2 hle2 hso
      have hx1 : (0 : Int) < xs.length := by omega
      have hx2 : (1 : Int) < xs.length := by omega
      have KS := fun w' (hW : Below W1.heap.size W1 w') => (⟨(HX1.out.below hW HX1.out.lt).cell 1, (HX1.out.below hW HX1.out.lt).cell 2, keeps_below hW _ _ _ g0, keeps_below hW _ _ _ g1, keeps_below hW _ _ _ g2, keeps_below hW _ _ _ g3, keeps_below hW _ _ _ f0, keeps_below hW _ _ _ f1, keeps_below hW _ _ _ f2, keeps_below hW _ _ _ f3, hW⟩ : w'.cell? ⟨X, 1, none⟩ = some (.int .i64 n) ∧ w'.cell? ⟨X, 2, none⟩ = some (.slice (some ⟨b0, o0, none⟩) xs.length c2) ∧ w'.cell? ⟨b0, o0, none⟩ = some (.int .i64 ck) ∧ w'.cell? ⟨b0, o0 + 1, none⟩ = some (.int .i64 cn) ∧ w'.cell? ⟨b0, o0 + 2, none⟩ = some (.string cs0) ∧ w'.cell? ⟨b0, o0 + 3, none⟩ = some (.slice ca cl cc) ∧ w'.cell? ⟨b0, o0 + 4, none⟩ = some (.int .i64 dk) ∧ w'.cell? ⟨b0, o0 + 4 + 1, none⟩ = some (.int .i64 dn) ∧ w'.cell? ⟨b0, o0 + 4 + 2, none⟩ = some (.string ds) ∧ w'.cell? ⟨b0, o0 + 4 + 3, none⟩ = some (.slice da dl dc) ∧ Below W1.heap.size W1 w')
      have KH := Lib.hid KS; clear KS hl1 hk6 hk4 hk3
      go_upto_region 7 with fail
      go_region_held3 (fun w' => w'.cell? ⟨X, 1, none⟩ = some (.int .i64 n) ∧ w'.cell? ⟨X, 2, none⟩ = some (.slice (some ⟨b0, o0, none⟩) xs.length c2) ∧ w'.cell? ⟨b0, o0, none⟩ = some (.int .i64 ck) ∧ w'.cell? ⟨b0, o0 + 1, none⟩ = some (.int .i64 cn) ∧ w'.cell? ⟨b0, o0 + 2, none⟩ = some (.string cs0) ∧ w'.cell? ⟨b0, o0 + 3, none⟩ = some (.slice ca cl cc) ∧ w'.cell? ⟨b0, o0 + 4, none⟩ = some (.int .i64 dk) ∧ w'.cell? ⟨b0, o0 + 4 + 1, none⟩ = some (.int .i64 dn) ∧ w'.cell? ⟨b0, o0 + 4 + 2, none⟩ = some (.string ds) ∧ w'.cell? ⟨b0, o0 + 4 + 3, none⟩ = some (.slice da dl dc) ∧ Below W1.heap.size W1 w')
        ((with_reducible refine KH.out _ ?_; repeat (with_reducible (first | exact Below.refl _ W1 | refine below_drew ?_ | refine below_next ?_ hb4 | refine below_next ?_ hb3 | refine below_next ?_ hb2 | fail))))
        (first | (go_at_call 26; (with_reducible refine HC.out.mono ?_); rintro e w2 ⟨rfl, hb2⟩) | (go_at_call 54; (with_reducible refine (HSG.out _).mono ?_); rintro e w3 ⟨rfl, hb3⟩) | (go_at_call 26; (with_reducible refine (HC2.out _ (by repeat (with_reducible (first | exact Below.refl _ W1 | refine below_drew ?_ | refine below_next ?_ hb4 | refine below_next ?_ hb3 | refine below_next ?_ hb2 | fail)))).mono ?_); rintro e w4 ⟨rfl, hb4⟩) | fail)
      all_goals
        go_wp2_with fail
        go_ret
        exact ⟨by rw [← HF.out]; rfl, (by repeat (with_reducible (first | exact HK1.out.drew | refine below_drew ?_ | refine below_next ?_ hb4 | refine below_next ?_ hb3 | refine below_next ?_ hb2 | fail)))⟩
    have t3 : (k == 3) = false := by simpa using q3
    by_cases q4 : k = 4
    · have hl1 := hk4 q4
      subst q4
      have h0 : 0 < cs.length := by omega
      obtain ⟨b0, o0, rfl, hrow⟩ := HROW.out.resolve_left (by omega)
      obtain ⟨ck, cn, ca2, cl2, cc2, ca, cl, cc, hnd, g0, g1, g2, g3⟩ := citem_at hrow HOLD.out 0 h0
      simp only [Nat.zero_mul, Nat.add_zero] at g0 g1 g2 g3
      have hcx := HCC.out 0 h0
      have hle := HCL.out 0 h0
      have hkd := kdc_of (HCT.out 0 h0) hnd
      have HC := Lib.hid (HCW.out 0 h0 _ W1.drew hnd HOLD.out.drew)
      have HL := Lib.hid (fun W => rank_any ck cn ca2 ca cl2 cc2 cl cc W)
      have hfin : ⟨#[33]⟩ ++ bts (par (decide (levC ck < 3)) ⟨#[91]⟩ ⟨#[93]⟩ (txtN cs[0])) = bts (txtN (.mk .C 4 n ⟨#[]⟩ xs cs [] [])) := by
        rw [txc_4 _ _ _ _ _ _ h0, hkd, show (⟨#[33]⟩ : ByteArray) = bts [33] from rfl, bts_app]
      obtain ⟨L, hL⟩ : ∃ L, levC ck = L := ⟨_, rfl⟩
      rw [hL] at HL hfin
      obtain ⟨D, hD⟩ : ∃ D, decide (L < 3) = D := ⟨_, rfl⟩
      rw [hD] at hfin
      have hz := bts_size (par D ⟨#[91]⟩ ⟨#[93]⟩ (txtN cs[0]))
      have hp := par_len D ⟨#[91]⟩ ⟨#[93]⟩ (txtN cs[0]) rfl rfl
      have h41 : (⟨#[91]⟩ : ByteArray).size = 1 := rfl
      have h42 : (⟨#[93]⟩ : ByteArray).size = 1 := rfl
      have HS := Lib.hid (fun W => closed2_any (txtN cs[0]) D ⟨#[91]⟩ ⟨#[93]⟩ W (by omega))
      obtain ⟨P0, hP0⟩ : ∃ P, bts (par D ⟨#[91]⟩ ⟨#[93]⟩ (txtN cs[0])) = P := ⟨_, rfl⟩
      rw [hP0] at HS hfin hz
      obtain ⟨C0, hC0⟩ : ∃ C, bts (txtN cs[0]) = C := ⟨_, rfl⟩
      rw [hC0] at HC HS
      have u1 : ¬ 9223372036854775807 < 1 + P0.size := by omega
      have u1b : ¬ 9223372036854775807 ≤ P0.size := by omega
      have u1c : ¬ 9223372036854775807 < P0.size + 1 := by omega
      have HF := Lib.hid hfin; clear hfin hnd hrow hC0 hz hP0 hL hkd hp hcx hle hk6 hk4 hk3
      have hx1 : (0 : Int) < cs.length := by omega
      have KS := fun w' (hW : Below W1.heap.size W1 w') => (⟨(HX1.out.below hW HX1.out.lt).cell 3, keeps_below hW _ _ _ g0, keeps_below hW _ _ _ g1, keeps_below hW _ _ _ g2, keeps_below hW _ _ _ g3, hW⟩ : w'.cell? ⟨X, 3, none⟩ = some (.slice (some ⟨b0, o0, none⟩) cs.length c) ∧ w'.cell? ⟨b0, o0, none⟩ = some (.int .i64 ck) ∧ w'.cell? ⟨b0, o0 + 1, none⟩ = some (.int .i64 cn) ∧ w'.cell? ⟨b0, o0 + 2, none⟩ = some (.slice ca2 cl2 cc2) ∧ w'.cell? ⟨b0, o0 + 3, none⟩ = some (.slice ca cl cc) ∧ Below W1.heap.size W1 w')
      have KH := Lib.hid KS; clear KS
      go_upto_region 9 with fail
      go_region_held3 (fun w' => w'.cell? ⟨X, 3, none⟩ = some (.slice (some ⟨b0, o0, none⟩) cs.length c) ∧ w'.cell? ⟨b0, o0, none⟩ = some (.int .i64 ck) ∧ w'.cell? ⟨b0, o0 + 1, none⟩ = some (.int .i64 cn) ∧ w'.cell? ⟨b0, o0 + 2, none⟩ = some (.slice ca2 cl2 cc2) ∧ w'.cell? ⟨b0, o0 + 3, none⟩ = some (.slice ca cl cc) ∧ Below W1.heap.size W1 w')
        ((with_reducible refine KH.out _ ?_; repeat (with_reducible (first | exact Below.refl _ W1 | refine below_drew ?_ | refine below_next ?_ hb4 | refine below_next ?_ hb3 | refine below_next ?_ hb2 | fail))))
        (first | (go_at_call 27; (with_reducible refine HC.out.mono ?_); rintro e w2 ⟨rfl, hb2⟩) | (go_at_call 55; (with_reducible refine (HL.out _).mono ?_); rintro e w3 ⟨rfl, hb3⟩) | (go_at_call 52; (with_reducible refine (HS.out _).mono ?_); rintro e w4 ⟨rfl, hb4⟩) | fail)
      all_goals
        go_wp2_with fail
        go_ret
        exact ⟨by rw [← HF.out]; rfl, (by repeat (with_reducible (first | exact HK1.out.drew | refine below_drew ?_ | refine below_next ?_ hb4 | refine below_next ?_ hb3 | refine below_next ?_ hb2 | fail)))⟩
    have t4 : (k == 4) = false := by simpa using q4
    have hl2 := hk6 (by omega)
    have h0 : 0 < cs.length := by omega
    have h1 : 1 < cs.length := by omega
    obtain ⟨b0, o0, rfl, hrow⟩ := HROW.out.resolve_left (by omega)
    obtain ⟨ck, cn, ca2, cl2, cc2, ca, cl, cc, hnd, g0, g1, g2, g3⟩ := citem_at hrow HOLD.out 0 h0
    obtain ⟨dk, dn, da2, dl2, dc2, da, dl, dc, hnd2, f0, f1, f2, f3⟩ := citem_at hrow HOLD.out 1 h1
    simp only [Nat.zero_mul, Nat.one_mul, Nat.add_zero] at g0 g1 g2 g3 f0 f1 f2 f3
    have hkd := kdc_of (HCT.out 0 h0) hnd
    have hkd2 := kdc_of (HCT.out 1 h1) hnd2
    have hcx := HCC.out 0 h0
    have hle := HCL.out 0 h0
    have hcx2 := HCC.out 1 h1
    have hle2 := HCL.out 1 h1
    have hfin : ∀ sg, sg = bts (([32] : List UInt8) ++ ((sgnC k).data.toList ++ ([32] : List UInt8))) → bts (par (decide (levC ck < levC k)) ⟨#[91]⟩ ⟨#[93]⟩ (txtN cs[0])) ++ sg ++ bts (par (decide (levC dk ≤ levC k)) ⟨#[91]⟩ ⟨#[93]⟩ (txtN cs[1])) = bts (txtN (.mk .C k n ⟨#[]⟩ xs cs [] [])) := by
      rintro sg rfl
      rw [txc_e _ _ _ _ _ _ _ h0 h1 ⟨q1, q2, q3, q4⟩, hkd, hkd2, show decide (levC dk < levC k + 1) = decide (levC dk ≤ levC k) from by simp [Int.lt_add_one_iff], bts_app, bts_app, List.append_assoc]
    have h41 : (⟨#[91]⟩ : ByteArray).size = 1 := rfl
    have h42 : (⟨#[93]⟩ : ByteArray).size = 1 := rfl
    have HC := Lib.hid (HCW.out 0 h0 _ W1.drew hnd HOLD.out.drew)
    have HN2 := Lib.hid hnd2; clear hnd2
    have HL := Lib.hid (fun W => rank_any ck cn ca2 ca cl2 cc2 cl cc W)
    have HL2 := Lib.hid (fun W => rank_any dk dn da2 da dl2 dc2 dl dc W)
    have HO := Lib.hid (fun W => rank_any k n a2 (some ⟨b0, o0, none⟩) xs.length c2 cs.length c W)
    obtain ⟨L, hL⟩ : ∃ L, levC ck = L := ⟨_, rfl⟩
    obtain ⟨L2, hL2⟩ : ∃ L, levC dk = L := ⟨_, rfl⟩
    obtain ⟨M, hM⟩ : ∃ L, levC k = L := ⟨_, rfl⟩
    rw [hL] at HL hfin
    rw [hL2] at HL2 hfin
    rw [hM] at HO hfin
    obtain ⟨D, hD⟩ : ∃ D, decide (L < M) = D := ⟨_, rfl⟩
    obtain ⟨D2, hD2⟩ : ∃ D, decide (L2 ≤ M) = D := ⟨_, rfl⟩
    rw [hD, hD2] at hfin
    have hz := bts_size (par D ⟨#[91]⟩ ⟨#[93]⟩ (txtN cs[0]))
    have hp := par_len D ⟨#[91]⟩ ⟨#[93]⟩ (txtN cs[0]) rfl rfl
    have HS := Lib.hid (fun W => closed2_any (txtN cs[0]) D ⟨#[91]⟩ ⟨#[93]⟩ W (by omega))
    have hz2 := bts_size (par D2 ⟨#[91]⟩ ⟨#[93]⟩ (txtN cs[1]))
    have hp2 := par_len D2 ⟨#[91]⟩ ⟨#[93]⟩ (txtN cs[1]) rfl rfl
    have HS2 := Lib.hid (fun W => closed2_any (txtN cs[1]) D2 ⟨#[91]⟩ ⟨#[93]⟩ W (by omega))
    obtain ⟨P0, hP0⟩ : ∃ P, bts (par D ⟨#[91]⟩ ⟨#[93]⟩ (txtN cs[0])) = P := ⟨_, rfl⟩
    obtain ⟨P2, hP2⟩ : ∃ P, bts (par D2 ⟨#[91]⟩ ⟨#[93]⟩ (txtN cs[1])) = P := ⟨_, rfl⟩
    rw [hP0] at HS hfin hz
    rw [hP2] at HS2 hfin hz2
    obtain ⟨C0, hC0⟩ : ∃ C, bts (txtN cs[0]) = C := ⟨_, rfl⟩
    rw [hC0] at HC HS
    have hn1 : P0.size + 4 ≤ 9223372036854775807 := by omega
    have hn2 : P0.size + 4 + P2.size ≤ 9223372036854775807 := by omega
    have hn1b : ¬ 9223372036854775807 < P0.size + 4 := by omega
    have hn2b : ¬ 9223372036854775807 < P0.size + 4 + P2.size := by omega
    have HF := Lib.hid hfin; clear hfin hnd hrow hC0 hz hP0 hL hkd hp hcx hle hz2 hP2 hL2 hkd2 hp2 hcx2 hle2 hM
    have hx1 : (0 : Int) < cs.length := by omega
    have hx2 : (1 : Int) < cs.length := by omega
    have hk : k = 5 ∨ k = 6 := by omega
    clear hl2 hk6 hk4 hk3
    rcases hk with rfl | rfl
    · have KS0 := fun w' (hW : Below W1.heap.size W1 w') => (⟨(HX1.out.below hW HX1.out.lt).cell 0, (HX1.out.below hW HX1.out.lt).cell 1, (HX1.out.below hW HX1.out.lt).cell 2, (HX1.out.below hW HX1.out.lt).cell 3, keeps_below hW _ _ _ g0, keeps_below hW _ _ _ g1, keeps_below hW _ _ _ g2, keeps_below hW _ _ _ g3, hW⟩ : w'.cell? ⟨X, 0, none⟩ = some (.int .i64 5) ∧ w'.cell? ⟨X, 1, none⟩ = some (.int .i64 n) ∧ w'.cell? ⟨X, 2, none⟩ = some (.slice a2 xs.length c2) ∧ w'.cell? ⟨X, 3, none⟩ = some (.slice (some ⟨b0, o0, none⟩) cs.length c) ∧ w'.cell? ⟨b0, o0, none⟩ = some (.int .i64 ck) ∧ w'.cell? ⟨b0, o0 + 1, none⟩ = some (.int .i64 cn) ∧ w'.cell? ⟨b0, o0 + 2, none⟩ = some (.slice ca2 cl2 cc2) ∧ w'.cell? ⟨b0, o0 + 3, none⟩ = some (.slice ca cl cc) ∧ Below W1.heap.size W1 w')
      have KS1 := fun wc (hc : Below W1.heap.size W1 wc) w' (hW : Below wc.heap.size wc w') => (⟨(HX1.out.below (below_next hc hW) HX1.out.lt).cell 0, (HX1.out.below (below_next hc hW) HX1.out.lt).cell 1, (HX1.out.below (below_next hc hW) HX1.out.lt).cell 2, (HX1.out.below (below_next hc hW) HX1.out.lt).cell 3, keeps_below (below_next hc hW) _ _ _ f0, keeps_below (below_next hc hW) _ _ _ f1, keeps_below (below_next hc hW) _ _ _ f2, keeps_below (below_next hc hW) _ _ _ f3, hW⟩ : w'.cell? ⟨X, 0, none⟩ = some (.int .i64 5) ∧ w'.cell? ⟨X, 1, none⟩ = some (.int .i64 n) ∧ w'.cell? ⟨X, 2, none⟩ = some (.slice a2 xs.length c2) ∧ w'.cell? ⟨X, 3, none⟩ = some (.slice (some ⟨b0, o0, none⟩) cs.length c) ∧ w'.cell? ⟨b0, o0 + 4, none⟩ = some (.int .i64 dk) ∧ w'.cell? ⟨b0, o0 + 4 + 1, none⟩ = some (.int .i64 dn) ∧ w'.cell? ⟨b0, o0 + 4 + 2, none⟩ = some (.slice da2 dl2 dc2) ∧ w'.cell? ⟨b0, o0 + 4 + 3, none⟩ = some (.slice da dl dc) ∧ Below wc.heap.size wc w')
      have KH := Lib.hid KS0; clear KS0
      have KH1 := Lib.hid KS1; clear KS1
      clear g0 g1 g2 g3 f0 f1 f2 f3
      go_upto_region 13 with fail
      clear m0 m1 m2 m3
      go_cut [4] (fun s wx => s = .string P0 ∧ Below W1.heap.size W1 wx)
      case first =>
        go_region_held3 (fun w' => w'.cell? ⟨X, 0, none⟩ = some (.int .i64 5) ∧ w'.cell? ⟨X, 1, none⟩ = some (.int .i64 n) ∧ w'.cell? ⟨X, 2, none⟩ = some (.slice a2 xs.length c2) ∧ w'.cell? ⟨X, 3, none⟩ = some (.slice (some ⟨b0, o0, none⟩) cs.length c) ∧ w'.cell? ⟨b0, o0, none⟩ = some (.int .i64 ck) ∧ w'.cell? ⟨b0, o0 + 1, none⟩ = some (.int .i64 cn) ∧ w'.cell? ⟨b0, o0 + 2, none⟩ = some (.slice ca2 cl2 cc2) ∧ w'.cell? ⟨b0, o0 + 3, none⟩ = some (.slice ca cl cc) ∧ Below W1.heap.size W1 w')
          ((with_reducible refine KH.out _ ?_; repeat (with_reducible (first | exact Below.refl _ W1 | refine below_drew ?_ | refine below_next ?_ hb5 | refine below_next ?_ hb4 | refine below_next ?_ hb3 | refine below_next ?_ hb2 | fail))))
          (first | (go_at_call 27; (with_reducible refine HC.out.mono ?_); rintro e w2 ⟨rfl, hb2⟩) | (go_at_call 55; (with_reducible refine (HL.out _).mono ?_); rintro e w3 ⟨rfl, hb3⟩) | (go_at_call 55; (with_reducible refine (HO.out _).mono ?_); rintro e w4 ⟨rfl, hb4⟩) | (go_at_call 52; (with_reducible refine (HS.out _).mono ?_); rintro e w5 ⟨rfl, hb5⟩) | fail)
        all_goals
          go_wp2_with fail
          go_meet
          exact ⟨rfl, (by repeat (with_reducible (first | exact Below.refl _ W1 | refine below_drew ?_ | refine below_next ?_ hb5 | refine below_next ?_ hb4 | refine below_next ?_ hb3 | refine below_next ?_ hb2 | fail)))⟩
      case rest =>
        obtain ⟨rfl, hb⟩ := hcut
        have HC2 := Lib.hid (HCW.out 1 h1 _ wc.drew HN2.out (below_next HOLD.out hb).drew)
        obtain ⟨C2, hC2⟩ : ∃ C, bts (txtN cs[1]) = C := ⟨_, rfl⟩
        rw [hC2] at HC2 HS2
        clear hC2
        have KS2 := fun w' hW => KH1.out wc hb w' hW
        have KH := Lib.hid KS2; clear KS2
        have HBL := Lib.hid hb; clear hb
        clear HC HS HL hD
        go_upto_region 14 with fail
        go_cut [5] (fun s wx => s = .string P2 ∧ Below wc.heap.size wc wx)
        case first =>
          go_region_held3 (fun w' => w'.cell? ⟨X, 0, none⟩ = some (.int .i64 5) ∧ w'.cell? ⟨X, 1, none⟩ = some (.int .i64 n) ∧ w'.cell? ⟨X, 2, none⟩ = some (.slice a2 xs.length c2) ∧ w'.cell? ⟨X, 3, none⟩ = some (.slice (some ⟨b0, o0, none⟩) cs.length c) ∧ w'.cell? ⟨b0, o0 + 4, none⟩ = some (.int .i64 dk) ∧ w'.cell? ⟨b0, o0 + 4 + 1, none⟩ = some (.int .i64 dn) ∧ w'.cell? ⟨b0, o0 + 4 + 2, none⟩ = some (.slice da2 dl2 dc2) ∧ w'.cell? ⟨b0, o0 + 4 + 3, none⟩ = some (.slice da dl dc) ∧ Below wc.heap.size wc w')
            ((with_reducible refine KH.out _ ?_; repeat (with_reducible (first | exact Below.refl _ wc | refine below_drew ?_ | refine below_next ?_ hb5 | refine below_next ?_ hb4 | refine below_next ?_ hb3 | refine below_next ?_ hb2 | fail))))
            (first | (go_at_call 27; (with_reducible refine HC2.out.mono ?_); rintro e w2 ⟨rfl, hb2⟩) | (go_at_call 55; (with_reducible refine (HL2.out _).mono ?_); rintro e w3 ⟨rfl, hb3⟩) | (go_at_call 55; (with_reducible refine (HO.out _).mono ?_); rintro e w4 ⟨rfl, hb4⟩) | (go_at_call 52; (with_reducible refine (HS2.out _).mono ?_); rintro e w5 ⟨rfl, hb5⟩) | fail)
          all_goals
            go_wp2_with fail
            go_meet
            exact ⟨rfl, (by repeat (with_reducible (first | exact Below.refl _ wc | refine below_drew ?_ | refine below_next ?_ hb5 | refine below_next ?_ hb4 | refine below_next ?_ hb3 | refine below_next ?_ hb2 | fail)))⟩
        case rest =>
          obtain ⟨rfl, hb2⟩ := hcut
          have HBE := Lib.hid (below_next HBL.out hb2); clear HC2 HS2 HL2 hD2
          go_wp2_with fail
          go_ret
          exact ⟨by rw [← HF.out _ (by rfl)]; rfl, below_next HK1.out HBE.out⟩
    · have KS0 := fun w' (hW : Below W1.heap.size W1 w') => (⟨(HX1.out.below hW HX1.out.lt).cell 0, (HX1.out.below hW HX1.out.lt).cell 1, (HX1.out.below hW HX1.out.lt).cell 2, (HX1.out.below hW HX1.out.lt).cell 3, keeps_below hW _ _ _ g0, keeps_below hW _ _ _ g1, keeps_below hW _ _ _ g2, keeps_below hW _ _ _ g3, hW⟩ : w'.cell? ⟨X, 0, none⟩ = some (.int .i64 6) ∧ w'.cell? ⟨X, 1, none⟩ = some (.int .i64 n) ∧ w'.cell? ⟨X, 2, none⟩ = some (.slice a2 xs.length c2) ∧ w'.cell? ⟨X, 3, none⟩ = some (.slice (some ⟨b0, o0, none⟩) cs.length c) ∧ w'.cell? ⟨b0, o0, none⟩ = some (.int .i64 ck) ∧ w'.cell? ⟨b0, o0 + 1, none⟩ = some (.int .i64 cn) ∧ w'.cell? ⟨b0, o0 + 2, none⟩ = some (.slice ca2 cl2 cc2) ∧ w'.cell? ⟨b0, o0 + 3, none⟩ = some (.slice ca cl cc) ∧ Below W1.heap.size W1 w')
      have KS1 := fun wc (hc : Below W1.heap.size W1 wc) w' (hW : Below wc.heap.size wc w') => (⟨(HX1.out.below (below_next hc hW) HX1.out.lt).cell 0, (HX1.out.below (below_next hc hW) HX1.out.lt).cell 1, (HX1.out.below (below_next hc hW) HX1.out.lt).cell 2, (HX1.out.below (below_next hc hW) HX1.out.lt).cell 3, keeps_below (below_next hc hW) _ _ _ f0, keeps_below (below_next hc hW) _ _ _ f1, keeps_below (below_next hc hW) _ _ _ f2, keeps_below (below_next hc hW) _ _ _ f3, hW⟩ : w'.cell? ⟨X, 0, none⟩ = some (.int .i64 6) ∧ w'.cell? ⟨X, 1, none⟩ = some (.int .i64 n) ∧ w'.cell? ⟨X, 2, none⟩ = some (.slice a2 xs.length c2) ∧ w'.cell? ⟨X, 3, none⟩ = some (.slice (some ⟨b0, o0, none⟩) cs.length c) ∧ w'.cell? ⟨b0, o0 + 4, none⟩ = some (.int .i64 dk) ∧ w'.cell? ⟨b0, o0 + 4 + 1, none⟩ = some (.int .i64 dn) ∧ w'.cell? ⟨b0, o0 + 4 + 2, none⟩ = some (.slice da2 dl2 dc2) ∧ w'.cell? ⟨b0, o0 + 4 + 3, none⟩ = some (.slice da dl dc) ∧ Below wc.heap.size wc w')
      have KH := Lib.hid KS0; clear KS0
      have KH1 := Lib.hid KS1; clear KS1
      clear g0 g1 g2 g3 f0 f1 f2 f3
      go_upto_region 13 with fail
      clear m0 m1 m2 m3
      go_cut [4] (fun s wx => s = .string P0 ∧ Below W1.heap.size W1 wx)
      case first =>
        go_region_held3 (fun w' => w'.cell? ⟨X, 0, none⟩ = some (.int .i64 6) ∧ w'.cell? ⟨X, 1, none⟩ = some (.int .i64 n) ∧ w'.cell? ⟨X, 2, none⟩ = some (.slice a2 xs.length c2) ∧ w'.cell? ⟨X, 3, none⟩ = some (.slice (some ⟨b0, o0, none⟩) cs.length c) ∧ w'.cell? ⟨b0, o0, none⟩ = some (.int .i64 ck) ∧ w'.cell? ⟨b0, o0 + 1, none⟩ = some (.int .i64 cn) ∧ w'.cell? ⟨b0, o0 + 2, none⟩ = some (.slice ca2 cl2 cc2) ∧ w'.cell? ⟨b0, o0 + 3, none⟩ = some (.slice ca cl cc) ∧ Below W1.heap.size W1 w')
          ((with_reducible refine KH.out _ ?_; repeat (with_reducible (first | exact Below.refl _ W1 | refine below_drew ?_ | refine below_next ?_ hb5 | refine below_next ?_ hb4 | refine below_next ?_ hb3 | refine below_next ?_ hb2 | fail))))
          (first | (go_at_call 27; (with_reducible refine HC.out.mono ?_); rintro e w2 ⟨rfl, hb2⟩) | (go_at_call 55; (with_reducible refine (HL.out _).mono ?_); rintro e w3 ⟨rfl, hb3⟩) | (go_at_call 55; (with_reducible refine (HO.out _).mono ?_); rintro e w4 ⟨rfl, hb4⟩) | (go_at_call 52; (with_reducible refine (HS.out _).mono ?_); rintro e w5 ⟨rfl, hb5⟩) | fail)
        all_goals
          go_wp2_with fail
          go_meet
          exact ⟨rfl, (by repeat (with_reducible (first | exact Below.refl _ W1 | refine below_drew ?_ | refine below_next ?_ hb5 | refine below_next ?_ hb4 | refine below_next ?_ hb3 | refine below_next ?_ hb2 | fail)))⟩
      case rest =>
        obtain ⟨rfl, hb⟩ := hcut
        have HC2 := Lib.hid (HCW.out 1 h1 _ wc.drew HN2.out (below_next HOLD.out hb).drew)
        obtain ⟨C2, hC2⟩ : ∃ C, bts (txtN cs[1]) = C := ⟨_, rfl⟩
        rw [hC2] at HC2 HS2
        clear hC2
        have KS2 := fun w' hW => KH1.out wc hb w' hW
        have KH := Lib.hid KS2; clear KS2
        have HBL := Lib.hid hb; clear hb
        clear HC HS HL hD
        go_upto_region 14 with fail
        go_cut [5] (fun s wx => s = .string P2 ∧ Below wc.heap.size wc wx)
        case first =>
          go_region_held3 (fun w' => w'.cell? ⟨X, 0, none⟩ = some (.int .i64 6) ∧ w'.cell? ⟨X, 1, none⟩ = some (.int .i64 n) ∧ w'.cell? ⟨X, 2, none⟩ = some (.slice a2 xs.length c2) ∧ w'.cell? ⟨X, 3, none⟩ = some (.slice (some ⟨b0, o0, none⟩) cs.length c) ∧ w'.cell? ⟨b0, o0 + 4, none⟩ = some (.int .i64 dk) ∧ w'.cell? ⟨b0, o0 + 4 + 1, none⟩ = some (.int .i64 dn) ∧ w'.cell? ⟨b0, o0 + 4 + 2, none⟩ = some (.slice da2 dl2 dc2) ∧ w'.cell? ⟨b0, o0 + 4 + 3, none⟩ = some (.slice da dl dc) ∧ Below wc.heap.size wc w')
            ((with_reducible refine KH.out _ ?_; repeat (with_reducible (first | exact Below.refl _ wc | refine below_drew ?_ | refine below_next ?_ hb5 | refine below_next ?_ hb4 | refine below_next ?_ hb3 | refine below_next ?_ hb2 | fail))))
            (first | (go_at_call 27; (with_reducible refine HC2.out.mono ?_); rintro e w2 ⟨rfl, hb2⟩) | (go_at_call 55; (with_reducible refine (HL2.out _).mono ?_); rintro e w3 ⟨rfl, hb3⟩) | (go_at_call 55; (with_reducible refine (HO.out _).mono ?_); rintro e w4 ⟨rfl, hb4⟩) | (go_at_call 52; (with_reducible refine (HS2.out _).mono ?_); rintro e w5 ⟨rfl, hb5⟩) | fail)
          all_goals
            go_wp2_with fail
            go_meet
            exact ⟨rfl, (by repeat (with_reducible (first | exact Below.refl _ wc | refine below_drew ?_ | refine below_next ?_ hb5 | refine below_next ?_ hb4 | refine below_next ?_ hb3 | refine below_next ?_ hb2 | fail)))⟩
        case rest =>
          obtain ⟨rfl, hb2⟩ := hcut
          have HBE := Lib.hid (below_next HBL.out hb2); clear HC2 HS2 HL2 hD2
          go_wp2_with fail
          go_ret
          exact ⟨by rw [← HF.out _ (by rfl)]; rfl, below_next HK1.out HBE.out⟩
end Go.Proofs.YtbchibmmkmldiaaGreatDoor
