/-
  The document's text of an expression (gnomonref5's expr): proved is that it is the project's.
-/
import Derived.Test.YtbchibmmkmldiaaGreatDoorPrintR
import Derived.Test.YtbchibmmkmldiaaGreatDoorEqB
import Derived.Deep.RegionHeld3
namespace Go.Proofs.YtbchibmmkmldiaaGreatDoor
open Go Go.RowKit Go.Shelf

def bts (l : List UInt8) : ByteArray := ⟨l.toArray⟩
theorem bts_app (l m : List UInt8) : bts l ++ bts m = bts (l ++ m) := by
  apply ByteArray.ext
  rw [ByteArray.data_append]
  simp [bts]
theorem bts_size (l : List UInt8) : (bts l).size = l.length := by simp [bts, ByteArray.size]
theorem bts_of (s : ByteArray) : s = bts s.data.toList := by
  apply ByteArray.ext
  simp [bts]
set_option maxRecDepth 100000 in
theorem closed_any (s : ByteArray) (need : Bool) (o c : ByteArray) (w : World) (hlen : o.size + s.size + c.size ≤ 9223372036854775807) :
    Calls Tryz.prog 52 #[.string s, .bool need, .string o, .string c] w (fun e w' => e = .returned (.string (if need then o ++ s ++ c else s)) ∧ w' = w) := by
  have h1 : o.size + s.size ≤ 9223372036854775807 := by omega
  cases need with
  | false =>
    go_enter Tryz.func52, Tryz.ntmps52
    go_wp2_with fail
    go_ret
    exact ⟨rfl, rfl⟩
  | true =>
    go_enter Tryz.func52, Tryz.ntmps52
    go_wp2_with fail
    go_ret
    exact ⟨rfl, rfl⟩
theorem par_bts (b : Bool) (o c : ByteArray) (l : List UInt8) : (if b then o ++ bts l ++ c else bts l) = bts (par b o c l) := by
  cases b with
  | false => rfl
  | true =>
    simp only [if_true, par]
    rw [bts_of o, bts_of c, bts_app, bts_app]
    simp [bts]
theorem closed2_any (l : List UInt8) (need : Bool) (o c : ByteArray) (w : World) (hlen : o.size + l.length + c.size ≤ 9223372036854775807) :
    Calls Tryz.prog 52 #[.string (bts l), .bool need, .string o, .string c] w (fun e w' => e = .returned (.string (bts (par need o c l))) ∧ Below w.heap.size w w') := by
  refine (closed_any (bts l) need o c w (by rw [bts_size]; exact hlen)).mono ?_
  rintro e w' ⟨rfl, rfl⟩
  exact ⟨by rw [par_bts], Below.refl _ _⟩
theorem kd_of {w : World} {x : Nd} {k n : Int} {s : ByteArray} {a : Option Addr} {len c : Nat} (hty : x.ty = .E) (hin : NdIn w x [.int .i64 k, .int .i64 n, .string s, .slice a len c]) : kdN x = k := by
  obtain ⟨ty, k', n', nm, xs, cs, ts, es⟩ := x
  simp only [Nd.ty] at hty
  subst hty
  unfold NdIn at hin
  obtain ⟨-, -, -, -, vx, vc, vt, ve, hvs, -⟩ := hin
  simp only [lay, List.cons.injEq, Value.int.injEq, true_and] at hvs
  exact hvs.1.symm
/-- The document's text of a node is told. -/
def RExpr (w0 : World) (x : Nd) : Prop := ∀ us w, NdIn w0 x us → Below w0.heap.size w0 w → Calls Tryz.prog 26 #[.agg us.toArray] w (fun e w' => e = .returned (.string (bts (txtN x))) ∧ Below w.heap.size w w')

set_option maxRecDepth 100000 in
set_option maxHeartbeats 16000000 in
theorem rexpr_any (w0 : World) : ∀ (N : Nat) (x : Nd), SizeOf.sizeOf x ≤ N → x.ty = .E → goodT x → cstN x ≤ 1099511627776 → RExpr w0 x := by
  intro N
  induction N with
  | zero =>
    intro x hN
    obtain ⟨ty, k, n, nm, xs, cs, ts, es⟩ := x
    simp only [Nd.mk.sizeOf_spec] at hN
    omega
  | succ N ih =>
    intro x hN hty hg hcost us w hin hw
    obtain ⟨ty, k, n, nm, xs, cs, ts, es⟩ := x
    simp only [Nd.mk.sizeOf_spec] at hN
    simp only [Nd.ty] at hty
    subst hty
    unfold cstN at hcost
    have hch := fun i (hi : i < xs.length) => ih xs[i] (by have := List.sizeOf_lt_of_mem (List.getElem_mem (l := xs) (n := i) hi); omega)
    unfold goodT at hg
    obtain ⟨⟨hk1, hk2, hkn, hk4, hk6⟩, hgx, -⟩ := hg
    have hcw := fun i (hi : i < xs.length) => hch i hi (goodTL_at hgx i hi).1 (goodTL_at hgx i hi).2 (by have := cstL_at xs i hi; omega)
    have hcl := fun i (hi : i < xs.length) => txt_le _ xs[i] (Nat.le_refl _) (goodTL_at hgx i hi).2 (.inl (goodTL_at hgx i hi).1)
    have hct := fun i (hi : i < xs.length) => (goodTL_at hgx i hi).1
    have hcc := cstL_at xs
    clear ih hch hgx hN
    unfold NdIn at hin
    obtain ⟨hz, -, hn64, -, vx, vc, vt, ve, rfl, hxs, -⟩ := hin
    simp only [fits] at hz
    obtain ⟨rfl, rfl, rfl⟩ := hz
    obtain ⟨a, c, rfl, hlc, hcm, hrow⟩ := hxs
    change Calls _ _ #[.agg #[.int .i64 k, .int .i64 n, .string nm, .slice a xs.length c]] w _
    obtain ⟨W1, hW1⟩ : ∃ W1, w.alloc (.cells #[.int .i64 k, .int .i64 n, .string nm, .slice a xs.length c] 36) = W1 := ⟨_, rfl⟩
    obtain ⟨X, hX⟩ : ∃ X, w.heap.size = X := ⟨_, rfl⟩
    have hX1 : Blk W1 X #[.int .i64 k, .int .i64 n, .string nm, .slice a xs.length c] 36 := by rw [← hW1, ← hX]; exact Blk.new w _ _
    have hk1' : Below w.heap.size w W1 := by rw [← hW1]; exact (Below.refl _ _).alloc (Nat.le_refl _) _
    have hw1 : Below w0.heap.size w0 W1 := hw.trans (hk1'.mono hw.size)
    have m0 : W1.cell? ⟨X, 0, none⟩ = some (.int .i64 k) := hX1.cell 0
    have m1 : W1.cell? ⟨X, 1, none⟩ = some (.int .i64 n) := hX1.cell 1
    have m2 : W1.cell? ⟨X, 2, none⟩ = some (.string nm) := hX1.cell 2
    have m3 : W1.cell? ⟨X, 3, none⟩ = some (.slice a xs.length c) := hX1.cell 3
    have HX1 := Lib.hid hX1; clear hX1
    have HK1 := Lib.hid hk1'; clear hk1'
    have HOLD := Lib.hid hw1; clear hw1 hw
    have HW1 := Lib.hid hW1; clear hW1
    have HXX := Lib.hid hX; clear hX
    have HROW := Lib.hid hrow; clear hrow
    have HCW := Lib.hid hcw; clear hcw
    have HCL := Lib.hid hcl; clear hcl
    have HCT := Lib.hid hct; clear hct
    have HCC := Lib.hid hcc; clear hcc
    go_enter Tryz.func26, Tryz.ntmps26
    go_upto_region 1 with fail
    rw [HW1.out, HXX.out]
    clear HW1
    by_cases q1 : k = 1
    · subst q1
      have HF := Lib.hid (rdig_any n (hkn rfl).1 (by have h := hn64; unfold i64ok at h; simp [Lit.wf] at h; exact h.2) W1)
      go_wp2_with (first | (go_at_call 14; (with_reducible refine HF.out.mono ?_); rintro e w2 ⟨rfl, hb2⟩) | fail)
      go_ret
      exact ⟨by rw [txt_1]; rfl, below_next HK1.out hb2⟩
    have t1 : (k == 1) = false := by simpa using q1
    by_cases q2 : k = 2
    · subst q2
      go_wp2_with fail
      go_ret
      exact ⟨by rw [txt_2]; exact congrArg (fun b => Ending.returned (.string b)) (bts_of nm), HK1.out⟩
    have t2 : (k == 2) = false := by simpa using q2
    by_cases q3 : k = 3
    · subst q3
      go_wp2_with fail
      go_ret
      exact ⟨by rw [txt_3]; rfl, HK1.out⟩
    have t3 : (k == 3) = false := by simpa using q3
    by_cases q4 : k = 4
    · have hl1 := hk4 (.inl q4)
      subst q4
      have h0 : 0 < xs.length := by omega
      obtain ⟨b0, o0, rfl, hrow⟩ := HROW.out.resolve_left (by omega)
      obtain ⟨ck, cn, cs, ca, cl, cc, hnd, g0, g1, g2, g3⟩ := item_at hrow HOLD.out 0 h0
      simp only [Nat.zero_mul, Nat.add_zero] at g0 g1 g2 g3
      have hcx := HCC.out 0 h0
      have hle := HCL.out 0 h0
      have HC := Lib.hid (HCW.out 0 h0 _ W1.drew hnd HOLD.out.drew)
      have hfin : bts nm.data.toList ++ ⟨#[91]⟩ ++ bts (txtN xs[0]) ++ ⟨#[93]⟩ = bts (txtN (.mk .E 4 n nm xs [] [] [])) := by
        rw [txt_4 _ _ _ _ _ _ h0, show (⟨#[91]⟩ : ByteArray) = bts [91] from rfl, show (⟨#[93]⟩ : ByteArray) = bts [93] from rfl, bts_app, bts_app, bts_app]
        simp
      rw [← bts_of] at hfin
      have hz := bts_size (txtN xs[0])
      obtain ⟨C0, hC0⟩ : ∃ C, bts (txtN xs[0]) = C := ⟨_, rfl⟩
      rw [hC0] at HC hfin hz
      have hn1 : nm.size + 1 ≤ 9223372036854775807 := by omega
      have hn1b : nm.size < 9223372036854775807 := by omega
      have hn1c : ¬ 9223372036854775807 < nm.size + 1 := by omega
      have hn1d : ¬ 9223372036854775807 ≤ nm.size := by omega
      have hn3b : nm.size + 1 + C0.size < 9223372036854775807 := by omega
      have hn2c : ¬ 9223372036854775807 < nm.size + 1 + C0.size := by omega
      have hn3c : ¬ 9223372036854775807 < nm.size + 1 + C0.size + 1 := by omega
      have hn3d : ¬ 9223372036854775807 ≤ nm.size + 1 + C0.size := by omega
      have hn2 : nm.size + 1 + C0.size ≤ 9223372036854775807 := by omega
      have hn3 : nm.size + 1 + C0.size + 1 ≤ 9223372036854775807 := by omega
      have HF := Lib.hid hfin; clear hfin hnd hrow hC0 hz
      have hx1 : (0 : Int) < xs.length := by omega
      have KS := fun w' (hW : Below W1.heap.size W1 w') => (⟨(HX1.out.below hW HX1.out.lt).cell 2, (HX1.out.below hW HX1.out.lt).cell 3, keeps_below hW _ _ _ g0, keeps_below hW _ _ _ g1, keeps_below hW _ _ _ g2, keeps_below hW _ _ _ g3, hW⟩ : w'.cell? ⟨X, 2, none⟩ = some (.string nm) ∧ w'.cell? ⟨X, 3, none⟩ = some (.slice (some ⟨b0, o0, none⟩) xs.length c) ∧ w'.cell? ⟨b0, o0, none⟩ = some (.int .i64 ck) ∧ w'.cell? ⟨b0, o0 + 1, none⟩ = some (.int .i64 cn) ∧ w'.cell? ⟨b0, o0 + 2, none⟩ = some (.string cs) ∧ w'.cell? ⟨b0, o0 + 3, none⟩ = some (.slice ca cl cc) ∧ Below W1.heap.size W1 w')
      have KH := Lib.hid KS; clear KS
      go_upto_region 9 with fail
      go_region_held3 (fun w' => w'.cell? ⟨X, 2, none⟩ = some (.string nm) ∧ w'.cell? ⟨X, 3, none⟩ = some (.slice (some ⟨b0, o0, none⟩) xs.length c) ∧ w'.cell? ⟨b0, o0, none⟩ = some (.int .i64 ck) ∧ w'.cell? ⟨b0, o0 + 1, none⟩ = some (.int .i64 cn) ∧ w'.cell? ⟨b0, o0 + 2, none⟩ = some (.string cs) ∧ w'.cell? ⟨b0, o0 + 3, none⟩ = some (.slice ca cl cc) ∧ Below W1.heap.size W1 w')
        ((with_reducible refine KH.out _ ?_; repeat (with_reducible (first | exact Below.refl _ W1 | refine below_drew ?_ | refine below_next ?_ hb2 | fail))))
        (first | (go_at_call 26; (with_reducible refine HC.out.mono ?_); rintro e w2 ⟨rfl, hb2⟩) | fail)
      all_goals
        go_wp2_with fail
        go_ret
        exact ⟨by rw [← HF.out]; rfl, below_next HK1.out.drew hb2⟩
    have t4 : (k == 4) = false := by simpa using q4
    by_cases q5 : k = 5
    · have hl1 := hk4 (.inr q5)
      subst q5
      have h0 : 0 < xs.length := by omega
      obtain ⟨b0, o0, rfl, hrow⟩ := HROW.out.resolve_left (by omega)
      obtain ⟨ck, cn, cs, ca, cl, cc, hnd, g0, g1, g2, g3⟩ := item_at hrow HOLD.out 0 h0
      simp only [Nat.zero_mul, Nat.add_zero] at g0 g1 g2 g3
      have hcx := HCC.out 0 h0
      have hle := HCL.out 0 h0
      have hkd := kd_of (HCT.out 0 h0) hnd
      have HC := Lib.hid (HCW.out 0 h0 _ W1.drew hnd HOLD.out.drew)
      have HL := Lib.hid (fun W => rlev_any ck cn cs ca cl cc W)
      have hfin : ⟨#[45]⟩ ++ bts (par (decide (levE ck < 3)) ⟨#[40]⟩ ⟨#[41]⟩ (txtN xs[0])) = bts (txtN (.mk .E 5 n nm xs [] [] [])) := by
        rw [txt_5 _ _ _ _ _ _ h0, hkd, show (⟨#[45]⟩ : ByteArray) = bts [45] from rfl, bts_app]
      obtain ⟨L, hL⟩ : ∃ L, levE ck = L := ⟨_, rfl⟩
      rw [hL] at HL hfin
      obtain ⟨D, hD⟩ : ∃ D, decide (L < 3) = D := ⟨_, rfl⟩
      rw [hD] at hfin
      have hz := bts_size (par D ⟨#[40]⟩ ⟨#[41]⟩ (txtN xs[0]))
      have hp := par_len D ⟨#[40]⟩ ⟨#[41]⟩ (txtN xs[0]) rfl rfl
      have HS := Lib.hid (fun W => closed2_any (txtN xs[0]) D ⟨#[40]⟩ ⟨#[41]⟩ W (by have h1 : (⟨#[40]⟩ : ByteArray).size = 1 := rfl; have h2 : (⟨#[41]⟩ : ByteArray).size = 1 := rfl; omega))
      obtain ⟨P0, hP0⟩ : ∃ P, bts (par D ⟨#[40]⟩ ⟨#[41]⟩ (txtN xs[0])) = P := ⟨_, rfl⟩
      rw [hP0] at HS hfin hz
      obtain ⟨C0, hC0⟩ : ∃ C, bts (txtN xs[0]) = C := ⟨_, rfl⟩
      rw [hC0] at HC HS
      have hn1 : 1 + P0.size ≤ 9223372036854775807 := by omega
      have hn1b : ¬ 9223372036854775807 < 1 + P0.size := by omega
      have hn1c : ¬ 9223372036854775807 ≤ P0.size := by omega
      have hn1d : ¬ 9223372036854775807 < P0.size + 1 := by omega
      have HF := Lib.hid hfin; clear hfin hnd hrow hC0 hz hP0 hL hkd hp hcx hle
      have hx1 : (0 : Int) < xs.length := by omega
      have KS := fun w' (hW : Below W1.heap.size W1 w') => (⟨(HX1.out.below hW HX1.out.lt).cell 3, keeps_below hW _ _ _ g0, keeps_below hW _ _ _ g1, keeps_below hW _ _ _ g2, keeps_below hW _ _ _ g3, hW⟩ : w'.cell? ⟨X, 3, none⟩ = some (.slice (some ⟨b0, o0, none⟩) xs.length c) ∧ w'.cell? ⟨b0, o0, none⟩ = some (.int .i64 ck) ∧ w'.cell? ⟨b0, o0 + 1, none⟩ = some (.int .i64 cn) ∧ w'.cell? ⟨b0, o0 + 2, none⟩ = some (.string cs) ∧ w'.cell? ⟨b0, o0 + 3, none⟩ = some (.slice ca cl cc) ∧ Below W1.heap.size W1 w')
      have KH := Lib.hid KS; clear KS
      go_upto_region 11 with fail
      go_region_held3 (fun w' => w'.cell? ⟨X, 3, none⟩ = some (.slice (some ⟨b0, o0, none⟩) xs.length c) ∧ w'.cell? ⟨b0, o0, none⟩ = some (.int .i64 ck) ∧ w'.cell? ⟨b0, o0 + 1, none⟩ = some (.int .i64 cn) ∧ w'.cell? ⟨b0, o0 + 2, none⟩ = some (.string cs) ∧ w'.cell? ⟨b0, o0 + 3, none⟩ = some (.slice ca cl cc) ∧ Below W1.heap.size W1 w')
        ((with_reducible refine KH.out _ ?_; repeat (with_reducible (first | exact Below.refl _ W1 | refine below_drew ?_ | refine below_next ?_ hb4 | refine below_next ?_ hb3 | refine below_next ?_ hb2 | fail))))
        (first | (go_at_call 26; (with_reducible refine HC.out.mono ?_); rintro e w2 ⟨rfl, hb2⟩) | (go_at_call 53; (with_reducible refine (HL.out _).mono ?_); rintro e w3 ⟨rfl, hb3⟩) | (go_at_call 52; (with_reducible refine (HS.out _).mono ?_); rintro e w4 ⟨rfl, hb4⟩) | fail)
      all_goals
        go_wp2_with fail
        go_ret
        exact ⟨by rw [← HF.out]; rfl, (by repeat (with_reducible (first | exact HK1.out.drew | refine below_drew ?_ | refine below_next ?_ hb4 | refine below_next ?_ hb3 | refine below_next ?_ hb2 | fail)))⟩
    have t5 : (k == 5) = false := by simpa using q5
    have hl2 := hk6 (by omega)
    have h0 : 0 < xs.length := by omega
    have h1 : 1 < xs.length := by omega
    obtain ⟨b0, o0, rfl, hrow⟩ := HROW.out.resolve_left (by omega)
    obtain ⟨ck, cn, cs, ca, cl, cc, hnd, g0, g1, g2, g3⟩ := item_at hrow HOLD.out 0 h0
    obtain ⟨dk, dn, ds, da, dl, dc, hnd2, f0, f1, f2, f3⟩ := item_at hrow HOLD.out 1 h1
    simp only [Nat.zero_mul, Nat.one_mul, Nat.add_zero] at g0 g1 g2 g3 f0 f1 f2 f3
    have hkd := kd_of (HCT.out 0 h0) hnd
    have hkd2 := kd_of (HCT.out 1 h1) hnd2
    have hcx := HCC.out 0 h0
    have hle := HCL.out 0 h0
    have hcx2 := HCC.out 1 h1
    have hle2 := HCL.out 1 h1
    obtain ⟨B, hB⟩ : ∃ B, W1.heap.size = B := ⟨_, rfl⟩
    obtain ⟨W2, hW2⟩ : ∃ W2, W1.alloc (.cells #[.string ⟨#[32, 43, 32]⟩, .string ⟨#[32, 45, 32]⟩, .string ⟨#[32, 42, 32]⟩, .string ⟨#[32, 47, 32]⟩, .string ⟨#[32, 37, 32]⟩] 113) = W2 := ⟨_, rfl⟩
    have hB2 : Blk W2 B #[.string ⟨#[32, 43, 32]⟩, .string ⟨#[32, 45, 32]⟩, .string ⟨#[32, 42, 32]⟩, .string ⟨#[32, 47, 32]⟩, .string ⟨#[32, 37, 32]⟩] 113 := by rw [← hW2, ← hB]; exact Blk.new W1 _ _
    have k2 : Below W1.heap.size W1 W2 := by rw [← hW2]; exact (Below.refl _ _).alloc (Nat.le_refl _) _
    have hX2 := HX1.out.below k2 HX1.out.lt
    have HW2 := Lib.hid hW2; clear hW2
    have HB := Lib.hid hB; clear hB
    have HHB := Lib.hid hB2; clear hB2
    have HX2 := Lib.hid hX2; clear hX2
    have hfin : ∀ sg, sg = bts (([32] : List UInt8) ++ ((sgnE k).data.toList ++ ([32] : List UInt8))) → bts (par (decide (levE ck < levE k)) ⟨#[40]⟩ ⟨#[41]⟩ (txtN xs[0])) ++ sg ++ bts (par (decide (levE dk ≤ levE k)) ⟨#[40]⟩ ⟨#[41]⟩ (txtN xs[1])) = bts (txtN (.mk .E k n nm xs [] [] [])) := by
      rintro sg rfl
      rw [txt_e _ _ _ _ _ _ _ h0 h1 ⟨q1, q2, q3, q4, q5⟩, hkd, hkd2, show decide (levE dk < levE k + 1) = decide (levE dk ≤ levE k) from by simp [Int.lt_add_one_iff], bts_app, bts_app, List.append_assoc]
    have h41 : (⟨#[40]⟩ : ByteArray).size = 1 := rfl
    have h42 : (⟨#[41]⟩ : ByteArray).size = 1 := rfl
    have HC := Lib.hid (HCW.out 0 h0 _ W2.drew hnd (below_next HOLD.out k2).drew)
    have HN2 := Lib.hid hnd2; clear hnd2
    have HL := Lib.hid (fun W => rlev_any ck cn cs ca cl cc W)
    have HL2 := Lib.hid (fun W => rlev_any dk dn ds da dl dc W)
    have HO := Lib.hid (fun W => rlev_any k n nm (some ⟨b0, o0, none⟩) xs.length c W)
    obtain ⟨L, hL⟩ : ∃ L, levE ck = L := ⟨_, rfl⟩
    obtain ⟨L2, hL2⟩ : ∃ L, levE dk = L := ⟨_, rfl⟩
    obtain ⟨M, hM⟩ : ∃ L, levE k = L := ⟨_, rfl⟩
    rw [hL] at HL hfin
    rw [hL2] at HL2 hfin
    rw [hM] at HO hfin
    obtain ⟨D, hD⟩ : ∃ D, decide (L < M) = D := ⟨_, rfl⟩
    obtain ⟨D2, hD2⟩ : ∃ D, decide (L2 ≤ M) = D := ⟨_, rfl⟩
    rw [hD, hD2] at hfin
    have hz := bts_size (par D ⟨#[40]⟩ ⟨#[41]⟩ (txtN xs[0]))
    have hp := par_len D ⟨#[40]⟩ ⟨#[41]⟩ (txtN xs[0]) rfl rfl
    have HS := Lib.hid (fun W => closed2_any (txtN xs[0]) D ⟨#[40]⟩ ⟨#[41]⟩ W (by omega))
    have hz2 := bts_size (par D2 ⟨#[40]⟩ ⟨#[41]⟩ (txtN xs[1]))
    have hp2 := par_len D2 ⟨#[40]⟩ ⟨#[41]⟩ (txtN xs[1]) rfl rfl
    have HS2 := Lib.hid (fun W => closed2_any (txtN xs[1]) D2 ⟨#[40]⟩ ⟨#[41]⟩ W (by omega))
    obtain ⟨P0, hP0⟩ : ∃ P, bts (par D ⟨#[40]⟩ ⟨#[41]⟩ (txtN xs[0])) = P := ⟨_, rfl⟩
    obtain ⟨P2, hP2⟩ : ∃ P, bts (par D2 ⟨#[40]⟩ ⟨#[41]⟩ (txtN xs[1])) = P := ⟨_, rfl⟩
    rw [hP0] at HS hfin hz
    rw [hP2] at HS2 hfin hz2
    obtain ⟨C0, hC0⟩ : ∃ C, bts (txtN xs[0]) = C := ⟨_, rfl⟩
    rw [hC0] at HC HS
    have hn1 : P0.size + 3 ≤ 9223372036854775807 := by omega
    have hn2 : P0.size + 3 + P2.size ≤ 9223372036854775807 := by omega
    have HF := Lib.hid hfin; clear hfin hnd hrow hC0 hz hP0 hL hkd hp hcx hle hz2 hP2 hL2 hkd2 hp2 hcx2 hle2 hM
    have hx1 : (0 : Int) < xs.length := by omega
    have hx2 : (1 : Int) < xs.length := by omega
    have KS0 := fun w' (hW : Below W2.heap.size W2 w') => (⟨(HX2.out.below hW HX2.out.lt).cell 0, (HX2.out.below hW HX2.out.lt).cell 1, (HX2.out.below hW HX2.out.lt).cell 2, (HX2.out.below hW HX2.out.lt).cell 3, keeps_below (below_next k2 hW) _ _ _ g0, keeps_below (below_next k2 hW) _ _ _ g1, keeps_below (below_next k2 hW) _ _ _ g2, keeps_below (below_next k2 hW) _ _ _ g3, hW⟩ : w'.cell? ⟨X, 0, none⟩ = some (.int .i64 k) ∧ w'.cell? ⟨X, 1, none⟩ = some (.int .i64 n) ∧ w'.cell? ⟨X, 2, none⟩ = some (.string nm) ∧ w'.cell? ⟨X, 3, none⟩ = some (.slice (some ⟨b0, o0, none⟩) xs.length c) ∧ w'.cell? ⟨b0, o0, none⟩ = some (.int .i64 ck) ∧ w'.cell? ⟨b0, o0 + 1, none⟩ = some (.int .i64 cn) ∧ w'.cell? ⟨b0, o0 + 2, none⟩ = some (.string cs) ∧ w'.cell? ⟨b0, o0 + 3, none⟩ = some (.slice ca cl cc) ∧ Below W2.heap.size W2 w')
    have KS1 := fun wc (hc : Below W2.heap.size W2 wc) w' (hW : Below wc.heap.size wc w') => (⟨(HX2.out.below (below_next hc hW) HX2.out.lt).cell 0, (HX2.out.below (below_next hc hW) HX2.out.lt).cell 1, (HX2.out.below (below_next hc hW) HX2.out.lt).cell 2, (HX2.out.below (below_next hc hW) HX2.out.lt).cell 3, keeps_below (below_next k2 (below_next hc hW)) _ _ _ f0, keeps_below (below_next k2 (below_next hc hW)) _ _ _ f1, keeps_below (below_next k2 (below_next hc hW)) _ _ _ f2, keeps_below (below_next k2 (below_next hc hW)) _ _ _ f3, hW⟩ : w'.cell? ⟨X, 0, none⟩ = some (.int .i64 k) ∧ w'.cell? ⟨X, 1, none⟩ = some (.int .i64 n) ∧ w'.cell? ⟨X, 2, none⟩ = some (.string nm) ∧ w'.cell? ⟨X, 3, none⟩ = some (.slice (some ⟨b0, o0, none⟩) xs.length c) ∧ w'.cell? ⟨b0, o0 + 4, none⟩ = some (.int .i64 dk) ∧ w'.cell? ⟨b0, o0 + 4 + 1, none⟩ = some (.int .i64 dn) ∧ w'.cell? ⟨b0, o0 + 4 + 2, none⟩ = some (.string ds) ∧ w'.cell? ⟨b0, o0 + 4 + 3, none⟩ = some (.slice da dl dc) ∧ Below wc.heap.size wc w')
    have KH := Lib.hid KS0; clear KS0
    have KH1 := Lib.hid KS1; clear KS1
    have HK2 := Lib.hid k2; clear k2
    clear g0 g1 g2 g3 f0 f1 f2 f3 hl2 hk6 hk4 hkn
    go_upto_region 13 with fail
    rw [HW2.out, HB.out]
    clear HW2 HB m0 m1 m2 m3
    go_cut [4] (fun s wx => s = .string P0 ∧ Below W2.heap.size W2 wx)
    case first =>
      go_region_held3 (fun w' => w'.cell? ⟨X, 0, none⟩ = some (.int .i64 k) ∧ w'.cell? ⟨X, 1, none⟩ = some (.int .i64 n) ∧ w'.cell? ⟨X, 2, none⟩ = some (.string nm) ∧ w'.cell? ⟨X, 3, none⟩ = some (.slice (some ⟨b0, o0, none⟩) xs.length c) ∧ w'.cell? ⟨b0, o0, none⟩ = some (.int .i64 ck) ∧ w'.cell? ⟨b0, o0 + 1, none⟩ = some (.int .i64 cn) ∧ w'.cell? ⟨b0, o0 + 2, none⟩ = some (.string cs) ∧ w'.cell? ⟨b0, o0 + 3, none⟩ = some (.slice ca cl cc) ∧ Below W2.heap.size W2 w')
        ((with_reducible refine KH.out _ ?_; repeat (with_reducible (first | exact Below.refl _ W2 | refine below_drew ?_ | refine below_next ?_ hb5 | refine below_next ?_ hb4 | refine below_next ?_ hb3 | refine below_next ?_ hb2 | fail))))
        (first | (go_at_call 26; (with_reducible refine HC.out.mono ?_); rintro e w2 ⟨rfl, hb2⟩) | (go_at_call 53; (with_reducible refine (HL.out _).mono ?_); rintro e w3 ⟨rfl, hb3⟩) | (go_at_call 53; (with_reducible refine (HO.out _).mono ?_); rintro e w4 ⟨rfl, hb4⟩) | (go_at_call 52; (with_reducible refine (HS.out _).mono ?_); rintro e w5 ⟨rfl, hb5⟩) | fail)
      all_goals
        go_wp2_with fail
        go_meet
        exact ⟨rfl, (by repeat (with_reducible (first | exact Below.refl _ W2 | refine below_drew ?_ | refine below_next ?_ hb5 | refine below_next ?_ hb4 | refine below_next ?_ hb3 | refine below_next ?_ hb2 | fail)))⟩
    case rest =>
      obtain ⟨rfl, hb⟩ := hcut
      have HC2 := Lib.hid (HCW.out 1 h1 _ wc.drew HN2.out (below_next (below_next HOLD.out HK2.out) hb).drew)
      obtain ⟨C2, hC2⟩ : ∃ C, bts (txtN xs[1]) = C := ⟨_, rfl⟩
      rw [hC2] at HC2 HS2
      clear hC2
      have KS2 := fun w' hW => KH1.out wc hb w' hW
      have KH := Lib.hid KS2; clear KS2
      have HBL := Lib.hid hb; clear hb
      clear HC HS HL hD
      go_upto_region 14 with fail
      go_cut [5] (fun s wx => s = .string P2 ∧ Below wc.heap.size wc wx)
      case first =>
        go_region_held3 (fun w' => w'.cell? ⟨X, 0, none⟩ = some (.int .i64 k) ∧ w'.cell? ⟨X, 1, none⟩ = some (.int .i64 n) ∧ w'.cell? ⟨X, 2, none⟩ = some (.string nm) ∧ w'.cell? ⟨X, 3, none⟩ = some (.slice (some ⟨b0, o0, none⟩) xs.length c) ∧ w'.cell? ⟨b0, o0 + 4, none⟩ = some (.int .i64 dk) ∧ w'.cell? ⟨b0, o0 + 4 + 1, none⟩ = some (.int .i64 dn) ∧ w'.cell? ⟨b0, o0 + 4 + 2, none⟩ = some (.string ds) ∧ w'.cell? ⟨b0, o0 + 4 + 3, none⟩ = some (.slice da dl dc) ∧ Below wc.heap.size wc w')
          ((with_reducible refine KH.out _ ?_; repeat (with_reducible (first | exact Below.refl _ wc | refine below_drew ?_ | refine below_next ?_ hb5 | refine below_next ?_ hb4 | refine below_next ?_ hb3 | refine below_next ?_ hb2 | fail))))
          (first | (go_at_call 26; (with_reducible refine HC2.out.mono ?_); rintro e w2 ⟨rfl, hb2⟩) | (go_at_call 53; (with_reducible refine (HL2.out _).mono ?_); rintro e w3 ⟨rfl, hb3⟩) | (go_at_call 53; (with_reducible refine (HO.out _).mono ?_); rintro e w4 ⟨rfl, hb4⟩) | (go_at_call 52; (with_reducible refine (HS2.out _).mono ?_); rintro e w5 ⟨rfl, hb5⟩) | fail)
        all_goals
          go_wp2_with fail
          go_meet
          exact ⟨rfl, (by repeat (with_reducible (first | exact Below.refl _ wc | refine below_drew ?_ | refine below_next ?_ hb5 | refine below_next ?_ hb4 | refine below_next ?_ hb3 | refine below_next ?_ hb2 | fail)))⟩
      case rest =>
        obtain ⟨rfl, hb2⟩ := hcut
        rename_i wd
        have hbe := below_next HBL.out hb2
        have hX3 := HX2.out.below hbe HX2.out.lt
        have hB3 := HHB.out.below hbe HHB.out.lt
        have m0 := hX3.cell 0
        have HBE := Lib.hid hbe; clear hbe hX3 HC2 HS2 HL2 hD2
        have hk : k = 6 ∨ k = 7 ∨ k = 8 ∨ k = 9 ∨ k = 10 := by omega
        rcases hk with rfl | rfl | rfl | rfl | rfl
        · have mm := hB3.cell 0
          have HB3 := Lib.hid hB3; clear hB3
          go_wp2_with fail
          go_ret
          exact ⟨by rw [← HF.out _ (by rfl)]; rfl, below_next (below_next HK1.out HK2.out) HBE.out⟩
        · have mm := hB3.cell 1
          have HB3 := Lib.hid hB3; clear hB3
          go_wp2_with fail
          go_ret
          exact ⟨by rw [← HF.out _ (by rfl)]; rfl, below_next (below_next HK1.out HK2.out) HBE.out⟩
        · have mm := hB3.cell 2
          have HB3 := Lib.hid hB3; clear hB3
          go_wp2_with fail
          go_ret
          exact ⟨by rw [← HF.out _ (by rfl)]; rfl, below_next (below_next HK1.out HK2.out) HBE.out⟩
        · have mm := hB3.cell 3
          have HB3 := Lib.hid hB3; clear hB3
          go_wp2_with fail
          go_ret
          exact ⟨by rw [← HF.out _ (by rfl)]; rfl, below_next (below_next HK1.out HK2.out) HBE.out⟩
        · have mm := hB3.cell 4
          have HB3 := Lib.hid hB3; clear hB3
          go_wp2_with fail
          go_ret
          exact ⟨by rw [← HF.out _ (by rfl)]; rfl, below_next (below_next HK1.out HK2.out) HBE.out⟩
end Go.Proofs.YtbchibmmkmldiaaGreatDoor
