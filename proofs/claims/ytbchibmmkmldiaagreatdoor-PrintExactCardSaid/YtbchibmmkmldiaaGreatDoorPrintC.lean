/-
  The project's text of a condition (writer.cond, part): proved is that it is written behind what is there.
-/
import Derived.Test.YtbchibmmkmldiaaGreatDoorPrintF
namespace Go.Proofs.YtbchibmmkmldiaaGreatDoor
open Go Go.RowKit Go.Shelf

/-- A condition's text is written. -/
def WCond (T : TypeId) (rest : List Value) (w0 : World) (B0 b : Nat) (x : Nd) : Prop := ∀ us l w, NdIn w0 x us → Below w0.heap.size w0 w → Bd T rest B0 b l w → l.length + cstN x ≤ 1099511627776 →
  Calls Tryz.prog 87 #[.pointer (some ⟨b, 0, none⟩), .agg us.toArray] w (Wrote T rest B0 b (l ++ txtN x) w)
set_option maxRecDepth 100000 in
/-- The function value that writes an argument. -/
theorem partf_any (T : TypeId) (rest : List Value) (w0 : World) (B0 b : Nat) (x : Nd) (hx : WCond T rest w0 B0 b x) (c3 c4 : Nat) (T3 : TypeId) (k n : Int) (a2 : Option Addr) (len2 c2 : Nat) (a : Option Addr) (len c : Nat) (l : List UInt8) (w : World) (hin : NdIn w0 x [.int .i64 k, .int .i64 n, .slice a2 len2 c2, .slice a len c]) (hw : Below w0.heap.size w0 w) (h3 : Blk w c3 #[.pointer (some ⟨b, 0, none⟩)] T3) (h4 : Blk w c4 #[.int .i64 k, .int .i64 n, .slice a2 len2 c2, .slice a len c] 82) (h : Bd T rest B0 b l w) (hlen : l.length + cstN x ≤ 1099511627776) :
    Calls Tryz.prog 104 #[.pointer (some ⟨c3, 0, none⟩), .pointer (some ⟨c4, 0, none⟩)] w (Wrote T rest B0 b (l ++ txtN x) w) := by
  have HC := Lib.hid (hx _ l w hin hw h hlen)
  have k3 : w.cell? ⟨c3, 0, none⟩ = some (.pointer (some ⟨b, 0, none⟩)) := h3.cell 0
  have m0 : w.cell? ⟨c4, 0, none⟩ = some (.int .i64 k) := h4.cell 0
  have m1 : w.cell? ⟨c4, 1, none⟩ = some (.int .i64 n) := h4.cell 1
  have m2 : w.cell? ⟨c4, 2, none⟩ = some (.slice a2 len2 c2) := h4.cell 2
  have m3 : w.cell? ⟨c4, 3, none⟩ = some (.slice a len c) := h4.cell 3
  clear hx h3 h4 h
  go_enter Tryz.func104, Tryz.ntmps104
  go_wp2_with fail
  refine HC.out.mono ?_
  rintro e w1 ⟨rfl, h1, hk1⟩
  have H1 := Lib.hid h1; clear h1
  have HK1 := Lib.hid hk1; clear hk1
  go_wp2_with fail
  go_end0
  exact ⟨rfl, H1.out, HK1.out⟩

set_option maxRecDepth 100000 in
set_option maxHeartbeats 4000000 in
theorem part_any (T : TypeId) (rest : List Value) (hT : Lies T (2 + rest.length)) (hT8 : T ≠ 5) (w0 : World) (B0 b : Nat) (hB0 : w0.heap.size ≤ B0) (x : Nd) (hty : x.ty = .C) (hx : WCond T rest w0 B0 b x) (hle : (txtN x).length ≤ cstN x) (us : List Value) (least : Int) (l : List UInt8) (w : World) (hin : NdIn w0 x us) (hw : Below w0.heap.size w0 w) (h : Bd T rest B0 b l w) (hlen : l.length + cstN x + 2 ≤ 1099511627776) :
    Calls Tryz.prog 99 #[.pointer (some ⟨b, 0, none⟩), .agg us.toArray, .int .i64 least] w (Wrote T rest B0 b (l ++ par (decide (levC (kdN x) < least)) ⟨#[91]⟩ ⟨#[93]⟩ (txtN x)) w) := by
  have hBw : B0 ≤ w.heap.size := Nat.le_trans h.base (Nat.le_of_lt h.size)
  have hnd := hin.len
  rw [hty] at hnd
  obtain ⟨v0, v1, v2, v3, rfl⟩ : ∃ a b c d, us = [a, b, c, d] := by
    match us, hnd with
    | [a, b, c, d], _ => exact ⟨_, _, _, _, rfl⟩
  obtain ⟨k, n, a2, len2, c2, a, len, c, rfl, rfl, rfl, rfl⟩ := NdIn.formC hty hin
  have hkd : kdN x = k := by
    obtain ⟨ty, k', n', nm, xs, cs, ts, es⟩ := x
    simp only [Nd.ty] at hty
    subst hty
    unfold NdIn at hin
    obtain ⟨-, -, -, -, vx, vc, vt, ve, hvs, -⟩ := hin
    simp only [lay, List.cons.injEq, Value.int.injEq, true_and] at hvs
    exact hvs.1.symm
  rw [hkd]
  clear hkd
  change Calls _ _ #[_, .agg #[.int .i64 k, .int .i64 n, .slice a2 len2 c2, .slice a len c], _] w _
  obtain ⟨W1, hW1⟩ : ∃ W1, (w.alloc (.cells #[.pointer (some ⟨b, 0, none⟩)] 85)).alloc (.cells #[.int .i64 k, .int .i64 n, .slice a2 len2 c2, .slice a len c] 82) = W1 := ⟨_, rfl⟩
  obtain ⟨X, hX⟩ : ∃ X, w.heap.size = X := ⟨_, rfl⟩
  have h3 : Blk W1 X #[.pointer (some ⟨b, 0, none⟩)] 85 := by rw [← hW1, ← hX]; exact (Blk.new w _ _).alloc _
  have h4 : Blk W1 (X + 1) #[.int .i64 k, .int .i64 n, .slice a2 len2 c2, .slice a len c] 82 := by rw [← hW1, ← hX]; exact blk_two w _ _ _
  have h1 : Bd T rest B0 b l W1 := by rw [← hW1]; exact (h.alloc _).alloc _
  have hk1 : Kp B0 b w W1 := by rw [← hW1]; exact ((Kp.refl _ _ _).alloc hBw _).alloc (by rw [World.size_alloc]; omega) _
  have hXb : X ≠ b := by have := h.size; omega
  have hXb1 : X + 1 ≠ b := by have := h.size; omega
  have hB1 : B0 ≤ W1.heap.size := Nat.le_trans hBw hk1.size
  obtain ⟨need, hneed⟩ : ∃ d, decide (levC k < least) = d := ⟨_, rfl⟩
  rw [hneed]
  have HE := Lib.hid (fun w2 => clev_any k w2)
  have k3 : W1.cell? ⟨X, 0, none⟩ = some (.pointer (some ⟨b, 0, none⟩)) := h3.cell 0
  have k4 : W1.cell? ⟨X + 1, 0, none⟩ = some (.int .i64 k) := h4.cell 0
  have hwrap := wrapC_any T rest B0 b l (txtN x) ⟨#[91]⟩ ⟨#[93]⟩ need (.pointer (some ⟨X, 0, none⟩)) (.pointer (some ⟨X + 1, 0, none⟩)) W1.drew hT hT8 h1.drew (by simp only [show (⟨#[91]⟩ : ByteArray).size = 1 from rfl, show (⟨#[93]⟩ : ByteArray).size = 1 from rfl]; omega) hB1
    (fun l1 w1 hl1 hb1 hk => partf_any T rest w0 B0 b x hx X (X + 1) _ k n a2 len2 c2 a len c l1 w1 hin (hk.old (hk1.drew.old hw hB0) hB0) ((show Blk W1.drew X _ _ from h3).kp hk hXb (by decide)) ((show Blk W1.drew (X + 1) _ _ from h4).kp hk hXb1 (by decide)) hb1 (by have : (⟨#[91]⟩ : ByteArray).size = 1 := rfl; omega))
  have HWR := Lib.hid hwrap; clear hwrap
  have HK1 := Lib.hid hk1; clear hk1 h1 h h3 h4 hx hin hw
  have HW1 := Lib.hid hW1; clear hW1
  have HXX := Lib.hid hX; clear hX
  have HND := Lib.hid hneed; clear hneed
  obtain ⟨le, hle2⟩ : ∃ z, levC k = z := ⟨_, rfl⟩
  rw [hle2] at HE HND
  clear hle2
  go_enter Tryz.func99, Tryz.ntmps99
  go_upto_region 1 with fail
  rw [HW1.out, HXX.out]
  clear HW1
  have hnd2 : decide (le < least) = need := HND.out
  go_region_with (first | (go_at_call 97; (with_reducible refine (HE.out _).mono ?_); rintro e w2 ⟨rfl, rfl⟩) | (go_at_call 60; (with_reducible refine HWR.out.mono ?_); rintro e w3 ⟨rfl, h3, hk3⟩; (have H3 := Lib.hid h3); (have HK3 := Lib.hid (HK1.out.drew.trans hk3)); clear h3 hk3))
  all_goals
    go_wp2_with fail
    go_end0
    exact ⟨rfl, H3.out, HK3.out⟩

/-- An item of a list of conditions that lies in an elder world. -/
theorem citem_at {w0 w : World} {cs : List Nd} {b0 o0 : Nat} (hr : RowIn w0 .C cs b0 o0) (hb : Below w0.heap.size w0 w) (i : Nat) (hi : i < cs.length) : ∃ k n a2 len2 c2 a len c, NdIn w0 cs[i] [.int .i64 k, .int .i64 n, .slice a2 len2 c2, .slice a len c] ∧ w.cell? ⟨b0, o0 + i * 4, none⟩ = some (.int .i64 k) ∧ w.cell? ⟨b0, o0 + i * 4 + 1, none⟩ = some (.int .i64 n) ∧ w.cell? ⟨b0, o0 + i * 4 + 2, none⟩ = some (.slice a2 len2 c2) ∧ w.cell? ⟨b0, o0 + i * 4 + 3, none⟩ = some (.slice a len c) := by
  obtain ⟨hty, vs, hc, hnd⟩ := RowIn.at cs b0 o0 i hi hr
  have hl := hnd.len
  rw [hty] at hl
  obtain ⟨v0, v1, v2, v3, rfl⟩ : ∃ a b c d, vs = [a, b, c, d] := by
    match vs, hl with
    | [a, b, c, d], _ => exact ⟨_, _, _, _, rfl⟩
  obtain ⟨k, n, a2, len2, c2, a, len, c, rfl, rfl, rfl, rfl⟩ := NdIn.formC hty hnd
  have kk := keeps_below hb
  exact ⟨k, n, a2, len2, c2, a, len, c, hnd, kk _ _ _ (hc 0 _ rfl), kk _ _ _ (hc 1 _ rfl), kk _ _ _ (hc 2 _ rfl), kk _ _ _ (hc 3 _ rfl)⟩
theorem levC_ge (k : Int) : 1 ≤ levC k ∧ levC k ≤ 3 := by
  unfold levC
  repeat' split
  all_goals exact ⟨by decide, by decide⟩
theorem txc_1 (n : Int) (nm : ByteArray) (xs cs ts es : List Nd) : txtN (.mk .C 1 n nm xs cs ts es) = (⟨#[116, 114, 117, 101]⟩ : ByteArray).data.toList := by simp [txtN, txtC]
theorem txc_2 (n : Int) (nm : ByteArray) (xs cs ts es : List Nd) : txtN (.mk .C 2 n nm xs cs ts es) = (⟨#[102, 97, 108, 115, 101]⟩ : ByteArray).data.toList := by simp [txtN, txtC]
theorem txc_3 (n : Int) (nm : ByteArray) (xs cs ts es : List Nd) (h0 : 0 < xs.length) (h1 : 1 < xs.length) : txtN (.mk .C 3 n nm xs cs ts es) = txtN xs[0] ++ ((([32] : List UInt8) ++ ((sgnO n).data.toList ++ ([32] : List UInt8))) ++ txtN xs[1]) := by
  have h := argT_at xs 0 h0
  have g := argT_at xs 1 h1
  simp [txtN, txtC, h, g]
theorem txc_4 (n : Int) (nm : ByteArray) (xs cs ts es : List Nd) (h0 : 0 < cs.length) : txtN (.mk .C 4 n nm xs cs ts es) = ([33] : List UInt8) ++ par (decide (levC (kdN cs[0]) < 3)) ⟨#[91]⟩ ⟨#[93]⟩ (txtN cs[0]) := by
  have h := argT_at cs 0 h0
  simp [txtN, txtC, h]
theorem txc_e (k n : Int) (nm : ByteArray) (xs cs ts es : List Nd) (h0 : 0 < cs.length) (h1 : 1 < cs.length) (hk : ¬ k = 1 ∧ ¬ k = 2 ∧ ¬ k = 3 ∧ ¬ k = 4) : txtN (.mk .C k n nm xs cs ts es) = par (decide (levC (kdN cs[0]) < levC k)) ⟨#[91]⟩ ⟨#[93]⟩ (txtN cs[0]) ++ ((([32] : List UInt8) ++ ((sgnC k).data.toList ++ ([32] : List UInt8))) ++ par (decide (levC (kdN cs[1]) < levC k + 1)) ⟨#[91]⟩ ⟨#[93]⟩ (txtN cs[1])) := by
  have h := argT_at cs 0 h0
  have g := argT_at cs 1 h1
  simp only [txtN, txtC]
  rw [if_neg hk.1, if_neg hk.2.1, if_neg hk.2.2.1, if_neg hk.2.2.2, h, g]

set_option maxRecDepth 100000 in
set_option maxHeartbeats 16000000 in
theorem cond_any (T : TypeId) (rest : List Value) (hT : Lies T (2 + rest.length)) (hT8 : T ≠ 5) (w0 : World) (B0 b : Nat) (hB0 : w0.heap.size ≤ B0) (htab : Lib.TabIs Tryz.prog w0 "internal/strconv.uint64pow10" .u64 Lib.pow10Tab) : ∀ (N : Nat) (x : Nd), SizeOf.sizeOf x ≤ N → x.ty = .C → goodT x → WCond T rest w0 B0 b x := by
  intro N
  induction N with
  | zero =>
    intro x hN
    obtain ⟨ty, k, n, nm, xs, cs, ts, es⟩ := x
    simp only [Nd.mk.sizeOf_spec] at hN
    omega
  | succ N ih =>
    intro x hN hty hg us l w hin hw h hlen
    obtain ⟨ty, k, n, nm, xs, cs, ts, es⟩ := x
    simp only [Nd.mk.sizeOf_spec] at hN
    simp only [Nd.ty] at hty
    subst hty
    have hch := fun i (hi : i < cs.length) => ih cs[i] (by have := List.sizeOf_lt_of_mem (List.getElem_mem (l := cs) (n := i) hi); omega)
    unfold goodT at hg
    obtain ⟨⟨hk1, hk2, hk3, hk4, hk6⟩, hgx, hgc⟩ := hg
    have hcw := fun i (hi : i < cs.length) => hch i hi (goodTL_at hgc i hi).1 (goodTL_at hgc i hi).2
    have hcl := fun i (hi : i < cs.length) => txt_le _ cs[i] (Nat.le_refl _) (goodTL_at hgc i hi).2 (.inr (goodTL_at hgc i hi).1)
    have hct := fun i (hi : i < cs.length) => (goodTL_at hgc i hi).1
    have hcc := cstL_at cs
    have hew := fun i (hi : i < xs.length) => expr_any T rest hT hT8 w0 B0 b hB0 htab _ xs[i] (Nat.le_refl _) (goodTL_at hgx i hi).1 (goodTL_at hgx i hi).2
    have hel := fun i (hi : i < xs.length) => txt_le _ xs[i] (Nat.le_refl _) (goodTL_at hgx i hi).2 (.inl (goodTL_at hgx i hi).1)
    clear ih hch hgx hgc hN
    unfold NdIn at hin
    obtain ⟨hz, -, -, -, vx, vc, vt, ve, rfl, hxs, hcs, -⟩ := hin
    simp only [fits] at hz
    obtain ⟨rfl, rfl, rfl⟩ := hz
    obtain ⟨a2, c2, rfl, hlc2, hcm2, hrow2⟩ := hxs
    obtain ⟨a, c, rfl, hlc, hcm, hrow⟩ := hcs
    change Calls _ _ #[_, .agg #[.int .i64 k, .int .i64 n, .slice a2 xs.length c2, .slice a cs.length c]] w _
    unfold cstN at hlen
    have hBw : B0 ≤ w.heap.size := Nat.le_trans h.base (Nat.le_of_lt h.size)
    obtain ⟨W1, hW1⟩ : ∃ W1, w.alloc (.cells #[.int .i64 k, .int .i64 n, .slice a2 xs.length c2, .slice a cs.length c] 82) = W1 := ⟨_, rfl⟩
    obtain ⟨X, hX⟩ : ∃ X, w.heap.size = X := ⟨_, rfl⟩
    have hX1 : Blk W1 X #[.int .i64 k, .int .i64 n, .slice a2 xs.length c2, .slice a cs.length c] 82 := by rw [← hW1, ← hX]; exact Blk.new w _ _
    have h1 : Bd T rest B0 b l W1 := by rw [← hW1]; exact h.alloc _
    have hk1' : Kp B0 b w W1 := by rw [← hW1]; exact (Kp.refl _ _ _).alloc hBw _
    have hXb : X ≠ b := by have := h.size; omega
    have hB1 : B0 ≤ W1.heap.size := Nat.le_trans hBw hk1'.size
    have hw1 : Below w0.heap.size w0 W1 := hk1'.old hw hB0
    have m0 : W1.cell? ⟨X, 0, none⟩ = some (.int .i64 k) := hX1.cell 0
    have m1 : W1.cell? ⟨X, 1, none⟩ = some (.int .i64 n) := hX1.cell 1
    have m2 : W1.cell? ⟨X, 2, none⟩ = some (.slice a2 xs.length c2) := hX1.cell 2
    have m3 : W1.cell? ⟨X, 3, none⟩ = some (.slice a cs.length c) := hX1.cell 3
    have hlv := levC_ge k
    have HE := Lib.hid (fun w2 => clev_any k w2)
    obtain ⟨lv, hlve⟩ : ∃ z, levC k = z := ⟨_, rfl⟩
    rw [hlve] at HE hlv
    obtain ⟨hlv1, hlv2⟩ := hlv
    have HX1 := Lib.hid hX1; clear hX1
    have HB1 := Lib.hid h1; clear h1 h
    have HK1 := Lib.hid hk1'; clear hk1'
    have HOLD := Lib.hid hw1; clear hw1 hw
    have HW1 := Lib.hid hW1; clear hW1
    have HXX := Lib.hid hX; clear hX
    have HLV := Lib.hid hlve; clear hlve
    have HROW := Lib.hid hrow; clear hrow
    have HROWX := Lib.hid hrow2; clear hrow2
    have HCW := Lib.hid hcw; clear hcw
    have HCL := Lib.hid hcl; clear hcl
    have HCT := Lib.hid hct; clear hct
    have HCC := Lib.hid hcc; clear hcc
    have HEW := Lib.hid hew; clear hew
    have HEL := Lib.hid hel; clear hel
    go_enter Tryz.func87, Tryz.ntmps87
    go_upto_region 1 with fail
    rw [HW1.out, HXX.out]
    clear HW1
    by_cases q1 : k = 1
    · subst q1
      have HC := Lib.hid (ws_any T rest B0 b l ⟨#[116, 114, 117, 101]⟩ W1 hT hT8 HB1.out (by simp only [show (⟨#[116, 114, 117, 101]⟩ : ByteArray).size = 4 from rfl]; omega) hB1)
      go_wp2_with (first | (go_at_call 97; (with_reducible refine (HE.out _).mono ?_); rintro e w2 ⟨rfl, rfl⟩) | (go_at_call 30; (with_reducible refine HC.out.mono ?_); rintro e w4 ⟨rfl, h4, hk4'⟩; (have H4 := Lib.hid h4); (have HK4 := Lib.hid (HK1.out.trans hk4')); clear h4 hk4') | fail)
      go_end0
      exact ⟨rfl, .inr (by rw [txc_1]; exact H4.out), HK4.out⟩
    have t1 : (k == 1) = false := by simpa using q1
    by_cases q2 : k = 2
    · subst q2
      have HC := Lib.hid (ws_any T rest B0 b l ⟨#[102, 97, 108, 115, 101]⟩ W1 hT hT8 HB1.out (by simp only [show (⟨#[102, 97, 108, 115, 101]⟩ : ByteArray).size = 5 from rfl]; omega) hB1)
      go_wp2_with (first | (go_at_call 97; (with_reducible refine (HE.out _).mono ?_); rintro e w2 ⟨rfl, rfl⟩) | (go_at_call 30; (with_reducible refine HC.out.mono ?_); rintro e w4 ⟨rfl, h4, hk4'⟩; (have H4 := Lib.hid h4); (have HK4 := Lib.hid (HK1.out.trans hk4')); clear h4 hk4') | fail)
      go_end0
      exact ⟨rfl, .inr (by rw [txc_2]; exact H4.out), HK4.out⟩
    have t2 : (k == 2) = false := by simpa using q2
    by_cases q3 : k = 3
    · obtain ⟨hxl, hn1, hn6⟩ := hk3 q3
      subst q3
      have h0 : 0 < xs.length := by omega
      have h1 : 1 < xs.length := by omega
      obtain ⟨b0, o0, rfl, hrow⟩ := HROWX.out.resolve_left (by omega)
      obtain ⟨ck, cn, cq, ca, cl, cc, hnd, g0, g1, g2, g3⟩ := item_at hrow HOLD.out 0 h0
      simp only [Nat.zero_mul, Nat.add_zero] at g0 g1 g2 g3
      have hcx : cstN (xs[0]'h0) + cstN (xs[1]'h1) ≤ cstL xs := by
        obtain ⟨y, z, hyz⟩ := two_of hxl
        subst hyz
        simp only [List.getElem_cons_zero, List.getElem_cons_succ, cstL]
        omega
      have hsgl := sgnO_len n
      have HTX := Lib.hid (txc_3 n ⟨#[]⟩ xs cs [] [] h0 h1)
      have hle0 := HEL.out 0 h0
      have HC := Lib.hid (HEW.out 0 h0 _ l W1 hnd HOLD.out HB1.out (by omega))
      clear hnd
      have hx1 : (0 : Int) < xs.length := by omega
      have hx2 : (1 : Int) < xs.length := by omega
      go_upto_region 12 with (first | (go_at_call 97; (with_reducible refine (HE.out _).mono ?_); rintro e w2 ⟨rfl, rfl⟩) | (go_at_call 17; (with_reducible refine HC.out.mono ?_); rintro e w4 ⟨rfl, h4, hk4'⟩) | fail)
      have hX4 := HX1.out.kp hk4' hXb (by decide)
      have j1 : w4.cell? ⟨X, 1, none⟩ = some (.int .i64 n) := hX4.cell 1
      have HS := Lib.hid (fun w2 => osgn_any n w2)
      have HC2 := Lib.hid (sign_any T rest B0 b _ (sgnO n) w4 hT hT8 h4 (by simp only [List.length_append, show (sgnO n).size = (sgnO n).data.toList.length from rfl]; omega) (Nat.le_trans hB1 hk4'.size))
      have HX4 := Lib.hid hX4; clear hX4
      have HK4 := Lib.hid (HK1.out.trans hk4')
      have HOLD4 := Lib.hid (hk4'.old HOLD.out hB0)
      clear h4 hk4' HC g0 g1 g2 g3
      obtain ⟨SGN, hSGN⟩ : ∃ s, sgnO n = s := ⟨_, rfl⟩
      rw [hSGN] at HS HC2 hsgl
      have HSG := Lib.hid hSGN; clear hSGN
      go_upto_region 13 with (first | (go_at_call 98; (with_reducible refine (HS.out _).mono ?_); rintro e w5 ⟨rfl, rfl⟩) | (go_at_call 34; (with_reducible refine HC2.out.mono ?_); rintro e w6 ⟨rfl, h6, hk6'⟩) | fail)
      have hX6 := HX4.out.kp hk6' hXb (by decide)
      have j2 : w6.cell? ⟨X, 2, none⟩ = some (.slice (some ⟨b0, o0, none⟩) xs.length c2) := hX6.cell 2
      have hold6 := hk6'.old HOLD4.out hB0
      obtain ⟨ck, cn, cq, ca, cl, cc, hnd, g0, g1, g2, g3⟩ := item_at hrow hold6 1 h1
      simp only [Nat.one_mul] at g0 g1 g2 g3
      have HC3 := Lib.hid (HEW.out 1 h1 _ _ w6 hnd hold6 h6 (by simp only [List.length_append, List.length_cons, List.length_nil]; omega))
      have HK6 := Lib.hid (HK4.out.trans hk6')
      clear h6 hk6' hnd hrow hX6 hold6 HC2 HOLD4
      go_wp2_with fail
      refine HC3.out.mono ?_
      rintro e w7 ⟨rfl, h7, hk7⟩
      have H7 := Lib.hid h7; clear h7
      have HK7 := Lib.hid (HK6.out.trans hk7); clear hk7
      go_wp2_with fail
      go_end0
      exact ⟨rfl, by rw [HTX.out, HSG.out]; have := H7.out; simpa using this, HK7.out⟩
    have t3 : (k == 3) = false := by simpa using q3
    by_cases q4 : k = 4
    · have hl1 := hk4 q4
      subst q4
      have h0 : 0 < cs.length := by omega
      obtain ⟨b0, o0, rfl, hrow⟩ := HROW.out.resolve_left (by omega)
      have hcx := HCC.out 0 h0
      obtain rfl : lv = 3 := HLV.out.symm
      have HC := Lib.hid (ws_any T rest B0 b l ⟨#[33]⟩ W1 hT hT8 HB1.out (by simp only [show (⟨#[33]⟩ : ByteArray).size = 1 from rfl]; omega) hB1)
      have hx1 : (0 : Int) < cs.length := by omega
      go_upto_region 16 with (first | (go_at_call 97; (with_reducible refine (HE.out _).mono ?_); rintro e w2 ⟨rfl, rfl⟩) | (go_at_call 30; (with_reducible refine HC.out.mono ?_); rintro e w4 ⟨rfl, h4, hk4'⟩) | fail)
      obtain ⟨ck, cn, ca2, cl2, cc2, ca, cl, cc, hnd, g0, g1, g2, g3⟩ := citem_at hrow (hk4'.old HOLD.out hB0) 0 h0
      simp only [Nat.zero_mul, Nat.add_zero] at g0 g1 g2 g3
      have hX4 := HX1.out.kp hk4' hXb (by decide)
      have j3 : w4.cell? ⟨X, 3, none⟩ = some (.slice (some ⟨b0, o0, none⟩) cs.length c) := hX4.cell 3
      have HC2 := Lib.hid (part_any T rest hT hT8 w0 B0 b hB0 cs[0] (HCT.out 0 h0) (HCW.out 0 h0) (HCL.out 0 h0) _ 3 _ w4 hnd (hk4'.old HOLD.out hB0) (.inr h4) (by simp only [List.length_append, show (⟨#[33]⟩ : ByteArray).data.toList.length = 1 from rfl]; omega))
      have HK4 := Lib.hid (HK1.out.trans hk4')
      clear h4 hk4' hnd hrow hX4 HC
      go_wp2_with fail
      refine HC2.out.mono ?_
      rintro e w5 ⟨rfl, h5, hk5⟩
      have H5 := Lib.hid h5; clear h5
      have HK5 := Lib.hid (HK4.out.trans hk5); clear hk5
      go_wp2_with fail
      go_end0
      exact ⟨rfl, by rw [txc_4 _ _ _ _ _ _ h0]; have := H5.out; rw [List.append_assoc] at this; exact this, HK5.out⟩
    have t4 : (k == 4) = false := by simpa using q4
    have hl2 := hk6 (by omega)
    have h0 : 0 < cs.length := by omega
    have h1 : 1 < cs.length := by omega
    obtain ⟨b0, o0, rfl, hrow⟩ := HROW.out.resolve_left (by omega)
    obtain ⟨ck, cn, ca2, cl2, cc2, ca, cl, cc, hnd, g0, g1, g2, g3⟩ := citem_at hrow HOLD.out 0 h0
    simp only [Nat.zero_mul, Nat.add_zero] at g0 g1 g2 g3
    have hcx : cstN (cs[0]'h0) + cstN (cs[1]'h1) ≤ cstL cs := by
      obtain ⟨y, z, hyz⟩ := two_of hl2
      subst hyz
      simp only [List.getElem_cons_zero, List.getElem_cons_succ, cstL]
      omega
    have hsgl := sgnC_len k
    have HTX := Lib.hid (txc_e k n ⟨#[]⟩ xs cs [] [] h0 h1 ⟨q1, q2, q3, q4⟩)
    have hp0 := par_len (decide (levC (kdN cs[0]) < lv)) ⟨#[91]⟩ ⟨#[93]⟩ (txtN cs[0]) rfl rfl
    have hle0 := HCL.out 0 h0
    have HC := Lib.hid (part_any T rest hT hT8 w0 B0 b hB0 cs[0] (HCT.out 0 h0) (HCW.out 0 h0) (HCL.out 0 h0) _ lv l W1 hnd HOLD.out HB1.out (by omega))
    obtain ⟨P0, hP0⟩ : ∃ P, par (decide (levC (kdN cs[0]) < lv)) ⟨#[91]⟩ ⟨#[93]⟩ (txtN cs[0]) = P := ⟨_, rfl⟩
    rw [hP0] at HC hp0
    have HP0 := Lib.hid hP0
    clear hnd hP0 q1 q2 q3 q4
    have hx1 : (0 : Int) < cs.length := by omega
    have hx2 : (1 : Int) < cs.length := by omega
    go_upto_region 4 with (first | (go_at_call 97; (with_reducible refine (HE.out _).mono ?_); rintro e w2 ⟨rfl, rfl⟩) | (go_at_call 99; (with_reducible refine HC.out.mono ?_); rintro e w4 ⟨rfl, h4, hk4'⟩) | fail)
    have hX4 := HX1.out.kp hk4' hXb (by decide)
    have j0 : w4.cell? ⟨X, 0, none⟩ = some (.int .i64 k) := hX4.cell 0
    have HS := Lib.hid (fun w2 => csgn_any k w2)
    have HC2 := Lib.hid (sign_any T rest B0 b _ (sgnC k) w4 hT hT8 h4 (by simp only [List.length_append, show (sgnC k).size = (sgnC k).data.toList.length from rfl]; omega) (Nat.le_trans hB1 hk4'.size))
    have HX4 := Lib.hid hX4; clear hX4
    have HK4 := Lib.hid (HK1.out.trans hk4')
    have HOLD4 := Lib.hid (hk4'.old HOLD.out hB0)
    have hB4 : B0 ≤ w4.heap.size := Nat.le_trans hB1 hk4'.size
    clear h4 hk4' HC g0 g1 g2 g3
    obtain ⟨SGN, hSGN⟩ : ∃ s, sgnC k = s := ⟨_, rfl⟩
    rw [hSGN] at HS HC2 hsgl
    have HSG := Lib.hid hSGN; clear hSGN
    go_upto_region 5 with (first | (go_at_call 100; (with_reducible refine (HS.out _).mono ?_); rintro e w5 ⟨rfl, rfl⟩) | (go_at_call 34; (with_reducible refine HC2.out.mono ?_); rintro e w6 ⟨rfl, h6, hk6'⟩) | fail)
    have hX6 := HX4.out.kp hk6' hXb (by decide)
    have j3 : w6.cell? ⟨X, 3, none⟩ = some (.slice (some ⟨b0, o0, none⟩) cs.length c) := hX6.cell 3
    have hold6 := hk6'.old HOLD4.out hB0
    obtain ⟨ck, cn, ca2, cl2, cc2, ca, cl, cc, hnd, g0, g1, g2, g3⟩ := citem_at hrow hold6 1 h1
    simp only [Nat.one_mul] at g0 g1 g2 g3
    have HC3 := Lib.hid (part_any T rest hT hT8 w0 B0 b hB0 cs[1] (HCT.out 1 h1) (HCW.out 1 h1) (HCL.out 1 h1) _ (lv + 1) _ w6 hnd hold6 h6 (by simp only [List.length_append, List.length_cons, List.length_nil]; omega))
    have HK6 := Lib.hid (HK4.out.trans hk6')
    clear h6 hk6' hnd hrow hX6 hold6 HC2 HOLD4
    go_wp2_with fail
    refine HC3.out.mono ?_
    rintro e w7 ⟨rfl, h7, hk7⟩
    have H7 := Lib.hid h7; clear h7
    have HK7 := Lib.hid (HK6.out.trans hk7); clear hk7
    go_wp2_with fail
    go_end0
    exact ⟨rfl, by rw [HTX.out, HLV.out, HP0.out, HSG.out]; have := H7.out; simpa using this, HK7.out⟩
end Go.Proofs.YtbchibmmkmldiaaGreatDoor
