/-
  The lowering's cond: proved is that it lays the plain edges, for every condition that has its form.
-/
import Derived.Test.YtbhbmoppipohjaaGreatDoorQCfgH

namespace Go.Proofs.YtbhbmoppipohjaaGreatDoor
open Go Go.RowKit Go.Maps

theorem ccitem_at {w0 w : World} {cs : List Nd} {b0 o0 : Nat} (hr : RowIn w0 .C cs b0 o0) (hb : Below w0.heap.size w0 w) (i : Nat) (hi : i < cs.length) : ∃ k n a2 len2 c2 a len c, NdIn w0 cs[i] [.int .i64 k, .int .i64 n, .slice a2 len2 c2, .slice a len c] ∧ w.cell? ⟨b0, o0 + i * 4, none⟩ = some (.int .i64 k) ∧ w.cell? ⟨b0, o0 + i * 4 + 1, none⟩ = some (.int .i64 n) ∧ w.cell? ⟨b0, o0 + i * 4 + 2, none⟩ = some (.slice a2 len2 c2) ∧ w.cell? ⟨b0, o0 + i * 4 + 3, none⟩ = some (.slice a len c) := by
  obtain ⟨hty, vs, hc, hnd⟩ := RowIn.at cs b0 o0 i hi hr
  have hl := hnd.len
  rw [hty] at hl
  obtain ⟨v0, v1, v2, v3, rfl⟩ : ∃ a b c d, vs = [a, b, c, d] := by
    match vs, hl with
    | [a, b, c, d], _ => exact ⟨_, _, _, _, rfl⟩
  obtain ⟨k, n, a2, len2, c2, a, len, c, rfl, rfl, rfl, rfl⟩ := NdIn.formC hty hnd
  have kk := keeps_below hb
  exact ⟨k, n, a2, len2, c2, a, len, c, hnd, kk _ _ _ (hc 0 _ rfl), kk _ _ _ (hc 1 _ rfl), kk _ _ _ (hc 2 _ rfl), kk _ _ _ (hc 3 _ rfl)⟩
/-- An edge that has nothing but its kind is laid. -/
theorem lay_edge (K : Le) (hk : K.ok) (s : Lw) (r : Option Nat) (f t k : Int) (w : World) (h : La K w s r) (hf : Few s 1) :
    Calls Tryz.prog 130 #[.pointer (some ⟨K.M, 0, none⟩), edgeV (edgeE f t k)] w (Lows K unitT r w (s.add (edgeE f t k))) := cadd_any K hk s r _ w h hf
def CndC (K : Le) (w0 : World) (x : Nd) : Prop := ∀ (us : List Value) (f y n : Int) (s : Lw) (r : Option Nat) (w : World), NdIn w0 x us → Below w0.heap.size w0 w → La K w s r → Few s (4 * szN x) → szN x ≤ 1099511627776 →
  Calls Tryz.prog 133 #[.pointer (some ⟨K.M, 0, none⟩), .agg us.toArray, .int .i64 f, .int .i64 y, .int .i64 n] w (Lows K unitT r w (cdN K.E x f y n s))
set_option maxRecDepth 100000 in
set_option maxHeartbeats 8000000 in
theorem cond_any (K : Le) (hk : K.ok) (w0 : World) (hH : w0.heap.size ≤ K.H0) (htab : TabK w0) : ∀ (N : Nat) (x : Nd), SizeOf.sizeOf x ≤ N → x.ty = .C → fmN x → CndC K w0 x := by
  intro N
  induction N with
  | zero =>
    intro x hN
    obtain ⟨ty, k, n, nm, xs, cs, ts, es⟩ := x
    simp only [Nd.mk.sizeOf_spec] at hN
    omega
  | succ N ih =>
    intro x hN hty hok us f y n s r w hin hw h hf hd
    obtain ⟨ty, k, op, nm, xs, cs, ts, es⟩ := x
    simp only [Nd.mk.sizeOf_spec] at hN
    simp only [Nd.ty] at hty
    subst hty
    have hsz : szN (.mk .C k op nm xs cs ts es) = 1 + (szL xs + (szL cs + (szL ts + szL es))) := by rw [szN]
    unfold fmN at hok
    obtain ⟨⟨hk1, hk6, hx3, hc4, hc5⟩, hfx, hfc, -⟩ := hok
    have hch : ∀ i (hi : i < cs.length), CndC K w0 cs[i] := fun i hi => ih cs[i] (by have := List.sizeOf_lt_of_mem (List.getElem_mem (l := cs) (n := i) hi); omega) (fmL_at hfc i hi).1 (fmL_at hfc i hi).2
    have hsa : ∀ i (hi : i < cs.length), szN cs[i] = szA cs i := fun i hi => by unfold szA; rw [List.getElem?_eq_getElem hi]
    have hsl := szA_le cs
    have hat := fun i (hi : i < cs.length) => cdL_at K.E cs i hi
    clear ih hN
    unfold NdIn at hin
    obtain ⟨hz, -, -, -, vx, vc, vt, ve, rfl, hxs, hcs, -⟩ := hin
    simp only [fits] at hz
    obtain ⟨rfl, rfl, rfl⟩ := hz
    have hsv : ∃ a c, vx = .slice a xs.length c := by obtain ⟨a, c, h, -⟩ := hxs; exact ⟨a, c, h⟩
    obtain ⟨ax, cx, rfl⟩ := hsv
    obtain ⟨ac, cc, rfl, -, -, hrow⟩ := hcs
    change Calls _ _ #[_, .agg #[.int .i64 k, .int .i64 op, .slice ax xs.length cx, .slice ac cs.length cc], _, _, _] w _
    rw [cdN]
    have hX0 := Tl.new h #[.int .i64 k, .int .i64 op, .slice ax xs.length cx, .slice ac cs.length cc] 148
    have h1 := h.alloc hk (.cells #[.int .i64 k, .int .i64 op, .slice ax xs.length cx, .slice ac cs.length cc] 148)
    have hkr : Kl K r r w (w.alloc (.cells #[.int .i64 k, .int .i64 op, .slice ax xs.length cx, .slice ac cs.length cc] 148)) := (Kl.refl K r w).alloc _
    obtain ⟨W1, hW1⟩ : ∃ W1, w.alloc (.cells #[.int .i64 k, .int .i64 op, .slice ax xs.length cx, .slice ac cs.length cc] 148) = W1 := ⟨_, rfl⟩
    rw [hW1] at hX0 h1 hkr
    obtain ⟨X, hX⟩ : ∃ X, w.heap.size = X := ⟨_, rfl⟩
    rw [hX] at hX0
    have hold1 : Below w0.heap.size w0 W1 := hw.trans ((hkr.old hk h).mono hH)
    have x0 := hX0.blk.cell
    rw [hsz] at hf hd
    have hfp := hf.p
    have hfe := hf.e
    simp only [szL, Nat.add_zero] at hfp hfe hd
    have HF := Lib.hid (And.intro hfp (And.intro hfe (And.intro hd hsl)))
    have HB := Lib.hid (And.intro hX0 (And.intro h1 (And.intro hkr (And.intro hold1 (And.intro h hw)))))
    have HE := Lib.hid (And.intro hW1 hX)
    have HCH := Lib.hid (And.intro hch (And.intro hsa hat))
    have HROW := Lib.hid hrow
    have HCMP := Lib.hid (fun (hl : xs.length = 2) (hf : Few s (4 * szL xs + 4)) (hd : szL xs ≤ 1099511627776) => compare_any K hk w0 hH htab k op xs hl hfx _ hxs ac cs.length cc f y n s r W1 hold1 h1 hf hd)
    have HLN := Lib.hid (And.intro hx3 (And.intro hc4 hc5))
    clear hX0 h1 hkr hW1 hX hold1 h hw hf hfp hfe hd hsl hch hsa hat hrow hxs hfx hfc hsz htab hx3 hc4 hc5
    have hcase : k = 1 ∨ k = 2 ∨ k = 3 ∨ k = 4 ∨ k = 5 ∨ k = 6 := by omega
    clear hk1 hk6
    have HED := Lib.hid (fun t w => cedge_any f t 1 w)
    rcases hcase with rfl | rfl | rfl | rfl | rfl | rfl
    · show Calls _ _ _ w (Lows K unitT r w (s.add (edgeE f y 1)))
      have HAD := Lib.hid (fun r w (h : La K w s r) => lay_edge K hk s r f y 1 w h ⟨by have := HF.out; omega, by have := HF.out; omega⟩)
      go_enter Tryz.func133, Tryz.ntmps133
      go_upto_region 1 with fail
      rw [HE.out.1, HE.out.2]
      go_wp2_with (first | (go_at_call 129; (with_reducible refine (HED.out y _).mono ?_); rintro e w2 ⟨rfl, hb2⟩; have HB2 := Lib.hid hb2; clear hb2) | (go_at_call 130; (with_reducible refine (HAD.out _ _ (HB.out.2.1.next hk HB2.out)).mono ?_); rintro e w3 ⟨rfl, r3, hk3, h3⟩) | fail)
      go_end0
      exact ⟨rfl, r3, (HB.out.2.2.1.trans (Kl.below HB2.out)).trans hk3, h3⟩
    · show Calls _ _ _ w (Lows K unitT r w (s.add (edgeE f n 1)))
      have HAD := Lib.hid (fun r w (h : La K w s r) => lay_edge K hk s r f n 1 w h ⟨by have := HF.out; omega, by have := HF.out; omega⟩)
      go_enter Tryz.func133, Tryz.ntmps133
      go_upto_region 1 with fail
      rw [HE.out.1, HE.out.2]
      go_wp2_with (first | (go_at_call 129; (with_reducible refine (HED.out n _).mono ?_); rintro e w2 ⟨rfl, hb2⟩; have HB2 := Lib.hid hb2; clear hb2) | (go_at_call 130; (with_reducible refine (HAD.out _ _ (HB.out.2.1.next hk HB2.out)).mono ?_); rintro e w3 ⟨rfl, r3, hk3, h3⟩) | fail)
      go_end0
      exact ⟨rfl, r3, (HB.out.2.2.1.trans (Kl.below HB2.out)).trans hk3, h3⟩
    · show Calls _ _ _ w (Lows K unitT r w (cmpE K.E op xs f y n s))
      have HC := Lib.hid (HCMP.out (HLN.out.1 rfl) ⟨by have := HF.out; omega, by have := HF.out; omega⟩ (by have := HF.out; omega))
      clear HCMP
      go_enter Tryz.func133, Tryz.ntmps133
      go_upto_region 1 with fail
      rw [HE.out.1, HE.out.2]
      go_wp2_with (first | (go_at_call 150; (with_reducible refine HC.out.mono ?_); rintro e w3 ⟨rfl, r3, hk3, h3⟩) | fail)
      go_end0
      exact ⟨rfl, r3, HB.out.2.2.1.trans hk3, h3⟩
    · have i0 : 0 < cs.length := by have := HLN.out.2.1 rfl; omega
      show Calls _ _ _ w (Lows K unitT r w (cnR (cdL K.E cs) 0 f n y s))
      obtain ⟨b0, o0, rfl, hrw⟩ := HROW.out.resolve_left (by omega)
      obtain ⟨fk, fn, fa2, fl2, fc2, fa, fl, fc, hnd, k0, k1, k2, k3⟩ := ccitem_at hrw HB.out.2.2.2.1 0 i0
      simp only [Nat.zero_mul, Nat.add_zero] at k0 k1 k2 k3
      have HC := Lib.hid (HCH.out.1 0 i0 _ f n y s r W1 hnd HB.out.2.2.2.1 HB.out.2.1 ⟨by have := HF.out; have := HCH.out.2.1 0 i0; omega, by have := HF.out; have := HCH.out.2.1 0 i0; omega⟩ (by have := HF.out; have := HCH.out.2.1 0 i0; omega))
      rw [HCH.out.2.2 0 i0]
      have hlb : (0 : Int) < cs.length := by omega
      clear hnd hrw
      go_enter Tryz.func133, Tryz.ntmps133
      go_upto_region 1 with fail
      rw [HE.out.1, HE.out.2]
      go_wp2_with (first | (go_at_call 133; (with_reducible refine HC.out.mono ?_); rintro e w3 ⟨rfl, r3, hk3, h3⟩) | fail)
      go_end0
      exact ⟨rfl, r3, HB.out.2.2.1.trans hk3, h3⟩
    · have i1 : 1 < cs.length := by have := HLN.out.2.2 (by omega); omega
      have i0 : 0 < cs.length := by omega
      show Calls _ _ _ w (Lows K unitT r w (cnR (cdL K.E cs) 1 s.pts y n (cnR (cdL K.E cs) 0 f s.pts n s.fresh)))
      obtain ⟨b0, o0, rfl, hrw⟩ := HROW.out.resolve_left (by omega)
      have HFR := Lib.hid (fresh_any K hk s r W1 HB.out.2.1 ⟨by have := HF.out; omega, by have := HF.out; omega⟩)
      rw [HCH.out.2.2 0 i0, HCH.out.2.2 1 i1]
      have e0 := HCH.out.2.1 0 i0
      have e1 := HCH.out.2.1 1 i1
      have hg := cdN_gr K.E cs[0] f s.pts n s.fresh
      have hf1 : Few s.fresh (4 * szN cs[0]) := ⟨by have := HF.out; show s.pts + 1 + _ ≤ _; omega, by have := HF.out; show s.eds.length + _ ≤ _; omega⟩
      have hf2 : Few (cdN K.E cs[0] f s.pts n s.fresh) (4 * szN cs[1]) := ⟨by have := HF.out; have := hg.p1; have e : s.fresh.pts = s.pts + 1 := rfl; rw [e] at this; omega, by have := HF.out; have := hg.e1; have e : s.fresh.eds = s.eds := rfl; rw [e] at this; omega⟩
      have hd0 : szN cs[0] ≤ 1099511627776 := by have := HF.out; omega
      have hd1 : szN cs[1] ≤ 1099511627776 := by have := HF.out; omega
      have HX := Lib.hid (And.intro hrw (And.intro hf1 (And.intro hf2 (And.intro hd0 hd1))))
      have hlb : (1 : Int) < cs.length := by omega
      have hlb0 : (0 : Int) < cs.length := by omega
      clear hrw e0 e1 hg hf1 hf2 hd0 hd1
      go_enter Tryz.func133, Tryz.ntmps133
      go_upto_region 1 with fail
      rw [HE.out.1, HE.out.2]
      go_upto_region 12 with (first | (go_at_call 48; (with_reducible refine HFR.out.mono ?_); rintro e w3 ⟨rfl, r3, hk3, h3⟩; have H3 := Lib.hid (And.intro hk3 h3); clear hk3 h3 x0) | fail)
      have hkr3 := HB.out.2.2.1.trans H3.out.1
      have hold3 := HB.out.2.2.2.2.2.trans ((hkr3.old hk HB.out.2.2.2.2.1).mono hH)
      have x3 := (HB.out.1.kr hk H3.out.1).blk.cell
      obtain ⟨fk, fn, fa2, fl2, fc2, fa, fl, fc, hnd, k0, k1, k2, k3⟩ := ccitem_at HX.out.1 hold3 0 i0
      simp only [Nat.zero_mul, Nat.add_zero] at k0 k1 k2 k3
      have HC := Lib.hid (HCH.out.1 0 i0 _ f s.pts n s.fresh r3 w3 hnd hold3 H3.out.2 HX.out.2.1 HX.out.2.2.2.1)
      have HKR := Lib.hid (And.intro hkr3 (HB.out.1.kr hk H3.out.1))
      clear hkr3 hold3 hnd
      go_upto_region 13 with (first | (go_at_call 133; (with_reducible refine HC.out.mono ?_); rintro e w4 ⟨rfl, r4, hk4, h4⟩; have H4 := Lib.hid (And.intro hk4 h4); clear hk4 h4 x3 k0 k1 k2 k3) | fail)
      have hkr4 := HKR.out.1.trans H4.out.1
      have hold4 := HB.out.2.2.2.2.2.trans ((hkr4.old hk HB.out.2.2.2.2.1).mono hH)
      have x4 := (HKR.out.2.kr hk H4.out.1).blk.cell
      obtain ⟨gk, gn, ga2, gl2, gc2, ga, gl, gc, hnd, k0, k1, k2, k3⟩ := ccitem_at HX.out.1 hold4 1 i1
      simp only [Nat.one_mul] at k0 k1 k2 k3
      have HC2 := Lib.hid (HCH.out.1 1 i1 _ s.pts y n _ r4 w4 hnd hold4 H4.out.2 HX.out.2.2.1 HX.out.2.2.2.2)
      have HKR4 := Lib.hid hkr4
      clear hkr4 hold4 hnd HC
      go_wp2_with (first | (go_at_call 133; (with_reducible refine HC2.out.mono ?_); rintro e w5 ⟨rfl, r5, hk5, h5⟩) | fail)
      go_end0
      exact ⟨rfl, r5, HKR4.out.trans hk5, h5⟩
    · have i1 : 1 < cs.length := by have := HLN.out.2.2 (by omega); omega
      have i0 : 0 < cs.length := by omega
      show Calls _ _ _ w (Lows K unitT r w (cnR (cdL K.E cs) 1 s.pts y n (cnR (cdL K.E cs) 0 f y s.pts s.fresh)))
      obtain ⟨b0, o0, rfl, hrw⟩ := HROW.out.resolve_left (by omega)
      have HFR := Lib.hid (fresh_any K hk s r W1 HB.out.2.1 ⟨by have := HF.out; omega, by have := HF.out; omega⟩)
      rw [HCH.out.2.2 0 i0, HCH.out.2.2 1 i1]
      have e0 := HCH.out.2.1 0 i0
      have e1 := HCH.out.2.1 1 i1
      have hg := cdN_gr K.E cs[0] f y s.pts s.fresh
      have hf1 : Few s.fresh (4 * szN cs[0]) := ⟨by have := HF.out; show s.pts + 1 + _ ≤ _; omega, by have := HF.out; show s.eds.length + _ ≤ _; omega⟩
      have hf2 : Few (cdN K.E cs[0] f y s.pts s.fresh) (4 * szN cs[1]) := ⟨by have := HF.out; have := hg.p1; have e : s.fresh.pts = s.pts + 1 := rfl; rw [e] at this; omega, by have := HF.out; have := hg.e1; have e : s.fresh.eds = s.eds := rfl; rw [e] at this; omega⟩
      have hd0 : szN cs[0] ≤ 1099511627776 := by have := HF.out; omega
      have hd1 : szN cs[1] ≤ 1099511627776 := by have := HF.out; omega
      have HX := Lib.hid (And.intro hrw (And.intro hf1 (And.intro hf2 (And.intro hd0 hd1))))
      have hlb : (1 : Int) < cs.length := by omega
      have hlb0 : (0 : Int) < cs.length := by omega
      clear hrw e0 e1 hg hf1 hf2 hd0 hd1
      go_enter Tryz.func133, Tryz.ntmps133
      go_upto_region 1 with fail
      rw [HE.out.1, HE.out.2]
      go_upto_region 16 with (first | (go_at_call 48; (with_reducible refine HFR.out.mono ?_); rintro e w3 ⟨rfl, r3, hk3, h3⟩; have H3 := Lib.hid (And.intro hk3 h3); clear hk3 h3 x0) | fail)
      have hkr3 := HB.out.2.2.1.trans H3.out.1
      have hold3 := HB.out.2.2.2.2.2.trans ((hkr3.old hk HB.out.2.2.2.2.1).mono hH)
      have x3 := (HB.out.1.kr hk H3.out.1).blk.cell
      obtain ⟨fk, fn, fa2, fl2, fc2, fa, fl, fc, hnd, k0, k1, k2, k3⟩ := ccitem_at HX.out.1 hold3 0 i0
      simp only [Nat.zero_mul, Nat.add_zero] at k0 k1 k2 k3
      have HC := Lib.hid (HCH.out.1 0 i0 _ f y s.pts s.fresh r3 w3 hnd hold3 H3.out.2 HX.out.2.1 HX.out.2.2.2.1)
      have HKR := Lib.hid (And.intro hkr3 (HB.out.1.kr hk H3.out.1))
      clear hkr3 hold3 hnd
      go_upto_region 17 with (first | (go_at_call 133; (with_reducible refine HC.out.mono ?_); rintro e w4 ⟨rfl, r4, hk4, h4⟩; have H4 := Lib.hid (And.intro hk4 h4); clear hk4 h4 x3 k0 k1 k2 k3) | fail)
      have hkr4 := HKR.out.1.trans H4.out.1
      have hold4 := HB.out.2.2.2.2.2.trans ((hkr4.old hk HB.out.2.2.2.2.1).mono hH)
      have x4 := (HKR.out.2.kr hk H4.out.1).blk.cell
      obtain ⟨gk, gn, ga2, gl2, gc2, ga, gl, gc, hnd, k0, k1, k2, k3⟩ := ccitem_at HX.out.1 hold4 1 i1
      simp only [Nat.one_mul] at k0 k1 k2 k3
      have HC2 := Lib.hid (HCH.out.1 1 i1 _ s.pts y n _ r4 w4 hnd hold4 H4.out.2 HX.out.2.2.1 HX.out.2.2.2.2)
      have HKR4 := Lib.hid hkr4
      clear hkr4 hold4 hnd HC
      go_wp2_with (first | (go_at_call 133; (with_reducible refine HC2.out.mono ?_); rintro e w5 ⟨rfl, r5, hk5, h5⟩) | fail)
      go_end0
      exact ⟨rfl, r5, HKR4.out.trans hk5, h5⟩
end Go.Proofs.YtbhbmoppipohjaaGreatDoor
