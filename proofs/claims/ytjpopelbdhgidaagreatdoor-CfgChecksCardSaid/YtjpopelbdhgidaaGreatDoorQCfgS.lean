/-
  The lowering's store: proved is that it lays the plain edges.
-/
import Derived.Test.YtjpopelbdhgidaaGreatDoorQCfgK

namespace Go.Proofs.YtjpopelbdhgidaaGreatDoor
open Go Go.RowKit Go.Maps

set_option maxRecDepth 100000 in
set_option maxHeartbeats 8000000 in
theorem store_any (K : Le) (hk : K.ok) (w0 : World) (hH : w0.heap.size ≤ K.H0) (htab : TabK w0) (x : Nd) (hty : x.ty = .S) (hk1 : kindN x = 2) (hok : fmN x) : StC K w0 136 x := by
  intro us f t s r w hin hw h hf hd
  obtain ⟨ty, k, n, nm, xs, cs, ts, es⟩ := x
  simp only [Nd.ty] at hty
  subst hty
  have hkk : k = 2 := hk1
  subst hkk
  have hsz : szN (.mk .S 2 n nm xs cs ts es) = 1 + (szL xs + (szL cs + (szL ts + szL es))) := by rw [szN]
  unfold fmN at hok
  obtain ⟨⟨-, -, -, hx2, -⟩, hfx, -⟩ := hok
  have hlen := hx2 rfl
  unfold NdIn at hin
  obtain ⟨hz, -, -, hnm, vx, vc, vt, ve, rfl, hxs, hcs, hts, hes⟩ := hin
  have hsx : ∃ a c, vx = .slice a xs.length c := by obtain ⟨a, c, h, -⟩ := hxs; exact ⟨a, c, h⟩
  have hsc : ∃ a c, vc = .slice a cs.length c := by obtain ⟨a, c, h, -⟩ := hcs; exact ⟨a, c, h⟩
  have hst : ∃ a c, vt = .slice a ts.length c := by obtain ⟨a, c, h, -⟩ := hts; exact ⟨a, c, h⟩
  have hse : ∃ a c, ve = .slice a es.length c := by obtain ⟨a, c, h, -⟩ := hes; exact ⟨a, c, h⟩
  obtain ⟨ax, cx, rfl⟩ := hsx
  obtain ⟨ac, cc, rfl⟩ := hsc
  obtain ⟨aT, cT, rfl⟩ := hst
  obtain ⟨aE, cE, rfl⟩ := hse
  have hops := ops_any K hk w0 hH htab xs (by omega) hfx
  change Calls _ _ #[_, .agg #[.int .i64 2, .string nm, .slice ax xs.length cx, .slice ac cs.length cc, .slice aT ts.length cT, .slice aE es.length cE], _, _] w _
  rw [lwN]
  show Calls _ _ _ w (Lows K unitT r w (stoP K.E nm xs f t s))
  unfold stoP
  have hX0 := Tl.new h #[.int .i64 2, .string nm, .slice ax xs.length cx, .slice ac cs.length cc, .slice aT ts.length cT, .slice aE es.length cE] 72
  have h1 := h.alloc hk (.cells #[.int .i64 2, .string nm, .slice ax xs.length cx, .slice ac cs.length cc, .slice aT ts.length cT, .slice aE es.length cE] 72)
  have hkr : Kl K r r w (w.alloc (.cells #[.int .i64 2, .string nm, .slice ax xs.length cx, .slice ac cs.length cc, .slice aT ts.length cT, .slice aE es.length cE] 72)) := (Kl.refl K r w).alloc _
  obtain ⟨W1, hW1⟩ : ∃ W1, w.alloc (.cells #[.int .i64 2, .string nm, .slice ax xs.length cx, .slice ac cs.length cc, .slice aT ts.length cT, .slice aE es.length cE] 72) = W1 := ⟨_, rfl⟩
  rw [hW1] at hX0 h1 hkr
  obtain ⟨X, hX⟩ : ∃ X, w.heap.size = X := ⟨_, rfl⟩
  rw [hX] at hX0
  have hold1 : Below w0.heap.size w0 W1 := hw.trans ((hkr.old hk h).mono hH)
  rw [hsz] at hf hd
  have hgr := opsL_gr K.E xs f 0 s
  have HO := Lib.hid (hops _ f 0 s r W1 hxs hold1 h1 ⟨by have := hf.p; omega, by have := hf.e; omega⟩ (by omega) (by omega))
  obtain ⟨⟨os, q2, s2⟩, hop⟩ : ∃ p, opsL K.E xs f 0 s = p := ⟨_, rfl⟩
  rw [hop] at hgr
  simp only [hop] at HO hgr ⊢
  have hf2 : Few s2 1 := ⟨by have := hf.p; have := hgr.p1; omega, by have := hf.e; have := hgr.e1; omega⟩
  have x0 := hX0.blk.cell
  have HH := Lib.hid (And.intro h (And.intro hw (And.intro hf2 hnm)))
  have HB := Lib.hid (And.intro hX0 (And.intro h1 hkr))
  have HE := Lib.hid (And.intro hW1 hX)
  obtain ⟨PL, hPL⟩ : ∃ z : Nat, K.E.pl nm = z := ⟨_, rfl⟩
  rw [hPL]
  have HPL := Lib.hid hPL
  clear hX0 h1 hkr hW1 hX hold1 hgr hop hf2 hxs hcs hts hes htab hf hops hd hw h hfx hsz hx2 hlen hz hk1 hPL
  go_enter Tryz.func136, Tryz.ntmps136
  go_upto_region 1 with fail
  rw [HE.out.1, HE.out.2]
  go_upto_region 2 with (first | (go_at_call 177; (with_reducible refine HO.out.mono ?_); rintro e w3 ⟨rfl, r3, hk3, h3⟩; have H3 := Lib.hid (And.intro hk3 h3); clear hk3 h3 x0) | fail)
  have hb4 : Below w3.heap.size w3 (w3.alloc (.cells #[.int .i64 (op0 os).1, .int .i64 (op0 os).2, .int .i64 (op1 os).1, .int .i64 (op1 os).2] 244)) := (Below.refl _ w3).alloc (Nat.le_refl _) _
  have hO4 := Tl.new H3.out.2 #[.int .i64 (op0 os).1, .int .i64 (op0 os).2, .int .i64 (op1 os).1, .int .i64 (op1 os).2] 244
  have h4 := H3.out.2.next hk hb4
  have hX4 := (HB.out.1.kr hk H3.out.1).next hb4
  have hkr4 := (HB.out.2.2.trans H3.out.1).trans (Kl.below hb4)
  obtain ⟨W4, hW4⟩ : ∃ W, w3.alloc (.cells #[.int .i64 (op0 os).1, .int .i64 (op0 os).2, .int .i64 (op1 os).1, .int .i64 (op1 os).2] 244) = W := ⟨_, rfl⟩
  obtain ⟨O, hO⟩ : ∃ O, w3.heap.size = O := ⟨_, rfl⟩
  rw [hW4] at hO4 h4 hX4 hkr4
  rw [hO] at hO4
  rw [hW4, hO]
  have HED := Lib.hid (fun w => show Calls Tryz.prog 174 #[.int .i64 q2, .int .i64 t, .int .i64 11] w (fun e w' => e = .returned (.agg #[.int .i64 q2, .int .i64 t, .int .i64 11, .int .i64 (-1), .int .i64 (-1), .int .i64 0, .int .i64 (-1), .int .i64 0, .int .i64 (-1), .int .i64 0]) ∧ Below w.heap.size w w') from cedge_any q2 t 11 w)
  have H4 := Lib.hid (And.intro hO4 (And.intro h4 (And.intro hX4 hkr4)))
  clear hb4 hO4 h4 hX4 hkr4 hW4 hO
  go_upto_region 3 with (first | (go_at_call 174; (with_reducible refine (HED.out _).mono ?_); rintro e w5 ⟨rfl, hb5⟩; have HB5 := Lib.hid hb5; clear hb5) | fail)
  have hb6 : Below W4.heap.size W4 (w5.alloc (.cells #[.int .i64 q2, .int .i64 t, .int .i64 11, .int .i64 (-1), .int .i64 (-1), .int .i64 0, .int .i64 (-1), .int .i64 0, .int .i64 (-1), .int .i64 0] 40)) := HB5.out.alloc HB5.out.size _
  have h5 := H4.out.2.1.next hk HB5.out
  have hL6 := Tl.new h5 #[.int .i64 q2, .int .i64 t, .int .i64 11, .int .i64 (-1), .int .i64 (-1), .int .i64 0, .int .i64 (-1), .int .i64 0, .int .i64 (-1), .int .i64 0] 40
  have h6 := H4.out.2.1.next hk hb6
  have hX6 := H4.out.2.2.1.next hb6
  have hO6 := H4.out.1.next hb6
  have hkr6 := H4.out.2.2.2.trans (Kl.below hb6)
  have hOL : O < w5.heap.size := Nat.lt_of_lt_of_le H4.out.1.blk.lt HB5.out.size
  have hXL : X < w5.heap.size := Nat.lt_of_lt_of_le H4.out.2.2.1.blk.lt HB5.out.size
  obtain ⟨W6, hW6⟩ : ∃ W, w5.alloc (.cells #[.int .i64 q2, .int .i64 t, .int .i64 11, .int .i64 (-1), .int .i64 (-1), .int .i64 0, .int .i64 (-1), .int .i64 0, .int .i64 (-1), .int .i64 0] 40) = W := ⟨_, rfl⟩
  obtain ⟨L, hL⟩ : ∃ L, w5.heap.size = L := ⟨_, rfl⟩
  rw [hW6] at hL6 h6 hX6 hO6 hkr6
  rw [hL] at hL6 hOL hXL
  rw [hW6, hL]
  have o0 := hO6.blk.cell 0
  have o1 := hO6.blk.cell 1
  have o2 := hO6.blk.cell 2
  have o3 := hO6.blk.cell 3
  have x1 : W6.cell? ⟨X, 1, none⟩ = some (.string nm) := hX6.blk.cell 1
  have l0 := hL6.blk.cell
  have l1 := hL6.blk.free
  have hneO : O ≠ L := by omega
  have hneX : X ≠ L := by omega
  have HGL := Lib.hid (show w.heap.size ≤ L by have := H4.out.2.2.2.size; have := HB5.out.size; omega)
  obtain ⟨ve, hm, he⟩ := h6
  have h6 : La K W6 s2 r3 := ⟨ve, hm, he⟩
  obtain ⟨ve', hm', he'⟩ := h6.drew hk
  have hl1 := hm.look hk nm HH.out.2.2.2
  have hl2 := hm'.look hk nm HH.out.2.2.2
  rw [HPL.out] at hl1 hl2
  have c0 : W6.cell? ⟨K.M, 0, none⟩ = some (.map (some K.G)) := hm.mach.cell 0
  have hML : K.M ≠ L := by have := hm.mach.lt; have := hL6.base; have := hk.m1; omega
  have H6 := Lib.hid (And.intro hL6 (And.intro h6 hkr6))
  clear hb6 h5 hL6 hX6 hO6 hkr6 hOL hXL hW6 hL hm he hm' he' h6
  go_cut [19] (fun _ wx => Blk wx L #[.int .i64 q2, .int .i64 t, .int .i64 11, .int .i64 (-1), .int .i64 (PL : Int), .int .i64 0, .int .i64 (op0 os).1, .int .i64 (op0 os).2, .int .i64 (op1 os).1, .int .i64 (op1 os).2] 40 ∧ Only L W6 wx)
  case first =>
    go_region
    all_goals
      go_wp2_with fail
      go_meet
      have d0 : Blk (W6.setCell ⟨L, 4, none⟩ (.int .i64 (PL : Int))) L #[.int .i64 q2, .int .i64 t, .int .i64 11, .int .i64 (-1), .int .i64 (PL : Int), .int .i64 0, .int .i64 (-1), .int .i64 0, .int .i64 (-1), .int .i64 0] 40 := H6.out.1.blk.set 4 (.int .i64 (PL : Int))
      have d1 : Blk ((W6.setCell ⟨L, 4, none⟩ (.int .i64 (PL : Int))).setCell ⟨L, 6, none⟩ (.int .i64 (op0 os).1)) L #[.int .i64 q2, .int .i64 t, .int .i64 11, .int .i64 (-1), .int .i64 (PL : Int), .int .i64 0, .int .i64 (op0 os).1, .int .i64 0, .int .i64 (-1), .int .i64 0] 40 := d0.set 6 (.int .i64 (op0 os).1)
      have d2 : Blk (((W6.setCell ⟨L, 4, none⟩ (.int .i64 (PL : Int))).setCell ⟨L, 6, none⟩ (.int .i64 (op0 os).1)).setCell ⟨L, 7, none⟩ (.int .i64 (op0 os).2)) L #[.int .i64 q2, .int .i64 t, .int .i64 11, .int .i64 (-1), .int .i64 (PL : Int), .int .i64 0, .int .i64 (op0 os).1, .int .i64 (op0 os).2, .int .i64 (-1), .int .i64 0] 40 := d1.set 7 (.int .i64 (op0 os).2)
      have d3 : Blk ((((W6.setCell ⟨L, 4, none⟩ (.int .i64 (PL : Int))).setCell ⟨L, 6, none⟩ (.int .i64 (op0 os).1)).setCell ⟨L, 7, none⟩ (.int .i64 (op0 os).2)).setCell ⟨L, 8, none⟩ (.int .i64 (op1 os).1)) L #[.int .i64 q2, .int .i64 t, .int .i64 11, .int .i64 (-1), .int .i64 (PL : Int), .int .i64 0, .int .i64 (op0 os).1, .int .i64 (op0 os).2, .int .i64 (op1 os).1, .int .i64 0] 40 := d2.set 8 (.int .i64 (op1 os).1)
      have d4 : Blk (((((W6.setCell ⟨L, 4, none⟩ (.int .i64 (PL : Int))).setCell ⟨L, 6, none⟩ (.int .i64 (op0 os).1)).setCell ⟨L, 7, none⟩ (.int .i64 (op0 os).2)).setCell ⟨L, 8, none⟩ (.int .i64 (op1 os).1)).setCell ⟨L, 9, none⟩ (.int .i64 (op1 os).2)) L #[.int .i64 q2, .int .i64 t, .int .i64 11, .int .i64 (-1), .int .i64 (PL : Int), .int .i64 0, .int .i64 (op0 os).1, .int .i64 (op0 os).2, .int .i64 (op1 os).1, .int .i64 (op1 os).2] 40 := d3.set 9 (.int .i64 (op1 os).2)
      exact ⟨d4, ((((((Only.refl L W6).setCell (p := ⟨L, 4, none⟩) rfl (.int .i64 (PL : Int))).setCell (p := ⟨L, 6, none⟩) rfl (.int .i64 (op0 os).1)).setCell (p := ⟨L, 7, none⟩) rfl (.int .i64 (op0 os).2)).setCell (p := ⟨L, 8, none⟩) rfl (.int .i64 (op1 os).1)).setCell (p := ⟨L, 9, none⟩) rfl (.int .i64 (op1 os).2)).trans (Only.below (B := L) (Below.refl _ _).drew)⟩
  case rest =>
    obtain ⟨hbc, hoc⟩ := hcut
    have hlc := H6.out.2.1.tmp hk H6.out.1.base H6.out.1.row hoc
    have hkc := H6.out.2.2.one hoc HGL.out
    have l2 := hbc.cell
    have HA := Lib.hid (show Calls Tryz.prog 175 #[.pointer (some ⟨K.M, 0, none⟩), .agg #[.int .i64 q2, .int .i64 t, .int .i64 11, .int .i64 (-1), .int .i64 (PL : Int), .int .i64 0, .int .i64 (op0 os).1, .int .i64 (op0 os).2, .int .i64 (op1 os).1, .int .i64 (op1 os).2]] wc (Lows K unitT r3 wc (s2.add ⟨q2, t, 11, -1, (PL : Int), 0, (op0 os).1, (op0 os).2, (op1 os).1, (op1 os).2⟩)) from cadd_any K hk s2 r3 ⟨q2, t, 11, -1, (PL : Int), 0, (op0 os).1, (op0 os).2, (op1 os).1, (op1 os).2⟩ wc hlc HH.out.2.2.1)
    have HC := Lib.hid hkc
    clear hbc hoc hlc hkc o0 o1 o2 o3 l0 l1 hneO x1 hneX hl1 hl2 c0 hML
    go_wp2_with (first | (go_at_call 175; (with_reducible refine HA.out.mono ?_); rintro e w9 ⟨rfl, r9, hk9, h9⟩) | fail)
    go_end0
    exact ⟨rfl, r9, HC.out.trans hk9, h9⟩
end Go.Proofs.YtjpopelbdhgidaaGreatDoor
