/-
  The project's show of conditions, statements, declarations: proved is what each makes of a tour.
-/
import Derived.Test.YtbchibmmkmldiaaGreatDoorTourE
namespace Go.Proofs.YtbchibmmkmldiaaGreatDoor
open Go Go.RowKit

theorem condNode_any (v0 v1 v2 v3 : Value) (w : World) :
    Calls Tryz.prog 128 #[.agg #[v0, v1, v2, v3]] w fun e w' => e = .returned (nodeV .C [v0, v1, v2, v3]) ∧ Below w.heap.size w w' := by
  go_enter Tryz.func128, Tryz.ntmps128
  go_wp2
  go_ret
  exact ⟨rfl, (Below.refl _ _).alloc (Nat.le_refl _) _⟩
theorem stmtNode_any (v0 v1 v2 v3 v4 v5 : Value) (w : World) :
    Calls Tryz.prog 40 #[.agg #[v0, v1, v2, v3, v4, v5]] w fun e w' => e = .returned (nodeV .S [v0, v1, v2, v3, v4, v5]) ∧ Below w.heap.size w w' := by
  go_enter Tryz.func40, Tryz.ntmps40
  go_wp2
  go_ret
  exact ⟨rfl, (Below.refl _ _).alloc (Nat.le_refl _) _⟩
theorem declNode_any (v0 v1 : Value) (w : World) :
    Calls Tryz.prog 38 #[.agg #[v0, v1]] w fun e w' => e = .returned (nodeV .D [v0, v1]) ∧ Below w.heap.size w w' := by
  go_enter Tryz.func38, Tryz.ntmps38
  go_wp2
  go_ret
  exact ⟨rfl, (Below.refl _ _).alloc (Nat.le_refl _) _⟩
theorem SlIn.item2 {w : World} {ty : Ty} {l : List Nd} {b o : Nat} (hz : ty.size = 2) (h : RowIn w ty l b o) (i : Nat) (hi : i < l.length) : (l[i]).ty = ty ∧ ∃ v0 v1, w.cell? ⟨b, o + i * 2, none⟩ = some v0 ∧ w.cell? ⟨b, o + i * 2 + 1, none⟩ = some v1 ∧ NdIn w l[i] [v0, v1] := by
  obtain ⟨h1, vs, h2, h3⟩ := RowIn.at l b o i hi h
  have hl := h3.len
  rw [h1, hz] at hl
  obtain ⟨v0, v1, rfl⟩ := len2 hl
  rw [hz] at h2
  exact ⟨h1, v0, v1, h2 0 _ rfl, h2 1 _ rfl, h3⟩
theorem SlIn.item6 {w : World} {ty : Ty} {l : List Nd} {b o : Nat} (hz : ty.size = 6) (h : RowIn w ty l b o) (i : Nat) (hi : i < l.length) : (l[i]).ty = ty ∧ ∃ v0 v1 v2 v3 v4 v5, w.cell? ⟨b, o + i * 6, none⟩ = some v0 ∧ w.cell? ⟨b, o + i * 6 + 1, none⟩ = some v1 ∧ w.cell? ⟨b, o + i * 6 + 2, none⟩ = some v2 ∧ w.cell? ⟨b, o + i * 6 + 3, none⟩ = some v3 ∧ w.cell? ⟨b, o + i * 6 + 4, none⟩ = some v4 ∧ w.cell? ⟨b, o + i * 6 + 5, none⟩ = some v5 ∧ NdIn w l[i] [v0, v1, v2, v3, v4, v5] := by
  obtain ⟨h1, vs, h2, h3⟩ := RowIn.at l b o i hi h
  have hl := h3.len
  rw [h1, hz] at hl
  obtain ⟨v0, v1, v2, v3, v4, v5, rfl⟩ := len6 hl
  rw [hz] at h2
  exact ⟨h1, v0, v1, v2, v3, v4, v5, h2 0 _ rfl, h2 1 _ rfl, h2 2 _ rfl, h2 3 _ rfl, h2 4 _ rfl, h2 5 _ rfl, h3⟩
theorem NdIn.formC {w : World} {x : Nd} {v0 v1 v2 v3 : Value} (hty : x.ty = .C) (h : NdIn w x [v0, v1, v2, v3]) : ∃ (k n : Int) (a : Option Addr) (len c : Nat) (a2 : Option Addr) (len2 c2 : Nat), v0 = .int .i64 k ∧ v1 = .int .i64 n ∧ v2 = .slice a len c ∧ v3 = .slice a2 len2 c2 := by
  obtain ⟨ty, k, n, nm, xs, cs, ts, es⟩ := x
  simp only [Nd.ty] at hty
  subst hty
  unfold NdIn at h
  obtain ⟨_, _, _, _, vx, vc, vt, ve, hvs, ⟨a, c, rfl, _⟩, ⟨a2, c2, rfl, _⟩, _⟩ := h
  simp only [lay, List.cons.injEq, and_true] at hvs
  obtain ⟨rfl, rfl, rfl, rfl⟩ := hvs
  exact ⟨_, _, _, _, _, _, _, _, rfl, rfl, rfl, rfl⟩
theorem NdIn.formS {w : World} {x : Nd} {v0 v1 v2 v3 v4 v5 : Value} (hty : x.ty = .S) (h : NdIn w x [v0, v1, v2, v3, v4, v5]) : ∃ (k : Int) (s : ByteArray) (a : Option Addr) (len c : Nat) (a2 : Option Addr) (len2 c2 : Nat) (a3 : Option Addr) (len3 c3 : Nat) (a4 : Option Addr) (len4 c4 : Nat), v0 = .int .i64 k ∧ v1 = .string s ∧ v2 = .slice a len c ∧ v3 = .slice a2 len2 c2 ∧ v4 = .slice a3 len3 c3 ∧ v5 = .slice a4 len4 c4 := by
  obtain ⟨ty, k, n, nm, xs, cs, ts, es⟩ := x
  simp only [Nd.ty] at hty
  subst hty
  unfold NdIn at h
  obtain ⟨_, _, _, _, vx, vc, vt, ve, hvs, ⟨a, c, rfl, _⟩, ⟨a2, c2, rfl, _⟩, ⟨a3, c3, rfl, _⟩, ⟨a4, c4, rfl, _⟩⟩ := h
  simp only [lay, List.cons.injEq, and_true] at hvs
  obtain ⟨rfl, rfl, rfl, rfl, rfl, rfl⟩ := hvs
  exact ⟨_, _, _, _, _, _, _, _, _, _, _, _, _, _, rfl, rfl, rfl, rfl, rfl, rfl⟩
theorem NdIn.formD {w : World} {x : Nd} {v0 v1 : Value} (hty : x.ty = .D) (h : NdIn w x [v0, v1]) : ∃ (s : ByteArray) (n : Int), v0 = .string s ∧ v1 = .int .i64 n := by
  obtain ⟨ty, k, n, nm, xs, cs, ts, es⟩ := x
  simp only [Nd.ty] at hty
  subst hty
  unfold NdIn at h
  obtain ⟨_, _, _, _, vx, vc, vt, ve, hvs, _⟩ := h
  simp only [lay, List.cons.injEq, and_true] at hvs
  obtain ⟨rfl, rfl⟩ := hvs
  exact ⟨_, _, rfl, rfl⟩

set_option maxRecDepth 100000 in
set_option maxHeartbeats 4000000 in
theorem showC_any (w0 : World) (B : Nat) (xs : List Nd) (hwalk : ∀ i (h : i < xs.length), WalkOf w0 B xs[i]) (vx : Value) (d : Int) (t : Tr) (v : Value) (w : World) (c3 c5 : Nat) (T3 T5 : TypeId) (hx : SlIn w0 .C xs vx) (hw : Below w0.heap.size w0 w) (hB0 : w0.heap.size ≤ B) (hd0 : 0 ≤ d) (hd1 : d ≤ 90) (ht : t.ok) (hl : t.lim = 0)
    (h3 : Blk w c3 #[.pointer (some ⟨B, 0, none⟩)] T3) (h5 : Blk w c5 #[.int .i64 d] T5) (hc3 : c3 ≠ B) (hc5 : c5 ≠ B) (hr3 : some c3 ≠ v.ownBlock) (hr5 : some c5 ≠ v.ownBlock) (hin : TourIn w0 w B t v) :
    Calls Tryz.prog 127 #[vx, .func (.func 128) #[] #[], .func (.func 57) #[] #[.pointer (some ⟨c3, 0, none⟩), .pointer (some ⟨c5, 0, none⟩)]] w (TouredTo w0 w B v (tourL xs (d + 1) t)) := by
  obtain ⟨a, c, rfl, hlc, hcm, hrow⟩ := hx
  have HROW := Lib.hid hrow; clear hrow
  have HW := Lib.hid hwalk; clear hwalk
  have HIN := Lib.hid hin; clear hin
  have H3 := Lib.hid h3; clear h3
  have H5 := Lib.hid h5; clear h5
  go_enter Tryz.func127, Tryz.ntmps127
  go_wp2
  go_loopw [11] (fun x wr => ∃ (i : Nat) (t' : Tr) (v' : Value), x = .int .i64 i ∧ i ≤ xs.length ∧ tourL xs (d + 1) t = tourL (xs.drop i) (d + 1) t' ∧ t'.ok ∧ t'.lim = 0 ∧ TourIn w0 wr B t' v' ∧ Fr B v.ownBlock v'.ownBlock w wr) (fun x _ => xs.length - (intOf x).toNat)
  case atStart => exact ⟨0, t, v, rfl, by omega, rfl, ht, hl, HIN.out, Fr.refl _ _ _⟩
  case round =>
    obtain ⟨i, t', v', rfl, hi, heq, htok, htl, hinr, hfr⟩ := hrel
    by_cases hlt : i < xs.length
    · have hbi : (i : Int) + 1 ≤ 9223372036854775807 := by unfold maxLen at hcm; omega
      have hxl : ¬ xs.length = 0 := by omega
      obtain ⟨b, o, rfl, hrow⟩ := HROW.out.resolve_left hxl
      have hold : Below w0.heap.size w0 wr := hw.trans (hfr.old hB0 hw.size (fun g hg => (HIN.out.row g hg).1))
      obtain ⟨hty, u0, u1, u2, u3, m0, m1, m2, m3, hnd⟩ := SlIn.item4 rfl hrow i hlt
      obtain ⟨nk, nn, na, nl, nc, na2, nl2, nc2, rfl, rfl, rfl, rfl⟩ := NdIn.formC hty hnd
      have kk := keeps_below hold
      have k0 := kk _ _ _ m0
      have k1 := kk _ _ _ m1
      have k2 := kk _ _ _ m2
      have k3 := kk _ _ _ m3
      go_wp2_with (first | (go_at_call 128; (with_reducible refine (condNode_any _ _ _ _ _).mono ?_); rintro e w1 ⟨rfl, hb1⟩) | fail)
      have htd := tourL_drop hlt (d + 1) t'
      have htk := tourN_ok xs[i] (d + 1) t' htok (by omega)
      have hb0 : Below wr.heap.size wr w1 := ((Below.refl _ wr).alloc (Nat.le_refl _) (.cells #[.int .i64 nk, .int .i64 nn, .slice na nl nc, .slice na2 nl2 nc2] 82)).trans (hb1.mono (by simp))
      have hin1 := hinr.below hb0
      have b3 := (H3.out.fr hfr hc3 hr3).below hb0 (H3.out.fr hfr hc3 hr3).lt
      have b5 := (H5.out.fr hfr hc5 hr5).below hb0 (H5.out.fr hfr hc5 hr5).lt
      have HC := Lib.hid (walk1_any w0 B xs[i] (HW.out i hlt) _ d t' v' w1 c3 c5 T3 T5 hnd (hold.trans (hb0.mono hold.size)) hB0 hd0 hd1 htok htl b3 b5 hin1)
      rw [hty] at HC
      obtain ⟨t2, ht2⟩ : ∃ t2, tourN xs[i] (d + 1) t' = t2 := ⟨_, rfl⟩
      rw [ht2] at HC htd htk
      clear ht2 b3 b5 hin1 hnd hty m0 m1 m2 m3 kk hold hrow hinr
      have hfr1 := hfr.trans (Fr.below (B := B) hb0)
      have HFR := Lib.hid hfr1; clear hfr1 hfr hb0
      by_cases hz : t2.lim = 0
      · rw [if_neg (by simpa using hz)] at htd
        refine HC.out.mono ?_
        rintro e w2 ⟨v2, rfl, hin2, hfr2⟩
        have hdz : decide (t2.lim = 0) = true := by simpa using hz
        rw [hdz]
        clear hdz
        have HF2 := Lib.hid (HFR.out.trans hfr2)
        have HI2 := Lib.hid hin2
        have HEQ := Lib.hid (heq.trans htd)
        clear hfr2 hin2 heq htd
        go_wp2
        go_roundw
        case rel => exact ⟨i + 1, t2, v2, by go_num, by omega, HEQ.out, htk, hz, HI2.out, HF2.out⟩
        case measure => simp [intOf]; omega
      · rw [if_pos (by simpa using hz)] at htd
        refine HC.out.mono ?_
        rintro e w2 ⟨v2, rfl, hin2, hfr2⟩
        have hdz : decide (t2.lim = 0) = false := by simpa using hz
        rw [hdz]
        have HF2 := Lib.hid (HFR.out.trans hfr2)
        have HI2 := Lib.hid hin2
        have HEQ := Lib.hid (heq.trans htd)
        have HDZ := Lib.hid hdz
        clear hfr2 hin2 heq htd hdz
        go_wp2
        go_ret
        rw [HEQ.out]
        exact ⟨v2, by rw [HDZ.out]; rfl, HI2.out, HF2.out⟩
    · obtain rfl : i = xs.length := by omega
      rw [List.drop_length, tourL] at heq
      have HEQ := Lib.hid heq; clear heq
      have hdz : decide (t'.lim = 0) = true := by simpa using htl
      have HDZ := Lib.hid hdz; clear hdz
      have HF := Lib.hid hfr; clear hfr
      have HI := Lib.hid hinr; clear hinr
      go_wp2
      go_ret
      rw [HEQ.out]
      exact ⟨v', by rw [HDZ.out]; rfl, HI.out, HF.out⟩

set_option maxRecDepth 100000 in
set_option maxHeartbeats 4000000 in
theorem showS_any (w0 : World) (B : Nat) (xs : List Nd) (hwalk : ∀ i (h : i < xs.length), WalkOf w0 B xs[i]) (vx : Value) (d : Int) (t : Tr) (v : Value) (w : World) (c3 c5 : Nat) (T3 T5 : TypeId) (hx : SlIn w0 .S xs vx) (hw : Below w0.heap.size w0 w) (hB0 : w0.heap.size ≤ B) (hd0 : 0 ≤ d) (hd1 : d ≤ 90) (ht : t.ok) (hl : t.lim = 0)
    (h3 : Blk w c3 #[.pointer (some ⟨B, 0, none⟩)] T3) (h5 : Blk w c5 #[.int .i64 d] T5) (hc3 : c3 ≠ B) (hc5 : c5 ≠ B) (hr3 : some c3 ≠ v.ownBlock) (hr5 : some c5 ≠ v.ownBlock) (hin : TourIn w0 w B t v) :
    Calls Tryz.prog 39 #[vx, .func (.func 40) #[] #[], .func (.func 57) #[] #[.pointer (some ⟨c3, 0, none⟩), .pointer (some ⟨c5, 0, none⟩)]] w (TouredTo w0 w B v (tourL xs (d + 1) t)) := by
  obtain ⟨a, c, rfl, hlc, hcm, hrow⟩ := hx
  have HROW := Lib.hid hrow; clear hrow
  have HW := Lib.hid hwalk; clear hwalk
  have HIN := Lib.hid hin; clear hin
  have H3 := Lib.hid h3; clear h3
  have H5 := Lib.hid h5; clear h5
  go_enter Tryz.func39, Tryz.ntmps39
  go_wp2
  go_loopw [11] (fun x wr => ∃ (i : Nat) (t' : Tr) (v' : Value), x = .int .i64 i ∧ i ≤ xs.length ∧ tourL xs (d + 1) t = tourL (xs.drop i) (d + 1) t' ∧ t'.ok ∧ t'.lim = 0 ∧ TourIn w0 wr B t' v' ∧ Fr B v.ownBlock v'.ownBlock w wr) (fun x _ => xs.length - (intOf x).toNat)
  case atStart => exact ⟨0, t, v, rfl, by omega, rfl, ht, hl, HIN.out, Fr.refl _ _ _⟩
  case round =>
    obtain ⟨i, t', v', rfl, hi, heq, htok, htl, hinr, hfr⟩ := hrel
    by_cases hlt : i < xs.length
    · have hbi : (i : Int) + 1 ≤ 9223372036854775807 := by unfold maxLen at hcm; omega
      have hxl : ¬ xs.length = 0 := by omega
      obtain ⟨b, o, rfl, hrow⟩ := HROW.out.resolve_left hxl
      have hold : Below w0.heap.size w0 wr := hw.trans (hfr.old hB0 hw.size (fun g hg => (HIN.out.row g hg).1))
      obtain ⟨hty, u0, u1, u2, u3, u4, u5, m0, m1, m2, m3, m4, m5, hnd⟩ := SlIn.item6 rfl hrow i hlt
      obtain ⟨nk, ns, na, nl, nc, na2, nl2, nc2, na3, nl3, nc3, na4, nl4, nc4, rfl, rfl, rfl, rfl, rfl, rfl⟩ := NdIn.formS hty hnd
      have kk := keeps_below hold
      have k0 := kk _ _ _ m0
      have k1 := kk _ _ _ m1
      have k2 := kk _ _ _ m2
      have k3 := kk _ _ _ m3
      have k4 := kk _ _ _ m4
      have k5 := kk _ _ _ m5
      go_wp2_with (first | (go_at_call 40; (with_reducible refine (stmtNode_any _ _ _ _ _ _ _).mono ?_); rintro e w1 ⟨rfl, hb1⟩) | fail)
      have htd := tourL_drop hlt (d + 1) t'
      have htk := tourN_ok xs[i] (d + 1) t' htok (by omega)
      have hb0 : Below wr.heap.size wr w1 := ((Below.refl _ wr).alloc (Nat.le_refl _) (.cells #[.int .i64 nk, .string ns, .slice na nl nc, .slice na2 nl2 nc2, .slice na3 nl3 nc3, .slice na4 nl4 nc4] 78)).trans (hb1.mono (by simp))
      have hin1 := hinr.below hb0
      have b3 := (H3.out.fr hfr hc3 hr3).below hb0 (H3.out.fr hfr hc3 hr3).lt
      have b5 := (H5.out.fr hfr hc5 hr5).below hb0 (H5.out.fr hfr hc5 hr5).lt
      have HC := Lib.hid (walk1_any w0 B xs[i] (HW.out i hlt) _ d t' v' w1 c3 c5 T3 T5 hnd (hold.trans (hb0.mono hold.size)) hB0 hd0 hd1 htok htl b3 b5 hin1)
      rw [hty] at HC
      obtain ⟨t2, ht2⟩ : ∃ t2, tourN xs[i] (d + 1) t' = t2 := ⟨_, rfl⟩
      rw [ht2] at HC htd htk
      clear ht2 b3 b5 hin1 hnd hty m0 m1 m2 m3 m4 m5 kk hold hrow hinr
      have hfr1 := hfr.trans (Fr.below (B := B) hb0)
      have HFR := Lib.hid hfr1; clear hfr1 hfr hb0
      by_cases hz : t2.lim = 0
      · rw [if_neg (by simpa using hz)] at htd
        refine HC.out.mono ?_
        rintro e w2 ⟨v2, rfl, hin2, hfr2⟩
        have hdz : decide (t2.lim = 0) = true := by simpa using hz
        rw [hdz]
        clear hdz
        have HF2 := Lib.hid (HFR.out.trans hfr2)
        have HI2 := Lib.hid hin2
        have HEQ := Lib.hid (heq.trans htd)
        clear hfr2 hin2 heq htd
        go_wp2
        go_roundw
        case rel => exact ⟨i + 1, t2, v2, by go_num, by omega, HEQ.out, htk, hz, HI2.out, HF2.out⟩
        case measure => simp [intOf]; omega
      · rw [if_pos (by simpa using hz)] at htd
        refine HC.out.mono ?_
        rintro e w2 ⟨v2, rfl, hin2, hfr2⟩
        have hdz : decide (t2.lim = 0) = false := by simpa using hz
        rw [hdz]
        have HF2 := Lib.hid (HFR.out.trans hfr2)
        have HI2 := Lib.hid hin2
        have HEQ := Lib.hid (heq.trans htd)
        have HDZ := Lib.hid hdz
        clear hfr2 hin2 heq htd hdz
        go_wp2
        go_ret
        rw [HEQ.out]
        exact ⟨v2, by rw [HDZ.out]; rfl, HI2.out, HF2.out⟩
    · obtain rfl : i = xs.length := by omega
      rw [List.drop_length, tourL] at heq
      have HEQ := Lib.hid heq; clear heq
      have hdz : decide (t'.lim = 0) = true := by simpa using htl
      have HDZ := Lib.hid hdz; clear hdz
      have HF := Lib.hid hfr; clear hfr
      have HI := Lib.hid hinr; clear hinr
      go_wp2
      go_ret
      rw [HEQ.out]
      exact ⟨v', by rw [HDZ.out]; rfl, HI.out, HF.out⟩

set_option maxRecDepth 100000 in
set_option maxHeartbeats 4000000 in
theorem showD_any (w0 : World) (B : Nat) (xs : List Nd) (hwalk : ∀ i (h : i < xs.length), WalkOf w0 B xs[i]) (vx : Value) (d : Int) (t : Tr) (v : Value) (w : World) (c3 c5 : Nat) (T3 T5 : TypeId) (hx : SlIn w0 .D xs vx) (hw : Below w0.heap.size w0 w) (hB0 : w0.heap.size ≤ B) (hd0 : 0 ≤ d) (hd1 : d ≤ 90) (ht : t.ok) (hl : t.lim = 0)
    (h3 : Blk w c3 #[.pointer (some ⟨B, 0, none⟩)] T3) (h5 : Blk w c5 #[.int .i64 d] T5) (hc3 : c3 ≠ B) (hc5 : c5 ≠ B) (hr3 : some c3 ≠ v.ownBlock) (hr5 : some c5 ≠ v.ownBlock) (hin : TourIn w0 w B t v) :
    Calls Tryz.prog 37 #[vx, .func (.func 38) #[] #[], .func (.func 57) #[] #[.pointer (some ⟨c3, 0, none⟩), .pointer (some ⟨c5, 0, none⟩)]] w (TouredTo w0 w B v (tourL xs (d + 1) t)) := by
  obtain ⟨a, c, rfl, hlc, hcm, hrow⟩ := hx
  have HROW := Lib.hid hrow; clear hrow
  have HW := Lib.hid hwalk; clear hwalk
  have HIN := Lib.hid hin; clear hin
  have H3 := Lib.hid h3; clear h3
  have H5 := Lib.hid h5; clear h5
  go_enter Tryz.func37, Tryz.ntmps37
  go_wp2
  go_loopw [11] (fun x wr => ∃ (i : Nat) (t' : Tr) (v' : Value), x = .int .i64 i ∧ i ≤ xs.length ∧ tourL xs (d + 1) t = tourL (xs.drop i) (d + 1) t' ∧ t'.ok ∧ t'.lim = 0 ∧ TourIn w0 wr B t' v' ∧ Fr B v.ownBlock v'.ownBlock w wr) (fun x _ => xs.length - (intOf x).toNat)
  case atStart => exact ⟨0, t, v, rfl, by omega, rfl, ht, hl, HIN.out, Fr.refl _ _ _⟩
  case round =>
    obtain ⟨i, t', v', rfl, hi, heq, htok, htl, hinr, hfr⟩ := hrel
    by_cases hlt : i < xs.length
    · have hbi : (i : Int) + 1 ≤ 9223372036854775807 := by unfold maxLen at hcm; omega
      have hxl : ¬ xs.length = 0 := by omega
      obtain ⟨b, o, rfl, hrow⟩ := HROW.out.resolve_left hxl
      have hold : Below w0.heap.size w0 wr := hw.trans (hfr.old hB0 hw.size (fun g hg => (HIN.out.row g hg).1))
      obtain ⟨hty, u0, u1, m0, m1, hnd⟩ := SlIn.item2 rfl hrow i hlt
      obtain ⟨ns, nn, rfl, rfl⟩ := NdIn.formD hty hnd
      have kk := keeps_below hold
      have k0 := kk _ _ _ m0
      have k1 := kk _ _ _ m1
      go_wp2_with (first | (go_at_call 38; (with_reducible refine (declNode_any _ _ _).mono ?_); rintro e w1 ⟨rfl, hb1⟩) | fail)
      have htd := tourL_drop hlt (d + 1) t'
      have htk := tourN_ok xs[i] (d + 1) t' htok (by omega)
      have hb0 : Below wr.heap.size wr w1 := ((Below.refl _ wr).alloc (Nat.le_refl _) (.cells #[.string ns, .int .i64 nn] 54)).trans (hb1.mono (by simp))
      have hin1 := hinr.below hb0
      have b3 := (H3.out.fr hfr hc3 hr3).below hb0 (H3.out.fr hfr hc3 hr3).lt
      have b5 := (H5.out.fr hfr hc5 hr5).below hb0 (H5.out.fr hfr hc5 hr5).lt
      have HC := Lib.hid (walk1_any w0 B xs[i] (HW.out i hlt) _ d t' v' w1 c3 c5 T3 T5 hnd (hold.trans (hb0.mono hold.size)) hB0 hd0 hd1 htok htl b3 b5 hin1)
      rw [hty] at HC
      obtain ⟨t2, ht2⟩ : ∃ t2, tourN xs[i] (d + 1) t' = t2 := ⟨_, rfl⟩
      rw [ht2] at HC htd htk
      clear ht2 b3 b5 hin1 hnd hty m0 m1 kk hold hrow hinr
      have hfr1 := hfr.trans (Fr.below (B := B) hb0)
      have HFR := Lib.hid hfr1; clear hfr1 hfr hb0
      by_cases hz : t2.lim = 0
      · rw [if_neg (by simpa using hz)] at htd
        refine HC.out.mono ?_
        rintro e w2 ⟨v2, rfl, hin2, hfr2⟩
        have hdz : decide (t2.lim = 0) = true := by simpa using hz
        rw [hdz]
        clear hdz
        have HF2 := Lib.hid (HFR.out.trans hfr2)
        have HI2 := Lib.hid hin2
        have HEQ := Lib.hid (heq.trans htd)
        clear hfr2 hin2 heq htd
        go_wp2
        go_roundw
        case rel => exact ⟨i + 1, t2, v2, by go_num, by omega, HEQ.out, htk, hz, HI2.out, HF2.out⟩
        case measure => simp [intOf]; omega
      · rw [if_pos (by simpa using hz)] at htd
        refine HC.out.mono ?_
        rintro e w2 ⟨v2, rfl, hin2, hfr2⟩
        have hdz : decide (t2.lim = 0) = false := by simpa using hz
        rw [hdz]
        have HF2 := Lib.hid (HFR.out.trans hfr2)
        have HI2 := Lib.hid hin2
        have HEQ := Lib.hid (heq.trans htd)
        have HDZ := Lib.hid hdz
        clear hfr2 hin2 heq htd hdz
        go_wp2
        go_ret
        rw [HEQ.out]
        exact ⟨v2, by rw [HDZ.out]; rfl, HI2.out, HF2.out⟩
    · obtain rfl : i = xs.length := by omega
      rw [List.drop_length, tourL] at heq
      have HEQ := Lib.hid heq; clear heq
      have hdz : decide (t'.lim = 0) = true := by simpa using htl
      have HDZ := Lib.hid hdz; clear hdz
      have HF := Lib.hid hfr; clear hfr
      have HI := Lib.hid hinr; clear hinr
      go_wp2
      go_ret
      rw [HEQ.out]
      exact ⟨v', by rw [HDZ.out]; rfl, HI.out, HF.out⟩
end Go.Proofs.YtbchibmmkmldiaaGreatDoor
