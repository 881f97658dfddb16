/-
  The project's tour through a program (tree's through): proved is what it answers: the nodes, the depth and the limit of a plain tour over the declarations and then the statements; and that it turns nothing that lay.
-/
import Derived.Test.YtjpopelbdhgidaaGreatDoorQFault

namespace Go.Proofs.YtjpopelbdhgidaaGreatDoor
open Go Go.RowKit

set_option maxHeartbeats 1000000 in
theorem top1_any (w0 : World) (B : Nat) (x : Nd) (hwalk : WalkOf w0 B x) (vs : List Value) (t : Tr) (v : Value) (w : World) (hx : NdIn w0 x vs) (hw : Below w0.heap.size w0 w) (hB0 : w0.heap.size ≤ B) (ht : t.ok) (hl : t.lim = 0) (hin : TourIn w0 w B t v) :
    Calls Tryz.prog 162 #[nodeV x.ty vs, .pointer (some ⟨B, 0, none⟩)] w (TouredTo w0 w B v (tourN x 1 t)) := by
  have HC := Lib.hid (hwalk vs 1 t v w hx hw hB0 (by omega) (by omega) ht hl hin)
  clear hin hwalk hx hw ht hl
  obtain ⟨N, hN⟩ : ∃ N, nodeV x.ty vs = N := ⟨_, rfl⟩
  rw [hN] at HC ⊢
  clear hN
  obtain ⟨t2, ht2⟩ : ∃ t2, tourN x 1 t = t2 := ⟨_, rfl⟩
  rw [ht2] at HC ⊢
  clear ht2
  go_enter Tryz.func162, Tryz.ntmps162
  go_wp2_with fail
  refine HC.out.mono ?_
  rintro e w2 ⟨v', rfl, h2, h3⟩
  go_wp2
  go_ret
  exact ⟨v', rfl, h2, h3⟩

set_option maxRecDepth 100000 in
set_option maxHeartbeats 4000000 in
theorem topS_any (w0 : World) (B : Nat) (xs : List Nd) (hwalk : ∀ i (h : i < xs.length), WalkOf w0 B xs[i]) (vx : Value) (t : Tr) (v : Value) (w : World) (hx : SlIn w0 .S xs vx) (hw : Below w0.heap.size w0 w) (hB0 : w0.heap.size ≤ B) (ht : t.ok) (hl : t.lim = 0) (hin : TourIn w0 w B t v) :
    Calls Tryz.prog 166 #[vx, .func (.func 167) #[] #[], .func (.func 162) #[] #[.pointer (some ⟨B, 0, none⟩)]] w (TouredTo w0 w B v (tourL xs 1 t)) := by
  obtain ⟨a, c, rfl, hlc, hcm, hrow⟩ := hx
  have HROW := Lib.hid hrow; clear hrow
  have HW := Lib.hid hwalk; clear hwalk
  have HIN := Lib.hid hin; clear hin
  go_enter Tryz.func166, Tryz.ntmps166
  go_wp2
  go_loopw [11] (fun x wr => ∃ (i : Nat) (t' : Tr) (v' : Value), x = .int .i64 i ∧ i ≤ xs.length ∧ tourL xs 1 t = tourL (xs.drop i) 1 t' ∧ t'.ok ∧ t'.lim = 0 ∧ TourIn w0 wr B t' v' ∧ Fr B v.ownBlock v'.ownBlock w wr) (fun x _ => xs.length - (intOf x).toNat)
  case atStart => exact ⟨0, t, v, rfl, by omega, rfl, ht, hl, HIN.out, Fr.refl _ _ _⟩
  case round =>
    obtain ⟨i, t', v', rfl, hi, heq, htok, htl, hinr, hfr⟩ := hrel
    by_cases hlt : i < xs.length
    · have hbi : (i : Int) + 1 ≤ 9223372036854775807 := by unfold maxLen at hcm; omega
      have hxl : ¬ xs.length = 0 := by omega
      obtain ⟨b, o, rfl, hrow⟩ := HROW.out.resolve_left hxl
      have hold : Below w0.heap.size w0 wr := hw.trans (hfr.old hB0 hw.size (fun g hg => (HIN.out.row g hg).1))
      obtain ⟨hty, u0, u1, u2, u3, u4, u5, m0, m1, m2, m3, m4, m5, hnd⟩ := SlIn.item6 rfl hrow i hlt
      obtain ⟨nk, ns, na, nl, nc, na2, nl2, nc2, na3, nl3, nc3, na4, nl4, nc4, rfl, rfl, rfl, rfl, rfl, rfl⟩ := NdIn.formS hty hnd
      have kk := keeps_below hold
      have k0 := kk _ _ _ m0
      have k1 := kk _ _ _ m1
      have k2 := kk _ _ _ m2
      have k3 := kk _ _ _ m3
      have k4 := kk _ _ _ m4
      have k5 := kk _ _ _ m5
      go_wp2_with (first | (go_at_call 167; (with_reducible refine (stmtNode_any _ _ _ _ _ _ _).mono ?_); rintro e w1 ⟨rfl, hb1⟩) | fail)
      have htd := tourL_drop hlt 1 t'
      have htk := tourN_ok xs[i] 1 t' htok (by omega)
      have hb0 : Below wr.heap.size wr w1 := ((Below.refl _ wr).alloc (Nat.le_refl _) (.cells #[.int .i64 nk, .string ns, .slice na nl nc, .slice na2 nl2 nc2, .slice na3 nl3 nc3, .slice na4 nl4 nc4] 72)).trans (hb1.mono (by simp))
      have hin1 := hinr.below hb0
      have HC := Lib.hid (top1_any w0 B xs[i] (HW.out i hlt) _ t' v' w1 hnd (hold.trans (hb0.mono hold.size)) hB0 htok htl hin1)
      rw [hty] at HC
      obtain ⟨t2, ht2⟩ : ∃ t2, tourN xs[i] 1 t' = t2 := ⟨_, rfl⟩
      rw [ht2] at HC htd htk
      clear ht2 hin1 hnd hty m0 m1 m2 m3 m4 m5 kk hold hrow hinr
      have hfr1 := hfr.trans (Fr.below (B := B) hb0)
      have HFR := Lib.hid hfr1; clear hfr1 hfr hb0
      by_cases hz : t2.lim = 0
      · rw [if_neg (by simpa using hz)] at htd
        refine HC.out.mono ?_
        rintro e w2 ⟨v2, rfl, hin2, hfr2⟩
        have hdz : decide (t2.lim = 0) = true := by simpa using hz
        rw [hdz]
        clear hdz
        have HF2 := Lib.hid (HFR.out.trans hfr2)
        have HI2 := Lib.hid hin2
        have HEQ := Lib.hid (heq.trans htd)
        clear hfr2 hin2 heq htd
        go_wp2
        go_roundw
        case rel => exact ⟨i + 1, t2, v2, by go_num, by omega, HEQ.out, htk, hz, HI2.out, HF2.out⟩
        case measure => simp [intOf]; omega
      · rw [if_pos (by simpa using hz)] at htd
        refine HC.out.mono ?_
        rintro e w2 ⟨v2, rfl, hin2, hfr2⟩
        have hdz : decide (t2.lim = 0) = false := by simpa using hz
        rw [hdz]
        have HF2 := Lib.hid (HFR.out.trans hfr2)
        have HI2 := Lib.hid hin2
        have HEQ := Lib.hid (heq.trans htd)
        have HDZ := Lib.hid hdz
        clear hfr2 hin2 heq htd hdz
        go_wp2
        go_ret
        rw [HEQ.out]
        exact ⟨v2, by rw [HDZ.out]; rfl, HI2.out, HF2.out⟩
    · obtain rfl : i = xs.length := by omega
      rw [List.drop_length, tourL] at heq
      have HEQ := Lib.hid heq; clear heq
      have hdz : decide (t'.lim = 0) = true := by simpa using htl
      have HDZ := Lib.hid hdz; clear hdz
      have HF := Lib.hid hfr; clear hfr
      have HI := Lib.hid hinr; clear hinr
      go_wp2
      go_ret
      rw [HEQ.out]
      exact ⟨v', by rw [HDZ.out]; rfl, HI.out, HF.out⟩

set_option maxRecDepth 100000 in
set_option maxHeartbeats 4000000 in
theorem topD_any (w0 : World) (B : Nat) (xs : List Nd) (hwalk : ∀ i (h : i < xs.length), WalkOf w0 B xs[i]) (vx : Value) (t : Tr) (v : Value) (w : World) (hx : SlIn w0 .D xs vx) (hw : Below w0.heap.size w0 w) (hB0 : w0.heap.size ≤ B) (ht : t.ok) (hl : t.lim = 0) (hin : TourIn w0 w B t v) :
    Calls Tryz.prog 164 #[vx, .func (.func 165) #[] #[], .func (.func 162) #[] #[.pointer (some ⟨B, 0, none⟩)]] w (TouredTo w0 w B v (tourL xs 1 t)) := by
  obtain ⟨a, c, rfl, hlc, hcm, hrow⟩ := hx
  have HROW := Lib.hid hrow; clear hrow
  have HW := Lib.hid hwalk; clear hwalk
  have HIN := Lib.hid hin; clear hin
  go_enter Tryz.func164, Tryz.ntmps164
  go_wp2
  go_loopw [11] (fun x wr => ∃ (i : Nat) (t' : Tr) (v' : Value), x = .int .i64 i ∧ i ≤ xs.length ∧ tourL xs 1 t = tourL (xs.drop i) 1 t' ∧ t'.ok ∧ t'.lim = 0 ∧ TourIn w0 wr B t' v' ∧ Fr B v.ownBlock v'.ownBlock w wr) (fun x _ => xs.length - (intOf x).toNat)
  case atStart => exact ⟨0, t, v, rfl, by omega, rfl, ht, hl, HIN.out, Fr.refl _ _ _⟩
  case round =>
    obtain ⟨i, t', v', rfl, hi, heq, htok, htl, hinr, hfr⟩ := hrel
    by_cases hlt : i < xs.length
    · have hbi : (i : Int) + 1 ≤ 9223372036854775807 := by unfold maxLen at hcm; omega
      have hxl : ¬ xs.length = 0 := by omega
      obtain ⟨b, o, rfl, hrow⟩ := HROW.out.resolve_left hxl
      have hold : Below w0.heap.size w0 wr := hw.trans (hfr.old hB0 hw.size (fun g hg => (HIN.out.row g hg).1))
      obtain ⟨hty, u0, u1, m0, m1, hnd⟩ := SlIn.item2 rfl hrow i hlt
      obtain ⟨ns, nn, rfl, rfl⟩ := NdIn.formD hty hnd
      have kk := keeps_below hold
      have k0 := kk _ _ _ m0
      have k1 := kk _ _ _ m1
      go_wp2_with (first | (go_at_call 165; (with_reducible refine (declNode_any _ _ _).mono ?_); rintro e w1 ⟨rfl, hb1⟩) | fail)
      have htd := tourL_drop hlt 1 t'
      have htk := tourN_ok xs[i] 1 t' htok (by omega)
      have hb0 : Below wr.heap.size wr w1 := ((Below.refl _ wr).alloc (Nat.le_refl _) (.cells #[.string ns, .int .i64 nn] 96)).trans (hb1.mono (by simp))
      have hin1 := hinr.below hb0
      have HC := Lib.hid (top1_any w0 B xs[i] (HW.out i hlt) _ t' v' w1 hnd (hold.trans (hb0.mono hold.size)) hB0 htok htl hin1)
      rw [hty] at HC
      obtain ⟨t2, ht2⟩ : ∃ t2, tourN xs[i] 1 t' = t2 := ⟨_, rfl⟩
      rw [ht2] at HC htd htk
      clear ht2 hin1 hnd hty m0 m1 kk hold hrow hinr
      have hfr1 := hfr.trans (Fr.below (B := B) hb0)
      have HFR := Lib.hid hfr1; clear hfr1 hfr hb0
      by_cases hz : t2.lim = 0
      · rw [if_neg (by simpa using hz)] at htd
        refine HC.out.mono ?_
        rintro e w2 ⟨v2, rfl, hin2, hfr2⟩
        have hdz : decide (t2.lim = 0) = true := by simpa using hz
        rw [hdz]
        clear hdz
        have HF2 := Lib.hid (HFR.out.trans hfr2)
        have HI2 := Lib.hid hin2
        have HEQ := Lib.hid (heq.trans htd)
        clear hfr2 hin2 heq htd
        go_wp2
        go_roundw
        case rel => exact ⟨i + 1, t2, v2, by go_num, by omega, HEQ.out, htk, hz, HI2.out, HF2.out⟩
        case measure => simp [intOf]; omega
      · rw [if_pos (by simpa using hz)] at htd
        refine HC.out.mono ?_
        rintro e w2 ⟨v2, rfl, hin2, hfr2⟩
        have hdz : decide (t2.lim = 0) = false := by simpa using hz
        rw [hdz]
        have HF2 := Lib.hid (HFR.out.trans hfr2)
        have HI2 := Lib.hid hin2
        have HEQ := Lib.hid (heq.trans htd)
        have HDZ := Lib.hid hdz
        clear hfr2 hin2 heq htd hdz
        go_wp2
        go_ret
        rw [HEQ.out]
        exact ⟨v2, by rw [HDZ.out]; rfl, HI2.out, HF2.out⟩
    · obtain rfl : i = xs.length := by omega
      rw [List.drop_length, tourL] at heq
      have HEQ := Lib.hid heq; clear heq
      have hdz : decide (t'.lim = 0) = true := by simpa using htl
      have HDZ := Lib.hid hdz; clear hdz
      have HF := Lib.hid hfr; clear hfr
      have HI := Lib.hid hinr; clear hinr
      go_wp2
      go_ret
      rw [HEQ.out]
      exact ⟨v', by rw [HDZ.out]; rfl, HI.out, HF.out⟩
/-- The tour over a program's declarations and statements. -/
def progT (ds ss : List Nd) : Tr := if (tourL ds 1 ⟨[], 0, 0⟩).lim ≠ 0 then tourL ds 1 ⟨[], 0, 0⟩ else tourL ss 1 (tourL ds 1 ⟨[], 0, 0⟩)
theorem progT_ok (ds ss : List Nd) : (progT ds ss).ok := by
  have h0 : Tr.ok ⟨[], 0, 0⟩ := by unfold Tr.ok; simp
  unfold progT
  split
  · exact tourL_ok ds 1 _ h0 (by omega)
  · exact tourL_ok ss 1 _ (tourL_ok ds 1 _ h0 (by omega)) (by omega)
/-- A tour's list, as a value. -/
def ListOf (w0 w : World) (l : List Nd) (v : Value) : Prop := ∃ (a : Option Addr) (b c : Nat), v = .slice a l.length c ∧ (l.length = 0 ∨ (a = some ⟨b, 0, none⟩ ∧ CellsAre w0 w l b 0 ∧ w0.heap.size ≤ b))
theorem ListOf.keep {w0 w w' : World} {l : List Nd} {v : Value} (h : ListOf w0 w l v) (hb : Below w.heap.size w w') : ListOf w0 w' l v := by
  obtain ⟨a, b, c, h1, h2⟩ := h
  exact ⟨a, b, c, h1, h2.imp id fun ⟨e, h, hn⟩ => ⟨e, h.keep hb, hn⟩⟩
/-- A program, as a value. -/
def ProgIn (w : World) (ds ss : List Nd) (vs : List Value) : Prop := ∃ v0 v1, vs = [v0, v1] ∧ SlIn w .D ds v0 ∧ SlIn w .S ss v1
theorem ProgIn.keep {w w' : World} {ds ss : List Nd} {vs : List Value} (h : ProgIn w ds ss vs) (hk : Keeps w w') : ProgIn w' ds ss vs := by
  obtain ⟨v0, v1, h1, h2, h3⟩ := h
  exact ⟨v0, v1, h1, h2.keep hk, h3.keep hk⟩

theorem through_end (w w3 : World) (Q : Tr) (a3 : Option Addr) (c3 : Nat) {tm : Array Value} {df : List Deferred} (hT : TourIn w w3 (w.heap.size + 2) Q (.slice a3 Q.l.length c3)) (hR : Blk w3 (w.heap.size + 1) #[.slice none 0 0, .int .i64 0, .int .i64 0] 202) (hb : Below w.heap.size w w3) (h2 : tm[2]? = some (.pointer (some ⟨w.heap.size + 1, 0, none⟩))) (hd : df = []) :
    bodyPost Tryz.prog Tryz.f130 (fun e w' => ∃ v, e = .returned (.agg #[v, .int .i64 Q.dep, .int .i64 Q.lim]) ∧ ListOf w w' Q.l v ∧ Below w.heap.size w w') .ret { tmps := tm, defers := df }
      (((w3.setCell ⟨w.heap.size + 1, 0, none⟩ (.slice a3 Q.l.length c3)).setCell ⟨w.heap.size + 1, 1, none⟩ (.int .i64 Q.dep)).setCell ⟨w.heap.size + 1, 2, none⟩ (.int .i64 Q.lim)) := by
  subst hd
  have bR := ((hR.set 0 (.slice a3 Q.l.length c3)).set 1 (.int .i64 Q.dep)).set 2 (.int .i64 Q.lim)
  have hb2 := ((hb.setCell (p := ⟨w.heap.size + 1, 0, none⟩) (by simp) (.slice a3 Q.l.length c3)).setCell (p := ⟨w.heap.size + 1, 1, none⟩) (by simp) (.int .i64 Q.dep)).setCell (p := ⟨w.heap.size + 1, 2, none⟩) (by simp) (.int .i64 Q.lim)
  obtain ⟨xs, h1, h3⟩ := hT.own
  have ho := ownsRow_setCell_below (ownsRow_setCell_below (ownsRow_setCell_below h1 (a := ⟨w.heap.size + 1, 0, none⟩) (by simp) (.slice a3 Q.l.length c3)) (a := ⟨w.heap.size + 1, 1, none⟩) (by simp) (.int .i64 Q.dep)) (a := ⟨w.heap.size + 1, 2, none⟩) (by simp) (.int .i64 Q.lim)
  have hk := ((hT.blk.other (a := ⟨w.heap.size + 1, 0, none⟩) (by simp) (.slice a3 Q.l.length c3)).other (a := ⟨w.heap.size + 1, 1, none⟩) (by simp) (.int .i64 Q.dep)).other (a := ⟨w.heap.size + 1, 2, none⟩) (by simp) (.int .i64 Q.lim)
  obtain ⟨W, hW⟩ : ∃ W, ((w3.setCell ⟨w.heap.size + 1, 0, none⟩ (.slice a3 Q.l.length c3)).setCell ⟨w.heap.size + 1, 1, none⟩ (.int .i64 Q.dep)).setCell ⟨w.heap.size + 1, 2, none⟩ (.int .i64 Q.lim) = W := ⟨_, rfl⟩
  rw [hW] at bR hb2 ho hk ⊢
  have hl : ListOf w W Q.l (.slice a3 Q.l.length c3) := by
    have hTW : TourIn w W (w.heap.size + 2) Q (.slice a3 Q.l.length c3) := ⟨hk, xs, ho, h3⟩
    obtain ⟨a, b, c, e, hx⟩ := hTW.list
    refine ⟨a, b, c, e, hx.imp id fun ⟨e1, h⟩ => ⟨e1, h, ?_⟩⟩
    have e2 : a3 = a := by simp only [Value.slice.injEq] at e; exact e.1
    have := (hTW.row b (by rw [e2, e1]; rfl)).1
    omega
  have q0 : W.cell? ⟨w.heap.size + 1, 0, none⟩ = some (.slice a3 Q.l.length c3) := bR.cell 0
  have q1 : W.cell? ⟨w.heap.size + 1, 1, none⟩ = some (.int .i64 Q.dep) := bR.cell 1
  have q2 : W.cell? ⟨w.heap.size + 1, 2, none⟩ = some (.int .i64 Q.lim) := bR.cell 2
  exact bodyPost_ret (v := .agg #[.slice a3 Q.l.length c3, .int .i64 Q.dep, .int .i64 Q.lim]) (by simp [results, Tryz.results130, go_sem, q0, q1, q2, h2]) rfl ⟨_, rfl, hl, hb2⟩

set_option maxRecDepth 100000 in
set_option maxHeartbeats 4000000 in
theorem through_any (ds ss : List Nd) (v0 v1 : Value) (w : World) (hd : SlIn w .D ds v0) (hs : SlIn w .S ss v1) :
    Calls Tryz.prog 130 #[.agg #[v0, v1]] w (fun e w' => ∃ v, e = .returned (.agg #[v, .int .i64 (progT ds ss).dep, .int .i64 (progT ds ss).lim]) ∧ ListOf w w' (progT ds ss).l v ∧ Below w.heap.size w w') := by
  have hpT : progT ds ss = if (tourL ds 1 ⟨[], 0, 0⟩).lim ≠ 0 then tourL ds 1 ⟨[], 0, 0⟩ else tourL ss 1 (tourL ds 1 ⟨[], 0, 0⟩) := rfl
  have h0 : Tr.ok ⟨[], 0, 0⟩ := by unfold Tr.ok; simp
  obtain ⟨W1, hW1⟩ : ∃ W1, ((w.alloc (.cells #[v0, v1] 25)).alloc (.cells #[.slice none 0 0, .int .i64 0, .int .i64 0] 202)).alloc (.cells #[.slice none 0 0, .int .i64 0, .int .i64 0] 202) = W1 := ⟨_, rfl⟩
  have hb : Below w.heap.size w W1 := by
    rw [← hW1]
    exact (((Below.refl _ w).alloc (Nat.le_refl _) _).alloc (by simp) _).alloc (by simp; omega) _
  have hB1 : Blk W1 (w.heap.size + 2) #[.slice none 0 0, .int .i64 0, .int .i64 0] 202 := by
    have h := Blk.new ((w.alloc (.cells #[v0, v1] 25)).alloc (.cells #[.slice none 0 0, .int .i64 0, .int .i64 0] 202)) #[.slice none 0 0, .int .i64 0, .int .i64 0] 202
    rw [hW1, World.size_alloc, World.size_alloc] at h
    exact h
  have hR1 : Blk W1 (w.heap.size + 1) #[.slice none 0 0, .int .i64 0, .int .i64 0] 202 := by
    have h := (Blk.new (w.alloc (.cells #[v0, v1] 25)) #[.slice none 0 0, .int .i64 0, .int .i64 0] 202).alloc (.cells #[.slice none 0 0, .int .i64 0, .int .i64 0] 202)
    rw [hW1, World.size_alloc] at h
    exact h
  have hP1 : Blk W1 w.heap.size #[v0, v1] 25 := by rw [← hW1]; exact ((Blk.new w _ _).alloc _).alloc _
  have hT : TourIn w W1 (w.heap.size + 2) ⟨[], 0, 0⟩ (.slice none 0 0) := ⟨hB1, [], ⟨rfl, .inl ⟨rfl, rfl⟩⟩, NodesAre.nil w⟩
  have hD := topD_any w (w.heap.size + 2) ds (fun i h => walkOf_all w _ _ _ (Nat.le_refl _)) v0 ⟨[], 0, 0⟩ (.slice none 0 0) W1 hd hb (by omega) h0 rfl hT
  have HS := Lib.hid (fun t v w1 (h1 : Below w.heap.size w w1) (h2 : t.ok) (h3 : t.lim = 0) (h4 : TourIn w w1 (w.heap.size + 2) t v) => topS_any w (w.heap.size + 2) ss (fun i h => walkOf_all w _ _ _ (Nat.le_refl _)) v1 t v w1 hs h1 (by omega) h2 h3 h4)
  have hok1 := tourL_ok ds 1 ⟨[], 0, 0⟩ h0 (by omega)
  obtain ⟨t1, ht1⟩ : ∃ t1, tourL ds 1 ⟨[], 0, 0⟩ = t1 := ⟨_, rfl⟩
  rw [ht1] at hD hpT hok1
  obtain ⟨Q, hQ⟩ : ∃ Q, progT ds ss = Q := ⟨_, rfl⟩
  rw [hQ] at hpT ⊢
  clear hQ ht1
  obtain ⟨a0, c0, rfl, -⟩ := hd
  obtain ⟨a1, c1, rfl, -⟩ := hs
  have HD := Lib.hid hD; clear hD
  have HB := Lib.hid hb; clear hb
  have HW1 := Lib.hid hW1; clear hW1
  have e0 : W1.cell? ⟨w.heap.size, 0, none⟩ = some (.slice a0 ds.length c0) := hP1.cell 0
  have HP1 := Lib.hid hP1; clear hP1
  have HR1 := Lib.hid hR1; clear hR1
  clear hB1
  have hne1 : w.heap.size ≠ w.heap.size + 2 := by omega
  have hne2 : w.heap.size + 1 ≠ w.heap.size + 2 := by omega
  have HT := Lib.hid hT; clear hT
  by_cases hz : t1.lim = 0
  · rw [if_neg (by simpa using hz)] at hpT
    have HDZ := Lib.hid (show decide (t1.lim = 0) = true by simpa using hz)
    have HPT := Lib.hid hpT; clear hpT
    have HOK := Lib.hid hok1; clear hok1
    go_enter Tryz.func130, Tryz.ntmps130
    go_upto_region 2 with fail
    rw [HW1.out]
    clear HW1
    go_upto_region 4 with (first | (go_at_call 164; (with_reducible refine HD.out.mono ?_); rintro e w2 ⟨v2, rfl, h2, hf⟩; rw [HDZ.out]) | fail)
    have hb2 : Below w.heap.size w w2 := HB.out.trans (hf.old (by omega) HB.out.size (fun g hg => by cases hg))
    have hP2 := HP1.out.fr hf hne1 (fun h => by cases h)
    have hR2 := HR1.out.fr hf hne2 (fun h => by cases h)
    have HC := Lib.hid (HS.out t1 v2 w2 hb2 HOK.out hz h2)
    rw [← HPT.out] at HC
    clear HD HS HP1 HR1
    have e1 : w2.cell? ⟨w.heap.size, 1, none⟩ = some (.slice a1 ss.length c1) := hP2.cell 1
    have HB2 := Lib.hid hb2; clear hb2
    have HR2 := Lib.hid hR2; clear hR2
    have H2 := Lib.hid h2; clear h2
    have HF2 := Lib.hid hf; clear hf
    clear hP2
    go_upto_region 5 with (first | (go_at_call 166; (with_reducible refine HC.out.mono ?_); rintro e w3 ⟨v3, rfl, h3, hf⟩) | fail)
    have hR3 := HR2.out.fr hf hne2 (fun h => by have := (H2.out.row _ h.symm).1; omega)
    have hb3 : Below w.heap.size w w3 := HB2.out.trans (hf.old (by omega) HB2.out.size (fun g hg => (H2.out.row g hg).1))
    obtain ⟨a3, c3, rfl⟩ := h3.shape
    have l0 : w3.cell? ⟨w.heap.size + 2, 0, none⟩ = some (.slice a3 Q.l.length c3) := h3.blk.cell 0
    have l1 : w3.cell? ⟨w.heap.size + 2, 1, none⟩ = some (.int .i64 Q.dep) := h3.blk.cell 1
    have l2 : w3.cell? ⟨w.heap.size + 2, 2, none⟩ = some (.int .i64 Q.lim) := h3.blk.cell 2
    have hx0 : w3.frozen? ⟨w.heap.size + 1, 0, none⟩ = false := hR3.free 0
    have hx1 : w3.frozen? ⟨w.heap.size + 1, 1, none⟩ = false := hR3.free 1
    have hx2 : w3.frozen? ⟨w.heap.size + 1, 2, none⟩ = false := hR3.free 2
    have hy0 : w3.cell? ⟨w.heap.size + 1, 0, none⟩ = some (.slice none 0 0) := hR3.cell 0
    have hy1 : w3.cell? ⟨w.heap.size + 1, 1, none⟩ = some (.int .i64 0) := hR3.cell 1
    have hy2 : w3.cell? ⟨w.heap.size + 1, 2, none⟩ = some (.int .i64 0) := hR3.cell 2
    have HB3 := Lib.hid hb3; clear hb3
    have HT3 := Lib.hid h3; clear h3
    have HR3 := Lib.hid hR3; clear hR3
    clear hf HF2 H2 HR2 HB2 HC e1 e0
    go_wp2_with fail
    exact through_end w w3 Q a3 c3 HT3.out HR3.out HB3.out rfl rfl
  · rw [if_pos (by simpa using hz)] at hpT
    subst hpT
    have HDZ := Lib.hid (show decide (Q.lim = 0) = false by simpa using hz)
    clear HS hok1
    go_enter Tryz.func130, Tryz.ntmps130
    go_upto_region 2 with fail
    rw [HW1.out]
    clear HW1
    go_upto_region 5 with (first | (go_at_call 164; (with_reducible refine HD.out.mono ?_); rintro e w3 ⟨v3, rfl, h3, hf⟩; rw [HDZ.out]) | fail)
    have hR3 := HR1.out.fr hf hne2 (fun h => by cases h)
    have hb3 : Below w.heap.size w w3 := HB.out.trans (hf.old (by omega) HB.out.size (fun g hg => by cases hg))
    obtain ⟨a3, c3, rfl⟩ := h3.shape
    have l0 : w3.cell? ⟨w.heap.size + 2, 0, none⟩ = some (.slice a3 Q.l.length c3) := h3.blk.cell 0
    have l1 : w3.cell? ⟨w.heap.size + 2, 1, none⟩ = some (.int .i64 Q.dep) := h3.blk.cell 1
    have l2 : w3.cell? ⟨w.heap.size + 2, 2, none⟩ = some (.int .i64 Q.lim) := h3.blk.cell 2
    have hx0 : w3.frozen? ⟨w.heap.size + 1, 0, none⟩ = false := hR3.free 0
    have hx1 : w3.frozen? ⟨w.heap.size + 1, 1, none⟩ = false := hR3.free 1
    have hx2 : w3.frozen? ⟨w.heap.size + 1, 2, none⟩ = false := hR3.free 2
    have hy0 : w3.cell? ⟨w.heap.size + 1, 0, none⟩ = some (.slice none 0 0) := hR3.cell 0
    have hy1 : w3.cell? ⟨w.heap.size + 1, 1, none⟩ = some (.int .i64 0) := hR3.cell 1
    have hy2 : w3.cell? ⟨w.heap.size + 1, 2, none⟩ = some (.int .i64 0) := hR3.cell 2
    have HB3 := Lib.hid hb3; clear hb3
    have HT3 := Lib.hid h3; clear h3
    have HR3 := Lib.hid hR3; clear hR3
    clear hf HD HP1 HR1 HB HT e0
    go_wp2_with fail
    exact through_end w w3 Q a3 c3 HT3.out HR3.out HB3.out rfl rfl
end Go.Proofs.YtjpopelbdhgidaaGreatDoor
