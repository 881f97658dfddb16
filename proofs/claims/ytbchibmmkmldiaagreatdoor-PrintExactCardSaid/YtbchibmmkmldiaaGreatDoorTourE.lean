/-
  The project's tour over expressions (tree's walk, each, show), by induction on the tree.
-/
import Derived.Test.YtbchibmmkmldiaaGreatDoorTour
namespace Go.Proofs.YtbchibmmkmldiaaGreatDoor
open Go Go.RowKit

/-- What a tour's step has left. -/
def TouredTo (w0 w : World) (B : Nat) (v : Value) (t' : Tr) (e : Ending) (w' : World) : Prop := ∃ v', e = .returned (.bool (decide (t'.lim = 0))) ∧ TourIn w0 w' B t' v' ∧ Fr B v.ownBlock v'.ownBlock w w'
/-- A walk goes through a node as told. -/
def WalkOf (w0 : World) (B : Nat) (x : Nd) : Prop := ∀ (vs : List Value) (d : Int) (t : Tr) (v : Value) (w : World), NdIn w0 x vs → Below w0.heap.size w0 w → w0.heap.size ≤ B → 0 ≤ d → d ≤ 100 → t.ok → t.lim = 0 → TourIn w0 w B t v →
  Calls Tryz.prog 28 #[.pointer (some ⟨B, 0, none⟩), nodeV x.ty vs, .int .i64 d] w (TouredTo w0 w B v (tourN x d t))

theorem byd_zero {k : Nat} {d : Int} (h : byd k d = 0) : k ≠ 4096 ∧ d ≤ 64 := by
  unfold byd at h
  split at h
  · cases h
  · split at h
    · cases h
    · exact ⟨‹_›, by omega⟩
theorem nodeT_ok {x : Nd} {d : Int} {t : Tr} (h : t.ok) (_hd : 0 ≤ d) : (nodeT x d t).ok := by
  unfold nodeT
  obtain ⟨h1, h2, h3⟩ := h
  split
  · exact ⟨h1, h2, h3⟩
  · rename_i hb
    have hz := byd_zero (Classical.not_not.1 hb)
    refine ⟨?_, ?_, ?_⟩ <;> simp <;> omega
mutual
theorem tourN_ok : ∀ (x : Nd) (d : Int) (t : Tr), t.ok → 0 ≤ d → (tourN x d t).ok
  | .mk ty k n nm xs cs ts es, d, t, h, hd => by
    have h0 := nodeT_ok (x := .mk ty k n nm xs cs ts es) (d := d) h hd
    unfold tourN
    split
    · exact h0
    · cases ty with
      | E => exact tourL_ok xs _ _ h0 (by omega)
      | C =>
        simp only
        split
        · exact tourL_ok xs _ _ h0 (by omega)
        · exact tourL_ok cs _ _ (tourL_ok xs _ _ h0 (by omega)) (by omega)
      | S =>
        simp only
        have ha := tourL_ok cs (d + 1) _ h0 (by omega)
        have hb := tourL_ok xs (d + 1) _ ha (by omega)
        have hc := tourL_ok ts (d + 1) _ hb (by omega)
        split
        · exact ha
        · split
          · exact hb
          · split
            · exact hc
            · exact tourL_ok es (d + 1) _ hc (by omega)
      | D => exact h0
theorem tourL_ok : ∀ (l : List Nd) (d : Int) (t : Tr), t.ok → 0 ≤ d → (tourL l d t).ok
  | [], d, t, h, _ => by unfold tourL; exact h
  | x :: r, d, t, h, hd => by
    unfold tourL
    split
    · exact tourN_ok x d t h hd
    · exact tourL_ok r d _ (tourN_ok x d t h hd) hd
end
theorem tourL_drop {l : List Nd} {i : Nat} (h : i < l.length) (d : Int) (t : Tr) : tourL (l.drop i) d t = if (tourN l[i] d t).lim ≠ 0 then tourN l[i] d t else tourL (l.drop (i + 1)) d (tourN l[i] d t) := by
  rw [List.drop_eq_getElem_cons h, tourL]

set_option maxHeartbeats 1000000 in
theorem walk1_any (w0 : World) (B : Nat) (x : Nd) (hwalk : WalkOf w0 B x) (vs : List Value) (d : Int) (t : Tr) (v : Value) (w : World) (c3 c5 : Nat) (T3 T5 : TypeId) (hx : NdIn w0 x vs) (hw : Below w0.heap.size w0 w) (hB0 : w0.heap.size ≤ B) (hd0 : 0 ≤ d) (hd1 : d ≤ 90) (ht : t.ok) (hl : t.lim = 0)
    (h3 : Blk w c3 #[.pointer (some ⟨B, 0, none⟩)] T3) (h5 : Blk w c5 #[.int .i64 d] T5) (hin : TourIn w0 w B t v) :
    Calls Tryz.prog 57 #[nodeV x.ty vs, .pointer (some ⟨c3, 0, none⟩), .pointer (some ⟨c5, 0, none⟩)] w (TouredTo w0 w B v (tourN x (d + 1) t)) := by
  have k3 : w.cell? ⟨c3, 0, none⟩ = some (.pointer (some ⟨B, 0, none⟩)) := h3.cell 0
  have k5 : w.cell? ⟨c5, 0, none⟩ = some (.int .i64 d) := h5.cell 0
  have HC := Lib.hid (hwalk vs (d + 1) t v w hx hw hB0 (by omega) (by omega) ht hl hin)
  clear h3 h5 hin hwalk hx hw ht hl
  obtain ⟨N, hN⟩ : ∃ N, nodeV x.ty vs = N := ⟨_, rfl⟩
  rw [hN] at HC ⊢
  clear hN
  obtain ⟨t2, ht2⟩ : ∃ t2, tourN x (d + 1) t = t2 := ⟨_, rfl⟩
  rw [ht2] at HC ⊢
  clear ht2
  go_enter Tryz.func57, Tryz.ntmps57
  go_wp2_with fail
  refine HC.out.mono ?_
  rintro e w2 ⟨v', rfl, h2, h3⟩
  go_wp2
  go_ret
  exact ⟨v', rfl, h2, h3⟩

theorem NdIn.formE {w : World} {x : Nd} {v0 v1 v2 v3 : Value} (hty : x.ty = .E) (h : NdIn w x [v0, v1, v2, v3]) : ∃ (k n : Int) (s : ByteArray) (a : Option Addr) (len c : Nat), v0 = .int .i64 k ∧ v1 = .int .i64 n ∧ v2 = .string s ∧ v3 = .slice a len c := by
  obtain ⟨ty, k, n, nm, xs, cs, ts, es⟩ := x
  simp only [Nd.ty] at hty
  subst hty
  unfold NdIn at h
  obtain ⟨_, _, _, _, vx, vc, vt, ve, hvs, ⟨a, c, rfl, _⟩, _⟩ := h
  simp only [lay, List.cons.injEq, and_true] at hvs
  obtain ⟨rfl, rfl, rfl, rfl⟩ := hvs
  exact ⟨_, _, _, _, _, _, rfl, rfl, rfl, rfl⟩

set_option maxRecDepth 100000 in
set_option maxHeartbeats 4000000 in
theorem showE_any (w0 : World) (B : Nat) (xs : List Nd) (hwalk : ∀ i (h : i < xs.length), WalkOf w0 B xs[i]) (vx : Value) (d : Int) (t : Tr) (v : Value) (w : World) (c3 c5 : Nat) (T3 T5 : TypeId) (hx : SlIn w0 .E xs vx) (hw : Below w0.heap.size w0 w) (hB0 : w0.heap.size ≤ B) (hd0 : 0 ≤ d) (hd1 : d ≤ 90) (ht : t.ok) (hl : t.lim = 0)
    (h3 : Blk w c3 #[.pointer (some ⟨B, 0, none⟩)] T3) (h5 : Blk w c5 #[.int .i64 d] T5) (hc3 : c3 ≠ B) (hc5 : c5 ≠ B) (hr3 : some c3 ≠ v.ownBlock) (hr5 : some c5 ≠ v.ownBlock) (hin : TourIn w0 w B t v) :
    Calls Tryz.prog 123 #[vx, .func (.func 124) #[] #[], .func (.func 57) #[] #[.pointer (some ⟨c3, 0, none⟩), .pointer (some ⟨c5, 0, none⟩)]] w (TouredTo w0 w B v (tourL xs (d + 1) t)) := by
  obtain ⟨a, c, rfl, hlc, hcm, hrow⟩ := hx
  have HROW := Lib.hid hrow; clear hrow
  have HW := Lib.hid hwalk; clear hwalk
  have HIN := Lib.hid hin; clear hin
  have H3 := Lib.hid h3; clear h3
  have H5 := Lib.hid h5; clear h5
  go_enter Tryz.func123, Tryz.ntmps123
  go_wp2
  go_loopw [11] (fun x wr => ∃ (i : Nat) (t' : Tr) (v' : Value), x = .int .i64 i ∧ i ≤ xs.length ∧ tourL xs (d + 1) t = tourL (xs.drop i) (d + 1) t' ∧ t'.ok ∧ t'.lim = 0 ∧ TourIn w0 wr B t' v' ∧ Fr B v.ownBlock v'.ownBlock w wr) (fun x _ => xs.length - (intOf x).toNat)
  case atStart => exact ⟨0, t, v, rfl, by omega, rfl, ht, hl, HIN.out, Fr.refl _ _ _⟩
  case round =>
    obtain ⟨i, t', v', rfl, hi, heq, htok, htl, hinr, hfr⟩ := hrel
    by_cases hlt : i < xs.length
    · have hbi : (i : Int) + 1 ≤ 9223372036854775807 := by unfold maxLen at hcm; omega
      have hxl : ¬ xs.length = 0 := by omega
      obtain ⟨b, o, rfl, hrow⟩ := HROW.out.resolve_left hxl
      have hold : Below w0.heap.size w0 wr := hw.trans (hfr.old hB0 hw.size (fun g hg => (HIN.out.row g hg).1))
      obtain ⟨hty, u0, u1, u2, u3, m0, m1, m2, m3, hnd⟩ := SlIn.item4 rfl hrow i hlt
      obtain ⟨nk, nn, ns, na, nl, nc, rfl, rfl, rfl, rfl⟩ := NdIn.formE hty hnd
      have kk := keeps_below hold
      have k0 := kk _ _ _ m0
      have k1 := kk _ _ _ m1
      have k2 := kk _ _ _ m2
      have k3 := kk _ _ _ m3
      go_wp2_with (first | (go_at_call 124; (with_reducible refine (exprNode_any _ _ _ _ _).mono ?_); rintro e w1 ⟨rfl, hb1⟩) | fail)
      have htd := tourL_drop hlt (d + 1) t'
      have htk := tourN_ok xs[i] (d + 1) t' htok (by omega)
      have hb0 : Below wr.heap.size wr w1 := ((Below.refl _ wr).alloc (Nat.le_refl _) (.cells #[.int .i64 nk, .int .i64 nn, .string ns, .slice na nl nc] 36)).trans (hb1.mono (by simp))
      have hin1 := hinr.below hb0
      have b3 := (H3.out.fr hfr hc3 hr3).below hb0 (H3.out.fr hfr hc3 hr3).lt
      have b5 := (H5.out.fr hfr hc5 hr5).below hb0 (H5.out.fr hfr hc5 hr5).lt
      have HC := Lib.hid (walk1_any w0 B xs[i] (HW.out i hlt) _ d t' v' w1 c3 c5 T3 T5 hnd (hold.trans (hb0.mono hold.size)) hB0 hd0 hd1 htok htl b3 b5 hin1)
      rw [hty] at HC
      obtain ⟨t2, ht2⟩ : ∃ t2, tourN xs[i] (d + 1) t' = t2 := ⟨_, rfl⟩
      rw [ht2] at HC htd htk
      clear ht2 b3 b5 hin1 hnd hty m0 m1 m2 m3 kk hold hrow hinr
      have hfr1 := hfr.trans (Fr.below (B := B) hb0)
      have HFR := Lib.hid hfr1; clear hfr1 hfr hb0
      by_cases hz : t2.lim = 0
      · rw [if_neg (by simpa using hz)] at htd
        refine HC.out.mono ?_
        rintro e w2 ⟨v2, rfl, hin2, hfr2⟩
        have hdz : decide (t2.lim = 0) = true := by simpa using hz
        rw [hdz]
        clear hdz
        have HF2 := Lib.hid (HFR.out.trans hfr2)
        have HI2 := Lib.hid hin2
        have HEQ := Lib.hid (heq.trans htd)
        clear hfr2 hin2 heq htd
        go_wp2
        go_roundw
        case rel => exact ⟨i + 1, t2, v2, by go_num, by omega, HEQ.out, htk, hz, HI2.out, HF2.out⟩
        case measure => simp [intOf]; omega
      · rw [if_pos (by simpa using hz)] at htd
        refine HC.out.mono ?_
        rintro e w2 ⟨v2, rfl, hin2, hfr2⟩
        have hdz : decide (t2.lim = 0) = false := by simpa using hz
        rw [hdz]
        have HF2 := Lib.hid (HFR.out.trans hfr2)
        have HI2 := Lib.hid hin2
        have HEQ := Lib.hid (heq.trans htd)
        have HDZ := Lib.hid hdz
        clear hfr2 hin2 heq htd hdz
        go_wp2
        go_ret
        rw [HEQ.out]
        exact ⟨v2, by rw [HDZ.out]; rfl, HI2.out, HF2.out⟩
    · obtain rfl : i = xs.length := by omega
      rw [List.drop_length, tourL] at heq
      have HEQ := Lib.hid heq; clear heq
      have hdz : decide (t'.lim = 0) = true := by simpa using htl
      have HDZ := Lib.hid hdz; clear hdz
      have HF := Lib.hid hfr; clear hfr
      have HI := Lib.hid hinr; clear hinr
      go_wp2
      go_ret
      rw [HEQ.out]
      exact ⟨v', by rw [HDZ.out]; rfl, HI.out, HF.out⟩
end Go.Proofs.YtbchibmmkmldiaaGreatDoor
