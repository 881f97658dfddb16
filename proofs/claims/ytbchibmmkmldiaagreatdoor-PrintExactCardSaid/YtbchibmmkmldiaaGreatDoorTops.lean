/-
  The project's Check, Depth and Nodes of a program (tree's): proved is what each answers, and that it turns nothing that lay.
-/
import Derived.Test.YtbchibmmkmldiaaGreatDoorThru
namespace Go.Proofs.YtbchibmmkmldiaaGreatDoor
open Go Go.RowKit

theorem fault_list (w0 w : World) (B : Nat) (t : Tr) (v : Value) (hB : Blk w B #[v, .int .i64 t.dep, .int .i64 t.lim] 62) (hl : ListOf w0 w t.l v) (hlm : t.l.length ≤ 4096) :
    Calls Tryz.prog 19 #[.pointer (some ⟨B, 0, none⟩)] w (fun e w' => e = .returned (.int .i64 (faultT t)) ∧ Below w.heap.size w w') := by
  obtain ⟨a, b, c, rfl, hl0⟩ := hl
  have hl : t.l.length = 0 ∨ (a = some ⟨b, 0, none⟩ ∧ CellsAre w0 w t.l b 0) := hl0.imp id (fun h => ⟨h.1, h.2.1⟩)
  clear hl0
  have c0 : w.cell? ⟨B, 0, none⟩ = some (.slice a t.l.length c) := hB.cell 0
  have c2 : w.cell? ⟨B, 2, none⟩ = some (.int .i64 t.lim) := hB.cell 2
  have hlt := hB.lt
  clear hB
  by_cases hz : t.lim = 0
  · have hz2 : (t.lim != 0) = false := by simpa using hz
    have hfa : faultT t = if t.l.any (fun x => !wellN x) then 30 else if t.l.any namelessB then 31 else 0 := by unfold faultT; rw [if_neg (by simpa using hz)]
    have h1 := contains_formless w0 t.l b 0 c a w hlm hl
    have h2 := fun w1 (hb : Below w.heap.size w w1) => contains_nameless w0 t.l b 0 c a w1 hlm (hl.imp id fun ⟨e, h⟩ => ⟨e, h.keep hb⟩)
    have H2 := Lib.hid h2; clear h2 hl
    obtain ⟨p, hp⟩ : ∃ p, t.l.any (fun x => !wellN x) = p := ⟨_, rfl⟩
    obtain ⟨q, hq⟩ : ∃ q, t.l.any namelessB = q := ⟨_, rfl⟩
    rw [hp, hq] at hfa
    rw [hp] at h1
    simp only [hq] at H2
    rw [hfa]
    clear hfa hp hq hz
    have H1 := Lib.hid h1; clear h1
    cases p with
    | true =>
      go_enter Tryz.func19, Tryz.ntmps19
      go_wp2_with (first | (go_at_call 41; (with_reducible refine H1.out.mono ?_); rintro e w1 ⟨rfl, hb⟩) | fail)
      go_ret
      exact ⟨rfl, hb⟩
    | false =>
      cases q with
      | true =>
        go_enter Tryz.func19, Tryz.ntmps19
        go_upto_if 13 with (first | (go_at_call 41; (with_reducible refine H1.out.mono ?_); rintro e w1 ⟨rfl, hb⟩) | fail)
        have k0 := (hb.cell (p := ⟨B, 0, none⟩) hlt).trans c0
        have hc := H2.out w1 hb
        have HC := Lib.hid hc; clear hc
        have HB := Lib.hid hb; clear hb
        go_wp2_with (first | (go_at_call 41; (with_reducible refine HC.out.mono ?_); rintro e w2 ⟨rfl, hb2⟩) | fail)
        go_ret
        exact ⟨rfl, HB.out.trans (hb2.mono HB.out.size)⟩
      | false =>
        go_enter Tryz.func19, Tryz.ntmps19
        go_upto_if 13 with (first | (go_at_call 41; (with_reducible refine H1.out.mono ?_); rintro e w1 ⟨rfl, hb⟩) | fail)
        have k0 := (hb.cell (p := ⟨B, 0, none⟩) hlt).trans c0
        have hc := H2.out w1 hb
        have HC := Lib.hid hc; clear hc
        have HB := Lib.hid hb; clear hb
        go_wp2_with (first | (go_at_call 41; (with_reducible refine HC.out.mono ?_); rintro e w2 ⟨rfl, hb2⟩) | fail)
        go_ret
        exact ⟨rfl, HB.out.trans (hb2.mono HB.out.size)⟩
  · have hz2 : (t.lim != 0) = true := by simpa using hz
    have hfa : faultT t = t.lim := by unfold faultT; rw [if_pos (by simpa using hz)]
    rw [hfa]
    clear hfa hz hl
    go_enter Tryz.func19, Tryz.ntmps19
    go_wp2
    go_ret
    exact ⟨rfl, Below.refl _ w⟩

set_option maxRecDepth 100000 in
set_option maxHeartbeats 4000000 in
theorem tcheck_any (ds ss : List Nd) (v0 v1 : Value) (w : World) (hd : SlIn w .D ds v0) (hs : SlIn w .S ss v1) :
    Calls Tryz.prog 8 #[.agg #[v0, v1]] w (fun e w' => e = .returned (.int .i64 (faultT (progT ds ss))) ∧ Below w.heap.size w w') := by
  have hlen := (progT_ok ds ss).1
  have hb0 : Below w.heap.size w (w.alloc (.cells #[v0, v1] 25)) := (Below.refl _ w).alloc (Nat.le_refl _) _
  have hT := through_any ds ss v0 v1 (w.alloc (.cells #[v0, v1] 25)) (hd.keep (keeps_below hb0)) (hs.keep (keeps_below hb0))
  obtain ⟨Q, hQ⟩ : ∃ Q, progT ds ss = Q := ⟨_, rfl⟩
  rw [hQ] at hT hlen ⊢
  clear hQ
  obtain ⟨FT, hFT⟩ : ∃ FT, faultT Q = FT := ⟨_, rfl⟩
  rw [hFT]
  have HFT := Lib.hid hFT; clear hFT
  obtain ⟨a0, c0, rfl, -⟩ := hd
  obtain ⟨a1, c1, rfl, -⟩ := hs
  obtain ⟨W0, hW0⟩ : ∃ W0, w.alloc (.cells #[.slice a0 ds.length c0, .slice a1 ss.length c1] 25) = W0 := ⟨_, rfl⟩
  rw [hW0] at hT hb0
  have e0 : W0.cell? ⟨w.heap.size, 0, none⟩ = some (.slice a0 ds.length c0) := by rw [← hW0]; exact (Blk.new w _ _).cell 0
  have e1 : W0.cell? ⟨w.heap.size, 1, none⟩ = some (.slice a1 ss.length c1) := by rw [← hW0]; exact (Blk.new w _ _).cell 1
  have HT := Lib.hid hT; clear hT
  have HB0 := Lib.hid hb0; clear hb0
  have HW0 := Lib.hid hW0; clear hW0
  go_enter Tryz.func8, Tryz.ntmps8
  go_upto_region 1 with fail
  rw [HW0.out]
  clear HW0
  go_upto_region 2 with (first | (go_at_call 18; (with_reducible refine HT.out.mono ?_); rintro e w1 ⟨v, rfl, hl, hb1⟩; obtain ⟨a, b, c, rfl, hl⟩ := hl; have HL := Lib.hid hl; clear hl; have HB1 := Lib.hid (HB0.out.trans (hb1.mono HB0.out.size)); clear hb1) | fail)
  have hX : Blk (w1.alloc (.cells #[.slice a Q.l.length c, .int .i64 Q.dep, .int .i64 Q.lim] 62)) w1.heap.size #[.slice a Q.l.length c, .int .i64 Q.dep, .int .i64 Q.lim] 62 := Blk.new w1 _ _
  have hb2 : Below w.heap.size w (w1.alloc (.cells #[.slice a Q.l.length c, .int .i64 Q.dep, .int .i64 Q.lim] 62)) := HB1.out.alloc HB1.out.size _
  have hl2 : ListOf W0 (w1.alloc (.cells #[.slice a Q.l.length c, .int .i64 Q.dep, .int .i64 Q.lim] 62)) Q.l (.slice a Q.l.length c) := ListOf.keep ⟨a, b, c, rfl, HL.out⟩ ((Below.refl _ w1).alloc (Nat.le_refl _) _)
  obtain ⟨W2, hW2⟩ : ∃ W2, w1.alloc (.cells #[.slice a Q.l.length c, .int .i64 Q.dep, .int .i64 Q.lim] 62) = W2 := ⟨_, rfl⟩
  rw [hW2] at hX hb2 hl2 ⊢
  have HF := Lib.hid (fault_list W0 W2 w1.heap.size Q _ hX hl2 hlen)
  rw [HFT.out] at HF
  clear HFT hl2 HL HB1 HT HB0 e0 e1 hW2
  have HB2 := Lib.hid hb2; clear hb2
  clear hX
  go_wp2_with (first | (go_at_call 19; (with_reducible refine HF.out.mono ?_); rintro e w3 ⟨rfl, hb3⟩) | fail)
  go_ret
  exact ⟨rfl, HB2.out.trans (hb3.mono HB2.out.size)⟩

end Go.Proofs.YtbchibmmkmldiaaGreatDoor
