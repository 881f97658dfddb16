/-
  The project's each of every type, and walk over every node: proved is what each makes of a tour, by induction on the tree.
-/
import Derived.Test.YtbchibmmkmldiaaGreatDoorTourG
import Derived.Test.YtbchibmmkmldiaaGreatDoorTourS
namespace Go.Proofs.YtbchibmmkmldiaaGreatDoor
open Go Go.RowKit

/-- A closure's two cells, beside a tour. -/
structure Clos (B c3 c5 : Nat) (T3 T5 : TypeId) (d : Int) (v : Value) (w : World) : Prop where
  b3 : Blk w c3 #[.pointer (some ⟨B, 0, none⟩)] T3
  b5 : Blk w c5 #[.int .i64 d] T5
  n3 : c3 ≠ B
  n5 : c5 ≠ B
  r3 : some c3 ≠ v.ownBlock
  r5 : some c5 ≠ v.ownBlock
theorem row_next {B c : Nat} {v v' : Value} {w w' : World} (hf : Fr B v.ownBlock v'.ownBlock w w') (hc : c < w.heap.size) (hr : some c ≠ v.ownBlock) : some c ≠ v'.ownBlock := by
  rcases hf.row with h | h
  · rw [h]; exact hr
  · intro e; have := h c e.symm; omega
theorem Clos.next {B c3 c5 : Nat} {T3 T5 : TypeId} {d : Int} {v v' : Value} {w w' : World} (h : Clos B c3 c5 T3 T5 d v w) (hf : Fr B v.ownBlock v'.ownBlock w w') : Clos B c3 c5 T3 T5 d v' w' :=
  ⟨h.b3.fr hf h.n3 h.r3, h.b5.fr hf h.n5 h.r5, h.n3, h.n5, row_next hf h.b3.lt h.r3, row_next hf h.b5.lt h.r5⟩

theorem eachC_any (w0 : World) (B : Nat) (k n : Int) (nm : ByteArray) (xs cs ts es : List Nd) (hxs : ∀ i (h : i < xs.length), WalkOf w0 B xs[i]) (hcs : ∀ i (h : i < cs.length), WalkOf w0 B cs[i]) : EachOf w0 B (.mk .C k n nm xs cs ts es) := by
  intro vs d t v w c3 c5 T3 T5 hin hw hB0 hd0 hd1 htok htl h3 h5 hn3 hn5 hr3 hr5 hT
  unfold NdIn at hin
  obtain ⟨⟨rfl, rfl, rfl⟩, -, -, -, vx, vc, vt, ve, rfl, hx, hc, -, -⟩ := hin
  change Calls Tryz.prog 129 #[.agg #[.int .i64 k, .int .i64 n, vx, vc], _] w (TouredTo w0 w B v (if (tourL xs (d + 1) t).lim ≠ 0 then tourL xs (d + 1) t else tourL cs (d + 1) (tourL xs (d + 1) t)))
  have hcl : Clos B c3 c5 T3 T5 d v w := ⟨h3, h5, hn3, hn5, hr3, hr5⟩
  have hb : Below w.heap.size w (w.alloc (.cells #[.int .i64 k, .int .i64 n, vx, vc] 122)) := (Below.refl _ w).alloc (Nat.le_refl _) _
  have hbox := Blk.new w #[.int .i64 k, .int .i64 n, vx, vc] 122
  have hboxB : w.heap.size ≠ B := by have := hT.blk.lt; omega
  have hboxR : some w.heap.size ≠ v.ownBlock := fun e => by have := (hT.row _ e.symm).2; omega
  have hcl1 : Clos B c3 c5 T3 T5 d v (w.alloc (.cells #[.int .i64 k, .int .i64 n, vx, vc] 122)) := hcl.next (Fr.below hb)
  have hT1 := hT.below hb
  have hw1 := hw.trans (hb.mono hw.size)
  have hok1 := tourL_ok xs (d + 1) t htok (by omega)
  have HS1 := Lib.hid (showE_any w0 B xs hxs vx d t v _ c3 c5 T3 T5 hx hw1 hB0 hd0 hd1 htok htl hcl1.b3 hcl1.b5 hn3 hn5 hr3 hr5 hT1)
  have HS2 := Lib.hid (fun t1 v1 w1 (h1 : t1.ok) (h2 : t1.lim = 0) (h3 : Clos B c3 c5 T3 T5 d v1 w1) (h4 : TourIn w0 w1 B t1 v1) (h5 : Below w0.heap.size w0 w1) => showC_any w0 B cs hcs vc d t1 v1 w1 c3 c5 T3 T5 hc h5 hB0 hd0 hd1 h1 h2 h3.b3 h3.b5 h3.n3 h3.n5 h3.r3 h3.r5 h4)
  obtain ⟨a, c, rfl, -⟩ := hx
  obtain ⟨a2, c2, rfl, -⟩ := hc
  obtain ⟨t1, ht1⟩ : ∃ t1, tourL xs (d + 1) t = t1 := ⟨_, rfl⟩
  rw [ht1] at HS1 hok1 ⊢
  clear ht1
  have HCL := Lib.hid hcl1; clear hcl1 hcl h3 h5
  have HBB := Lib.hid hb; clear hb
  have HBX := Lib.hid hbox; clear hbox
  have HW1 := Lib.hid hw1; clear hw1
  have HT0 := Lib.hid hT; clear hT hT1
  by_cases hz : t1.lim = 0
  · rw [if_neg (by simpa using hz)]
    obtain ⟨t2, ht2⟩ : ∃ t2, tourL cs (d + 1) t1 = t2 := ⟨_, rfl⟩
    have hdz : decide (t1.lim = 0) = true := by simpa using hz
    have HS3 := Lib.hid (fun v1 w1 h3 h4 h5 => by have := HS2.out t1 v1 w1 hok1 hz h3 h4 h5; rwa [ht2] at this)
    rw [ht2]
    clear ht2 HS2
    go_enter Tryz.func129, Tryz.ntmps129
    go_wp2_with fail
    refine HS1.out.mono ?_
    rintro e w2 ⟨v2, rfl, h2, hf⟩
    rw [hdz]
    clear hdz
    have k3 : w2.cell? ⟨w.heap.size, 3, none⟩ = some (.slice a2 cs.length c2) := (HBX.out.fr hf hboxB hboxR).cell 3
    have HC2 := Lib.hid (HS3.out v2 w2 (HCL.out.next hf) h2 (HW1.out.trans (hf.old hB0 HW1.out.size (fun g hg => (HT0.out.row g hg).1))))
    have HF := Lib.hid ((Fr.below HBB.out).trans hf); clear hf h2
    go_wp2_with fail
    refine HC2.out.mono ?_
    rintro e w3 ⟨v3, rfl, h3, hf3⟩
    have HF3 := Lib.hid (HF.out.trans hf3); clear hf3
    have H3 := Lib.hid h3; clear h3
    go_wp2
    go_ret
    exact ⟨v3, rfl, H3.out, HF3.out⟩
  · rw [if_pos (by simpa using hz)]
    have hdz : decide (t1.lim = 0) = false := by simpa using hz
    have HDZ := Lib.hid hdz
    go_enter Tryz.func129, Tryz.ntmps129
    go_wp2_with fail
    refine HS1.out.mono ?_
    rintro e w2 ⟨v2, rfl, h2, hf⟩
    rw [hdz]
    clear hdz
    have HF := Lib.hid ((Fr.below HBB.out).trans hf); clear hf
    have H2 := Lib.hid h2; clear h2
    go_wp2
    go_ret
    exact ⟨v2, by rw [HDZ.out]; rfl, H2.out, HF.out⟩

theorem box_next {B b : Nat} {cs : Array Value} {T : TypeId} {v v' : Value} {w w' : World} (h : Blk w b cs T ∧ b ≠ B ∧ some b ≠ v.ownBlock) (hf : Fr B v.ownBlock v'.ownBlock w w') : Blk w' b cs T ∧ b ≠ B ∧ some b ≠ v'.ownBlock :=
  ⟨h.1.fr hf h.2.1 h.2.2, h.2.1, row_next hf h.1.lt h.2.2⟩

set_option maxHeartbeats 4000000 in
theorem eachS_any (w0 : World) (B : Nat) (k n : Int) (nm : ByteArray) (xs cs ts es : List Nd) (hxs : ∀ i (h : i < xs.length), WalkOf w0 B xs[i]) (hcs : ∀ i (h : i < cs.length), WalkOf w0 B cs[i]) (hts : ∀ i (h : i < ts.length), WalkOf w0 B ts[i]) (hes : ∀ i (h : i < es.length), WalkOf w0 B es[i]) : EachOf w0 B (.mk .S k n nm xs cs ts es) := by
  intro vs d t v w c3 c5 T3 T5 hin hw hB0 hd0 hd1 htok htl h3 h5 hn3 hn5 hr3 hr5 hT
  unfold NdIn at hin
  obtain ⟨_, -, -, -, vx, vc, vt, ve, rfl, hx, hc, ht, he⟩ := hin
  change Calls Tryz.prog 126 #[.agg #[.int .i64 k, .string nm, vx, vc, vt, ve], _] w (TouredTo w0 w B v (kidsT (.mk .S k n nm xs cs ts es) (d + 1) t))
  have hcl : Clos B c3 c5 T3 T5 d v w := ⟨h3, h5, hn3, hn5, hr3, hr5⟩
  have hb : Below w.heap.size w (w.alloc (.cells #[.int .i64 k, .string nm, vx, vc, vt, ve] 119)) := (Below.refl _ w).alloc (Nat.le_refl _) _
  have BX := Lib.hid (show Blk (w.alloc (.cells #[.int .i64 k, .string nm, vx, vc, vt, ve] 119)) w.heap.size _ _ ∧ w.heap.size ≠ B ∧ some w.heap.size ≠ v.ownBlock from ⟨Blk.new w #[.int .i64 k, .string nm, vx, vc, vt, ve] 119, by have := hT.blk.lt; omega, fun e => by have := (hT.row _ e.symm).2; omega⟩)
  have hcl1 : Clos B c3 c5 T3 T5 d v (w.alloc (.cells #[.int .i64 k, .string nm, vx, vc, vt, ve] 119)) := hcl.next (Fr.below hb)
  have hT1 := hT.below hb
  have hw1 := hw.trans (hb.mono hw.size)
  have hkt : kidsT (.mk .S k n nm xs cs ts es) (d + 1) t = if (tourL cs (d + 1) t).lim ≠ 0 then tourL cs (d + 1) t else if (tourL xs (d + 1) (tourL cs (d + 1) t)).lim ≠ 0 then tourL xs (d + 1) (tourL cs (d + 1) t) else if (tourL ts (d + 1) (tourL xs (d + 1) (tourL cs (d + 1) t))).lim ≠ 0 then tourL ts (d + 1) (tourL xs (d + 1) (tourL cs (d + 1) t)) else tourL es (d + 1) (tourL ts (d + 1) (tourL xs (d + 1) (tourL cs (d + 1) t))) := rfl
  rw [hkt]
  clear hkt
  have hok1 := tourL_ok cs (d + 1) t htok (by omega)
  have hok2 := tourL_ok xs (d + 1) _ hok1 (by omega)
  have hok3 := tourL_ok ts (d + 1) _ hok2 (by omega)
  have HS1 := Lib.hid (showC_any w0 B cs hcs vc d t v _ c3 c5 T3 T5 hc hw1 hB0 hd0 hd1 htok htl hcl1.b3 hcl1.b5 hn3 hn5 hr3 hr5 hT1)
  have HS2 := Lib.hid (fun t1 v1 w1 (h1 : t1.ok) (h2 : t1.lim = 0) (h3 : Clos B c3 c5 T3 T5 d v1 w1) (h4 : TourIn w0 w1 B t1 v1) (h5 : Below w0.heap.size w0 w1) => showE_any w0 B xs hxs vx d t1 v1 w1 c3 c5 T3 T5 hx h5 hB0 hd0 hd1 h1 h2 h3.b3 h3.b5 h3.n3 h3.n5 h3.r3 h3.r5 h4)
  have HS3 := Lib.hid (fun t1 v1 w1 (h1 : t1.ok) (h2 : t1.lim = 0) (h3 : Clos B c3 c5 T3 T5 d v1 w1) (h4 : TourIn w0 w1 B t1 v1) (h5 : Below w0.heap.size w0 w1) => showS_any w0 B ts hts vt d t1 v1 w1 c3 c5 T3 T5 ht h5 hB0 hd0 hd1 h1 h2 h3.b3 h3.b5 h3.n3 h3.n5 h3.r3 h3.r5 h4)
  have HS4 := Lib.hid (fun t1 v1 w1 (h1 : t1.ok) (h2 : t1.lim = 0) (h3 : Clos B c3 c5 T3 T5 d v1 w1) (h4 : TourIn w0 w1 B t1 v1) (h5 : Below w0.heap.size w0 w1) => showS_any w0 B es hes ve d t1 v1 w1 c3 c5 T3 T5 he h5 hB0 hd0 hd1 h1 h2 h3.b3 h3.b5 h3.n3 h3.n5 h3.r3 h3.r5 h4)
  obtain ⟨a, c2, rfl, -⟩ := hx
  obtain ⟨b, d2, rfl, -⟩ := hc
  obtain ⟨e, f2, rfl, -⟩ := ht
  obtain ⟨g, h2, rfl, -⟩ := he
  obtain ⟨t1, ht1⟩ : ∃ t1, tourL cs (d + 1) t = t1 := ⟨_, rfl⟩
  rw [ht1] at HS1 hok1 hok2 hok3 ⊢
  clear ht1
  have HS2 := Lib.hid (HS2.out t1)
  obtain ⟨t2, ht2⟩ : ∃ t2, tourL xs (d + 1) t1 = t2 := ⟨_, rfl⟩
  rw [ht2] at HS2 hok2 hok3 ⊢
  clear ht2
  have HS3 := Lib.hid (HS3.out t2)
  obtain ⟨t3, ht3⟩ : ∃ t3, tourL ts (d + 1) t2 = t3 := ⟨_, rfl⟩
  rw [ht3] at HS3 hok3 ⊢
  clear ht3
  have HS4 := Lib.hid (HS4.out t3)
  obtain ⟨t4, ht4⟩ : ∃ t4, tourL es (d + 1) t3 = t4 := ⟨_, rfl⟩
  rw [ht4] at HS4 ⊢
  clear ht4
  have HCL := Lib.hid hcl1; clear hcl1 hcl h3 h5
  have HBB := Lib.hid hb; clear hb
  have HW1 := Lib.hid hw1; clear hw1
  have HT0 := Lib.hid hT1; clear hT hT1
  by_cases hz1 : t1.lim = 0
  · rw [if_neg (by simpa using hz1)]
    have hd1 : decide (t1.lim = 0) = true := by simpa using hz1
    by_cases hz2 : t2.lim = 0
    · rw [if_neg (by simpa using hz2)]
      have hd2 : decide (t2.lim = 0) = true := by simpa using hz2
      by_cases hz3 : t3.lim = 0
      · rw [if_neg (by simpa using hz3)]
        have hd3 : decide (t3.lim = 0) = true := by simpa using hz3
        go_enter Tryz.func126, Tryz.ntmps126
        go_wp2_with fail
        refine HS1.out.mono ?_
        rintro e w2 ⟨v2, rfl, h2, hf⟩
        rw [hd1]
        clear hd1
        have B2 := Lib.hid (box_next BX.out hf)
        have k2 : w2.cell? ⟨w.heap.size, 2, none⟩ = some (.slice a xs.length c2) := B2.out.1.cell 2
        have O2 := Lib.hid (HW1.out.trans (hf.old hB0 HW1.out.size (fun g hg => (HT0.out.row g hg).1)))
        have L2 := Lib.hid (HCL.out.next hf)
        have HC2 := Lib.hid (HS2.out v2 w2 hok1 hz1 L2.out h2 O2.out)
        have T2 := Lib.hid h2; clear h2
        have F2 := Lib.hid ((Fr.below HBB.out).trans hf); clear hf
        go_wp2_with fail
        refine HC2.out.mono ?_
        rintro e w3 ⟨v3, rfl, h3, hf⟩
        rw [hd2]
        clear hd2
        have B3 := Lib.hid (box_next B2.out hf)
        have k3 : w3.cell? ⟨w.heap.size, 4, none⟩ = some (.slice e ts.length f2) := B3.out.1.cell 4
        have O3 := Lib.hid (O2.out.trans (hf.old hB0 O2.out.size (fun g hg => (T2.out.row g hg).1)))
        have L3 := Lib.hid (L2.out.next hf)
        have HC3 := Lib.hid (HS3.out v3 w3 hok2 hz2 L3.out h3 O3.out)
        have T3 := Lib.hid h3; clear h3
        have F3 := Lib.hid (F2.out.trans hf); clear hf
        go_wp2_with fail
        refine HC3.out.mono ?_
        rintro e w4 ⟨v4, rfl, h4, hf⟩
        rw [hd3]
        clear hd3
        have B4 := Lib.hid (box_next B3.out hf)
        have k4 : w4.cell? ⟨w.heap.size, 5, none⟩ = some (.slice g es.length h2) := B4.out.1.cell 5
        have O4 := Lib.hid (O3.out.trans (hf.old hB0 O3.out.size (fun g hg => (T3.out.row g hg).1)))
        have L4 := Lib.hid (L3.out.next hf)
        have HC4 := Lib.hid (HS4.out v4 w4 hok3 hz3 L4.out h4 O4.out)
        have T4 := Lib.hid h4; clear h4
        have F4 := Lib.hid (F3.out.trans hf); clear hf
        go_wp2_with fail
        refine HC4.out.mono ?_
        rintro e w5 ⟨v5, rfl, h5, hf⟩
        have F5 := Lib.hid (F4.out.trans hf); clear hf
        have H5 := Lib.hid h5; clear h5
        go_wp2
        go_ret
        exact ⟨v5, rfl, H5.out, F5.out⟩
      · rw [if_pos (by simpa using hz3)]
        have hd3 : decide (t3.lim = 0) = false := by simpa using hz3
        go_enter Tryz.func126, Tryz.ntmps126
        go_wp2_with fail
        refine HS1.out.mono ?_
        rintro e w2 ⟨v2, rfl, h2, hf⟩
        rw [hd1]
        clear hd1
        have B2 := Lib.hid (box_next BX.out hf)
        have k2 : w2.cell? ⟨w.heap.size, 2, none⟩ = some (.slice a xs.length c2) := B2.out.1.cell 2
        have O2 := Lib.hid (HW1.out.trans (hf.old hB0 HW1.out.size (fun g hg => (HT0.out.row g hg).1)))
        have L2 := Lib.hid (HCL.out.next hf)
        have HC2 := Lib.hid (HS2.out v2 w2 hok1 hz1 L2.out h2 O2.out)
        have T2 := Lib.hid h2; clear h2
        have F2 := Lib.hid ((Fr.below HBB.out).trans hf); clear hf
        go_wp2_with fail
        refine HC2.out.mono ?_
        rintro e w3 ⟨v3, rfl, h3, hf⟩
        rw [hd2]
        clear hd2
        have B3 := Lib.hid (box_next B2.out hf)
        have k3 : w3.cell? ⟨w.heap.size, 4, none⟩ = some (.slice e ts.length f2) := B3.out.1.cell 4
        have O3 := Lib.hid (O2.out.trans (hf.old hB0 O2.out.size (fun g hg => (T2.out.row g hg).1)))
        have L3 := Lib.hid (L2.out.next hf)
        have HC3 := Lib.hid (HS3.out v3 w3 hok2 hz2 L3.out h3 O3.out)
        have T3 := Lib.hid h3; clear h3
        have F3 := Lib.hid (F2.out.trans hf); clear hf
        go_wp2_with fail
        refine HC3.out.mono ?_
        rintro e w4 ⟨v4, rfl, h4, hf⟩
        rw [hd3]
        have F4 := Lib.hid (F3.out.trans hf); clear hf
        have H4 := Lib.hid h4; clear h4
        have HDZ := Lib.hid hd3; clear hd3
        go_wp2
        go_ret
        exact ⟨v4, by rw [HDZ.out]; rfl, H4.out, F4.out⟩
    · rw [if_pos (by simpa using hz2)]
      have hd2 : decide (t2.lim = 0) = false := by simpa using hz2
      go_enter Tryz.func126, Tryz.ntmps126
      go_wp2_with fail
      refine HS1.out.mono ?_
      rintro e w2 ⟨v2, rfl, h2, hf⟩
      rw [hd1]
      clear hd1
      have B2 := Lib.hid (box_next BX.out hf)
      have k2 : w2.cell? ⟨w.heap.size, 2, none⟩ = some (.slice a xs.length c2) := B2.out.1.cell 2
      have O2 := Lib.hid (HW1.out.trans (hf.old hB0 HW1.out.size (fun g hg => (HT0.out.row g hg).1)))
      have L2 := Lib.hid (HCL.out.next hf)
      have HC2 := Lib.hid (HS2.out v2 w2 hok1 hz1 L2.out h2 O2.out)
      have T2 := Lib.hid h2; clear h2
      have F2 := Lib.hid ((Fr.below HBB.out).trans hf); clear hf
      go_wp2_with fail
      refine HC2.out.mono ?_
      rintro e w3 ⟨v3, rfl, h3, hf⟩
      rw [hd2]
      have F3 := Lib.hid (F2.out.trans hf); clear hf
      have H3 := Lib.hid h3; clear h3
      have HDZ := Lib.hid hd2; clear hd2
      go_wp2
      go_ret
      exact ⟨v3, by rw [HDZ.out]; rfl, H3.out, F3.out⟩
  · rw [if_pos (by simpa using hz1)]
    have hd1 : decide (t1.lim = 0) = false := by simpa using hz1
    go_enter Tryz.func126, Tryz.ntmps126
    go_wp2_with fail
    refine HS1.out.mono ?_
    rintro e w2 ⟨v2, rfl, h2, hf⟩
    rw [hd1]
    have F2 := Lib.hid ((Fr.below HBB.out).trans hf); clear hf
    have H2 := Lib.hid h2; clear h2
    have HDZ := Lib.hid hd1; clear hd1
    go_wp2
    go_ret
    exact ⟨v2, by rw [HDZ.out]; rfl, H2.out, F2.out⟩

theorem eachD_any (w0 : World) (B : Nat) (k n : Int) (nm : ByteArray) (xs cs ts es : List Nd) : EachOf w0 B (.mk .D k n nm xs cs ts es) := by
  intro vs d t v w c3 c5 T3 T5 hin hw hB0 hd0 hd1 htok htl h3 h5 hn3 hn5 hr3 hr5 hT
  unfold NdIn at hin
  obtain ⟨-, -, -, -, vx, vc, vt, ve, rfl, -, -, -, -⟩ := hin
  change Calls Tryz.prog 125 #[.agg #[.string nm, .int .i64 n], _] w (TouredTo w0 w B v t)
  have hb : Below w.heap.size w (w.alloc (.cells #[.string nm, .int .i64 n] 118)) := (Below.refl _ w).alloc (Nat.le_refl _) _
  have H2 := Lib.hid (hT.below hb)
  have HF := Lib.hid (Fr.below (B := B) (r := v.ownBlock) hb)
  have HZ := Lib.hid (show decide (t.lim = 0) = true by simpa using htl)
  clear hT hb htl h3 h5 hw htok
  go_enter Tryz.func125, Tryz.ntmps125
  go_wp2
  go_ret
  exact ⟨v, by rw [HZ.out]; rfl, H2.out, HF.out⟩

/-- The project's walk, over every node. -/
theorem walkOf_all (w0 : World) (B : Nat) : ∀ (N : Nat) (x : Nd), SizeOf.sizeOf x ≤ N → WalkOf w0 B x := by
  intro N
  induction N with
  | zero =>
    intro x hN
    obtain ⟨ty, k, n, nm, xs, cs, ts, es⟩ := x
    simp only [Nd.mk.sizeOf_spec] at hN
    omega
  | succ N ih =>
    intro x hN
    have hmem := fun y h => Nd.mem_size (x := x) (y := y) h
    obtain ⟨ty, k, n, nm, xs, cs, ts, es⟩ := x
    simp only [Nd.xs, Nd.cs, Nd.ts, Nd.es] at hmem
    have h1 : ∀ i (h : i < xs.length), WalkOf w0 B xs[i] := fun i hi => ih _ (by have := hmem _ (.inl (List.getElem_mem hi)); omega)
    have h2 : ∀ i (h : i < cs.length), WalkOf w0 B cs[i] := fun i hi => ih _ (by have := hmem _ (.inr (.inl (List.getElem_mem hi))); omega)
    have h3 : ∀ i (h : i < ts.length), WalkOf w0 B ts[i] := fun i hi => ih _ (by have := hmem _ (.inr (.inr (.inl (List.getElem_mem hi)))); omega)
    have h4 : ∀ i (h : i < es.length), WalkOf w0 B es[i] := fun i hi => ih _ (by have := hmem _ (.inr (.inr (.inr (List.getElem_mem hi)))); omega)
    refine walk_gen w0 B _ ?_
    cases ty with
    | E =>
      intro vs d t v w c3 c5 T3 T5 hin hw hB0 hd0 hd1 htok htl q3 q5 hn3 hn5 hr3 hr5 hT
      unfold NdIn at hin
      obtain ⟨⟨rfl, rfl, rfl⟩, -, -, -, vx, vc, vt, ve, rfl, hx, -, -, -⟩ := hin
      exact eachE_any w0 B xs h1 k n nm vx d t v w c3 c5 T3 T5 hx hw hB0 hd0 hd1 htok htl q3 q5 hn3 hn5 hr3 hr5 hT
    | C => exact eachC_any w0 B k n nm xs cs ts es h1 h2
    | S => exact eachS_any w0 B k n nm xs cs ts es h1 h2 h3 h4
    | D => exact eachD_any w0 B k n nm xs cs ts es
end Go.Proofs.YtbchibmmkmldiaaGreatDoor
