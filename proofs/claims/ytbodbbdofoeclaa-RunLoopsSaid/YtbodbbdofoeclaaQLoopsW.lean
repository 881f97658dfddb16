/-
  The statement's own walk: gnomonlaw8.RunLoops answers true for every two numbers.
-/
import Derived.Test.YtbodbbdofoeclaaQLoopsP

namespace Go.Proofs.Ytbodbbdofoeclaa
open Go Go.RowKit Go.Maps

theorem ty_numE (n : Int) : (numE n).ty = .E := by unfold numE; split <;> rfl
theorem whileS_in {w : World} {c : Nd} {ts : List Nd} {v1 v2 : Value} (hc : SlIn w .C [c] v1) (ht : SlIn w .S ts v2) : NdIn w (whileS c ts) [.int .i64 4, .string ⟨#[]⟩, .slice none 0 0, v1, v2, .slice none 0 0] := by
  unfold whileS NdIn
  exact ⟨rfl, small_ok (by decide) (by decide), ok0, by decide, .slice none 0 0, v1, v2, .slice none 0 0, rfl, sl0 w .E, hc, ht, sl0 w .S⟩
set_option maxRecDepth 100000 in
set_option maxHeartbeats 8000000 in
theorem loops_any (n k : Int) (w : World) (_ : (Lit.int .i64 n).wf = true) (_ : (Lit.int .i64 k).wf = true) :
    Calls Try.prog 4 #[.int .i64 n, .int .i64 k] w (fun e w' => e = .returned (.bool true) ∧ Below w.heap.size w w') := by
  have HK := Lib.hid (known8_any w)
  by_cases hbad : n < 0 ∨ 500 < n ∨ k < 0 ∨ 2000 < k
  · have hcase : n < 0 ∨ (¬ n < 0 ∧ 500 < n) ∨ (¬ n < 0 ∧ ¬ 500 < n ∧ k < 0) ∨ (¬ n < 0 ∧ ¬ 500 < n ∧ ¬ k < 0 ∧ 2000 < k) := by omega
    clear hbad
    rcases hcase with h1 | ⟨h1, h2⟩ | ⟨h1, h2, h3⟩ | ⟨h1, h2, h3, h4⟩
    · have t1 : decide (n < 0) = true := by simpa using h1
      go_enter Try.func4, Try.ntmps4
      go_wp2_with (first | (go_at_call 8; (with_reducible refine HK.out.mono ?_); rintro e w1 ⟨rfl, hb1⟩; have HB1 := Lib.hid hb1; clear hb1) | fail)
      go_ret
      exact ⟨rfl, HB1.out⟩
    · have t1 : decide (n < 0) = false := by simpa using h1
      have t2 : decide (500 < n) = true := by simpa using h2
      go_enter Try.func4, Try.ntmps4
      go_wp2_with (first | (go_at_call 8; (with_reducible refine HK.out.mono ?_); rintro e w1 ⟨rfl, hb1⟩; have HB1 := Lib.hid hb1; clear hb1) | fail)
      go_ret
      exact ⟨rfl, HB1.out⟩
    · have t1 : decide (n < 0) = false := by simpa using h1
      have t2 : decide (500 < n) = false := by simpa using h2
      have t3 : decide (k < 0) = true := by simpa using h3
      go_enter Try.func4, Try.ntmps4
      go_wp2_with (first | (go_at_call 8; (with_reducible refine HK.out.mono ?_); rintro e w1 ⟨rfl, hb1⟩; have HB1 := Lib.hid hb1; clear hb1) | fail)
      go_ret
      exact ⟨rfl, HB1.out⟩
    · have t1 : decide (n < 0) = false := by simpa using h1
      have t2 : decide (500 < n) = false := by simpa using h2
      have t3 : decide (k < 0) = false := by simpa using h3
      have t4 : decide (2000 < k) = true := by simpa using h4
      go_enter Try.func4, Try.ntmps4
      go_wp2_with (first | (go_at_call 8; (with_reducible refine HK.out.mono ?_); rintro e w1 ⟨rfl, hb1⟩; have HB1 := Lib.hid hb1; clear hb1) | fail)
      go_ret
      exact ⟨rfl, HB1.out⟩
  obtain ⟨n', rfl⟩ : ∃ m : Nat, n = m := ⟨n.toNat, by omega⟩
  obtain ⟨k', rfl⟩ : ∃ m : Nat, k = m := ⟨k.toNat, by omega⟩
  have hn : n' ≤ 500 := by omega
  have hk : k' ≤ 2000 := by omega
  clear hbad
  have HF := Lib.hid (And.intro (lp_runF k' n' hk) (lp_runO k' n' hn))
  have HNN := Lib.hid (fun w => number_any (n' : Int) (by unfold fitsI; omega) (by omega) w)
  have HN1 := Lib.hid (fun w => number_any 1 (by decide) (by decide) w)
  have HX := Lib.hid (fun w => nameE_any ⟨#[120]⟩ (by decide) w)
  have t1 : decide ((n' : Int) < 0) = false := by simp
  have t2 : decide (500 < (n' : Int)) = false := by simp; omega
  have t3 : decide ((k' : Int) < 0) = false := by simp
  have t4 : decide (2000 < (k' : Int)) = false := by simp; omega
  have HNK := Lib.hid (And.intro hn hk)
  go_enter Try.func4, Try.ntmps4
  go_wp2_with (first | (go_at_call 8; (with_reducible refine HK.out.mono ?_); rintro e w1 ⟨rfl, hb1⟩; have HB1 := Lib.hid hb1; clear hb1) | fail)
  obtain ⟨wk, hwk⟩ : ∃ x, x = w1 := ⟨_, rfl⟩
  subst hwk
  obtain ⟨D, hD⟩ : ∃ d, wk.heap.size = d := ⟨_, rfl⟩
  obtain ⟨W3, hW3⟩ : ∃ W, wk.alloc (.cells #[.string ⟨#[120]⟩, .int .i64 0] 41) = W := ⟨_, rfl⟩
  have hd3 : Blk W3 D [[.string ⟨#[120]⟩, .int .i64 0]].flatten.toArray 41 := by rw [← hW3, ← hD]; exact Blk.new wk _ _
  have hb3 : Below w.heap.size w W3 := by rw [← hW3]; exact HB1.out.alloc HB1.out.size _
  have HD3 := Lib.hid (And.intro hd3 hb3)
  rw [hW3, hD]
  clear hd3 hb3 hW3 hD HK HB1
  refine (HX.out _).mono ?_
  rintro e w4 ⟨k1, n1, s1, a1, l1, c1, rfl, hn1, hb4⟩
  have H4 := Lib.hid (And.intro hn1 hb4)
  clear hn1 hb4
  go_wp2_with fail
  refine (HNN.out _).mono ?_
  rintro e w5 ⟨k2, n2, s2, a2, l2, c2, rfl, hn2, hb5⟩
  have H5 := Lib.hid (H4.out.2.trans (hb5.mono H4.out.2.size))
  have HC := Lib.hid (cmpC_any 1 (small_ok (by decide) (by decide)) (varE ⟨#[120]⟩) (numE n') rfl (ty_numE _) _ _ _ _ _ _ _ _ _ _ _ _ w5 (H4.out.1.keep (keeps_below hb5)) hn2)
  clear hn2 hb5
  go_wp2_with fail
  refine HC.out.mono ?_
  rintro e w6 ⟨k3, n3, a3, l3, c3, a4, l4, c4, rfl, hc6, hb6⟩
  have H6 := Lib.hid (And.intro hc6 (H5.out.trans (hb6.mono H5.out.size)))
  clear hc6 hb6
  go_wp2_with fail
  obtain ⟨C, hC⟩ : ∃ d, w6.heap.size = d := ⟨_, rfl⟩
  obtain ⟨W7, hW7⟩ : ∃ W, w6.alloc (.cells #[.int .i64 k3, .int .i64 n3, .slice a3 l3 c3, .slice a4 l4 c4] 45) = W := ⟨_, rfl⟩
  have hc7 : Blk W7 C [[.int .i64 k3, .int .i64 n3, .slice a3 l3 c3, .slice a4 l4 c4]].flatten.toArray 45 := by rw [← hW7, ← hC]; exact Blk.new w6 _ _
  have hb7 : Below w6.heap.size w6 W7 := by rw [← hW7]; exact (Below.refl _ w6).alloc (Nat.le_refl _) _
  have hl7 : SlIn W7 .C [lpC n'] (.slice (some ⟨C, 0, none⟩) 1 1) := slIn_blk (vss := [_]) hc7 rfl one_le (nodes1 rfl (H6.out.1.keep (keeps_below hb7)))
  have H7 := Lib.hid (And.intro hl7 (H6.out.2.trans (hb7.mono H6.out.2.size)))
  rw [hW7, hC]
  clear hC hW7 hc7 hb7 hl7
  refine (HX.out _).mono ?_
  rintro e w8 ⟨k5, n5, s5, a5, l5, c5, rfl, hn8, hb8⟩
  have H8 := Lib.hid (And.intro hn8 (And.intro (H7.out.2.trans (hb8.mono H7.out.2.size)) hb8))
  clear hn8 hb8
  go_wp2_with fail
  refine (HN1.out _).mono ?_
  rintro e w10 ⟨k6, n6, s6, a6, l6, c6, rfl, hn10, hb10⟩
  have H10 := Lib.hid (And.intro (H8.out.2.1.trans (hb10.mono H8.out.2.1.size)) (H8.out.2.2.trans (hb10.mono H8.out.2.2.size)))
  have HT := Lib.hid (twoE_any 6 (small_ok (by decide) (by decide)) (varE ⟨#[120]⟩) (numE 1) rfl rfl _ _ _ _ _ _ _ _ _ _ _ _ w10 (H8.out.1.keep (keeps_below hb10)) hn10)
  clear hn10 hb10
  go_wp2_with fail
  refine HT.out.mono ?_
  rintro e w11 ⟨k7, n7, s7, a7, l7, c7, rfl, hn11, hb11⟩
  have H11 := Lib.hid (And.intro (H10.out.1.trans (hb11.mono H10.out.1.size)) (H10.out.2.trans (hb11.mono H10.out.2.size)))
  have HG := Lib.hid (giveS_any ⟨#[120]⟩ (by decide) _ rfl _ _ _ _ _ _ w11 hn11)
  clear hn11 hb11
  go_wp2_with fail
  refine HG.out.mono ?_
  rintro e w12 ⟨k8, s8, a8, l8, c8, v3, v4, v5, rfl, rfl, rfl, rfl, hn12, hb12⟩
  have H12 := Lib.hid (And.intro hn12 (And.intro (H11.out.1.trans (hb12.mono H11.out.1.size)) (H11.out.2.trans (hb12.mono H11.out.2.size))))
  clear hn12 hb12
  go_wp2_with fail
  obtain ⟨T, hT⟩ : ∃ s, w12.heap.size = s := ⟨_, rfl⟩
  obtain ⟨W15, hW15⟩ : ∃ W, ((w12.alloc (.cells #[.int .i64 k8, .string s8, .slice a8 l8 c8, .slice none 0 0, .slice none 0 0, .slice none 0 0] 52)).alloc (.cells #[.int .i64 4, .string ⟨#[]⟩, .slice none 0 0, .slice (some ⟨C, 0, none⟩) 1 1, .slice (some ⟨w12.heap.size, 0, none⟩) 1 1, .slice none 0 0] 52)).alloc (.cells #[.slice (some ⟨D, 0, none⟩) 1 1, .slice (some ⟨w12.heap.size + 1, 0, none⟩) 1 1] 25) = W := ⟨_, rfl⟩
  have hb15 : Below w12.heap.size w12 W15 := by rw [← hW15]; exact (((Below.refl _ w12).alloc (Nat.le_refl _) _).alloc (by simp) _).alloc (by simp <;> omega) _
  have ht15 : Blk W15 T [[.int .i64 k8, .string s8, .slice a8 l8 c8, .slice none 0 0, .slice none 0 0, .slice none 0 0]].flatten.toArray 52 := by rw [← hW15, ← hT]; exact ((Blk.new w12 _ _).alloc _).alloc _
  have hs15 : Blk W15 (T + 1) [[.int .i64 4, .string ⟨#[]⟩, .slice none 0 0, .slice (some ⟨C, 0, none⟩) 1 1, .slice (some ⟨T, 0, none⟩) 1 1, .slice none 0 0]].flatten.toArray 52 := by rw [← hW15, ← hT]; exact (Blk.at (by simp)).alloc _
  have hb315 := H12.out.2.1.trans (hb15.mono H12.out.2.1.size)
  have hb715 := H12.out.2.2.trans (hb15.mono H12.out.2.2.size)
  have hd15 := HD3.out.1.next hb315
  have hbw := HD3.out.2.trans (hb315.mono HD3.out.2.size)
  have hlt : SlIn W15 .S lpB (.slice (some ⟨T, 0, none⟩) 1 1) := slIn_blk (vss := [_]) ht15 rfl one_le (nodes1 rfl (H12.out.1.keep (keeps_below hb15)))
  have hlc : SlIn W15 .C [lpC n'] (.slice (some ⟨C, 0, none⟩) 1 1) := H7.out.1.keep (keeps_below hb715)
  have HR := Lib.hid (Run_any [oneD] (lpS n') [] k' _ _ _ W15 (slIn_blk (vss := [_]) hd15 rfl one_le (nodes1 rfl (declD_in (by decide) ok0))) (slIn_blk (vss := [_]) hs15 rfl one_le (nodes1 rfl (whileS_in hlc hlt))) ⟨none, 0, rfl, Nat.le_refl _, Nat.zero_le _, .inl rfl⟩ (fun x hx => by cases hx))
  have HBW := Lib.hid hbw
  rw [hW15, hT]
  clear hT hW15 hb15 ht15 hs15 hb315 hb715 hd15 hbw hlt hlc
  refine HR.out.mono ?_
  rintro e wA ⟨u, rfl, hbA, hout, -⟩
  have hO := hout HF.out.1
  rw [HF.out.1]
  rw [HF.out.2] at hO
  have HBA := Lib.hid (HBW.out.trans (hbA.mono HBW.out.size))
  clear hout hbA t1 t2 t3 t4 hn hk
  unfold lpFin at hO
  by_cases hz : 2 * n' + 1 ≤ k'
  · rw [if_pos hz] at hO
    obtain ⟨ve, vv, va, rfl, hev, ⟨bb, cc, rfl, -, -, -, hiv⟩, hrv, -⟩ := hO
    obtain ⟨a15, c15, rfl⟩ := hev.form
    obtain ⟨a17, c17, rfl⟩ := hrv.form
    have i0 : wA.cell? ⟨bb, 0, none⟩ = some (.int .i64 n') := hiv 0 (by simp)
    have hlt := World.block_lt_of_cell? wA _ i0
    clear hev hiv hrv
    simp only [List.length_cons, List.length_nil]
    have HZ := Lib.hid hz
    clear hz
    obtain ⟨NI, hNI⟩ : ∃ x : Int, (n' : Int) = x := ⟨_, rfl⟩
    obtain ⟨KI, hKI⟩ : ∃ x : Int, (k' : Int) = x := ⟨_, rfl⟩
    obtain ⟨SI, hSI⟩ : ∃ x : Int, ((2 * n' + 1 : Nat) : Int) = x := ⟨_, rfl⟩
    obtain ⟨QI, hQI⟩ : ∃ x : Int, IntKind.i64.wrap (KI.tdiv 2) = x := ⟨_, rfl⟩
    obtain ⟨MI, hMI⟩ : ∃ x : Int, IntKind.i64.wrap (2 * NI) = x := ⟨_, rfl⟩
    have m2 : IntKind.i64.wrap (MI + 1) = SI := by rw [← hMI, fits_wrap (x := 2 * NI) (by have := HNK.out; unfold fitsI; omega), fits_wrap (by have := HNK.out; unfold fitsI; omega)]; omega
    have hq : QI = ((k' / 2 : Nat) : Int) := by
      have e : KI.tdiv 2 = ((k' / 2 : Nat) : Int) := by rw [← hKI]; rfl
      rw [← hQI, e]
      exact fits_wrap (by have := HNK.out; unfold fitsI; omega)
    have i0 : (wA.alloc (.cells #[.int .i64 2, .int .i64 0, .int .i64 SI, .slice a15 0 c15, .slice (some ⟨bb, 0, none⟩) 1 cc, .slice a17 0 c17] 31)).cell? ⟨bb, 0, none⟩ = some (.int .i64 n') := (((Below.refl wA.heap.size wA).alloc (Nat.le_refl _) _).cell (p := ⟨bb, 0, none⟩) hlt).trans i0
    have p1 : min QI NI = NI := by have := HZ.out; omega
    have p2 : min KI SI = SI := by have := HZ.out; omega
    clear hlt
    rw [hSI, hNI, hKI]
    rw [hNI] at i0
    have HNI := Lib.hid (And.intro hNI (And.intro hKI (And.intro hSI hq)))
    clear hNI hKI hSI hq
    go_upto_region 7 with fail
    go_wp2_with fail
    go_ret
    exact ⟨rfl, HBA.out.alloc HBA.out.size _⟩
  · rw [if_neg hz] at hO
    obtain ⟨ve, vv, va, rfl, hev, ⟨bb, cc, rfl, -, -, -, hiv⟩, hrv, -⟩ := hO
    obtain ⟨a15, c15, rfl⟩ := hev.form
    obtain ⟨a17, c17, rfl⟩ := hrv.form
    have i0 : wA.cell? ⟨bb, 0, none⟩ = some (.int .i64 ((k' / 2 : Nat) : Int)) := hiv 0 (by simp)
    have hlt := World.block_lt_of_cell? wA _ i0
    clear hev hiv hrv
    simp only [List.length_cons, List.length_nil]
    have HZ := Lib.hid hz
    clear hz
    obtain ⟨NI, hNI⟩ : ∃ x : Int, (n' : Int) = x := ⟨_, rfl⟩
    obtain ⟨KI, hKI⟩ : ∃ x : Int, (k' : Int) = x := ⟨_, rfl⟩
    obtain ⟨SI, hSI⟩ : ∃ x : Int, ((2 * n' + 1 : Nat) : Int) = x := ⟨_, rfl⟩
    obtain ⟨QI, hQI⟩ : ∃ x : Int, IntKind.i64.wrap (KI.tdiv 2) = x := ⟨_, rfl⟩
    obtain ⟨MI, hMI⟩ : ∃ x : Int, IntKind.i64.wrap (2 * NI) = x := ⟨_, rfl⟩
    have m2 : IntKind.i64.wrap (MI + 1) = SI := by rw [← hMI, fits_wrap (x := 2 * NI) (by have := HNK.out; unfold fitsI; omega), fits_wrap (by have := HNK.out; unfold fitsI; omega)]; omega
    have hq : QI = ((k' / 2 : Nat) : Int) := by
      have e : KI.tdiv 2 = ((k' / 2 : Nat) : Int) := by rw [← hKI]; rfl
      rw [← hQI, e]
      exact fits_wrap (by have := HNK.out; unfold fitsI; omega)
    have i0 : (wA.alloc (.cells #[.int .i64 1, .int .i64 0, .int .i64 KI, .slice a15 0 c15, .slice (some ⟨bb, 0, none⟩) 1 cc, .slice a17 0 c17] 31)).cell? ⟨bb, 0, none⟩ = some (.int .i64 ((k' / 2 : Nat) : Int)) := (((Below.refl wA.heap.size wA).alloc (Nat.le_refl _) _).cell (p := ⟨bb, 0, none⟩) hlt).trans i0
    have p1 : min QI NI = QI := by have := HZ.out; omega
    have p2 : min KI SI = KI := by have := HZ.out; omega
    have p3 : decide (SI ≤ KI) = false := by have := HZ.out; simp; omega
    clear hlt
    rw [hNI, hKI]
    rw [← hq] at i0
    have HNI := Lib.hid (And.intro hNI (And.intro hKI (And.intro hSI hq)))
    clear hNI hKI hSI hq
    go_upto_region 7 with fail
    go_wp2_with fail
    go_ret
    exact ⟨rfl, HBA.out.alloc HBA.out.size _⟩
end Go.Proofs.Ytbodbbdofoeclaa
