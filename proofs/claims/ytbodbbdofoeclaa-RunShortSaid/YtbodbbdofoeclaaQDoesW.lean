/-
  The statement's own walk: gnomonlaw8.RunDoes answers true for every kind and every two numbers.
-/
import Derived.Test.YtbodbbdofoeclaaQFamP

namespace Go.Proofs.Ytbodbbdofoeclaa
open Go Go.RowKit Go.Maps

theorem div_num (a b : Int) : divV a b = .tuple #[.int .i64 (numK 9 a b).1, .int .i64 (numK 9 a b).2] := by
  show _ = Value.tuple #[.int .i64 (if b = 0 then ((0 : Int), (2 : Int)) else numT (a.tdiv b)).1, .int .i64 (if b = 0 then ((0 : Int), (2 : Int)) else numT (a.tdiv b)).2]
  unfold divV
  split
  · rfl
  · rw [tell_num]
theorem rem_num (a b : Int) : remV a b = .tuple #[.int .i64 (numK 10 a b).1, .int .i64 (numK 10 a b).2] := by
  show _ = Value.tuple #[.int .i64 (if b = 0 then ((0 : Int), (2 : Int)) else if a = -9223372036854775808 ∧ b = -1 then (0, 1) else (a.tmod b, 0)).1, .int .i64 (if b = 0 then ((0 : Int), (2 : Int)) else if a = -9223372036854775808 ∧ b = -1 then (0, 1) else (a.tmod b, 0)).2]
  unfold remV
  split
  · rfl
  · split <;> rfl
theorem ty_num (n : Int) : (numE n).ty = .E := by unfold numE; split <;> rfl
theorem wf_fits {n : Int} (h : (Lit.int .i64 n).wf = true) : fitsI n := fits_wf h
set_option maxRecDepth 100000 in
set_option maxHeartbeats 8000000 in
theorem does_any (k a b : Int) (w : World) (_ : (Lit.int .i64 k).wf = true) (ha : (Lit.int .i64 a).wf = true) (hb : (Lit.int .i64 b).wf = true) :
    Calls Try.prog 5 #[.int .i64 k, .int .i64 a, .int .i64 b] w (fun e w' => e = .returned (.bool true) ∧ Below w.heap.size w w') := by
  have hfa := wf_fits ha
  have hfb := wf_fits hb
  clear ha hb
  have HK := Lib.hid (known8_any w)
  by_cases a0 : a = -9223372036854775808
  · have t1 : (a == -9223372036854775808) = true := by simpa using a0
    clear hfa hfb
    go_enter Try.func5, Try.ntmps5
    go_wp2_with (first | (go_at_call 8; (with_reducible refine HK.out.mono ?_); rintro e w1 ⟨rfl, hb1⟩; have HB1 := Lib.hid hb1; clear hb1) | fail)
    go_ret
    exact ⟨rfl, HB1.out⟩
  have t1 : (a == -9223372036854775808) = false := by simpa using a0
  by_cases b0 : b = -9223372036854775808
  · have t2 : (b == -9223372036854775808) = true := by simpa using b0
    clear hfa hfb
    go_enter Try.func5, Try.ntmps5
    go_wp2_with (first | (go_at_call 8; (with_reducible refine HK.out.mono ?_); rintro e w1 ⟨rfl, hb1⟩; have HB1 := Lib.hid hb1; clear hb1) | fail)
    go_ret
    exact ⟨rfl, HB1.out⟩
  have t2 : (b == -9223372036854775808) = false := by simpa using b0
  by_cases hk : k < 6 ∨ 10 < k
  · have k6 : (k == 6) = false := by simp; omega
    have k7 : (k == 7) = false := by simp; omega
    have k8 : (k == 8) = false := by simp; omega
    have k9 : (k == 9) = false := by simp; omega
    have k10 : (k == 10) = false := by simp; omega
    clear hfa hfb hk
    go_enter Try.func5, Try.ntmps5
    go_wp2_with (first | (go_at_call 8; (with_reducible refine HK.out.mono ?_); rintro e w1 ⟨rfl, hb1⟩; have HB1 := Lib.hid hb1; clear hb1) | fail)
    go_ret
    exact ⟨rfl, HB1.out⟩
  have hkk : 6 ≤ k ∧ k ≤ 10 := by omega
  clear hk
  have hF := do_runF k a b hkk
  have hO := do_runO k a b hkk
  have hN := fun w => reckon_any k a b ⟨by omega, hkk.2⟩ hfa hfb w
  obtain ⟨⟨V, Z⟩, hVZ⟩ : ∃ p, numK k a b = p := ⟨_, rfl⟩
  rw [hVZ] at hO
  have HNA := Lib.hid (fun w => number_any a hfa a0 w)
  have HNB := Lib.hid (fun w => number_any b hfb b0 w)
  have HF := Lib.hid (And.intro hF (And.intro hO (And.intro hfa hfb)))
  have HVZ := Lib.hid hVZ
  clear hF hO hfa hfb hN a0 b0 hVZ
  have hc : k = 6 ∨ k = 7 ∨ k = 8 ∨ k = 9 ∨ k = 10 := by omega
  have HOKK := Lib.hid (show i64ok k from small_ok (by omega) (by omega))
  rcases hc with rfl | rfl | rfl | rfl | rfl
  · have HNUM : Hid (∀ w, Calls Try.prog 17 #[.int .i64 a, .int .i64 b] w fun e w' => e = .returned (.tuple #[.int .i64 V, .int .i64 Z]) ∧ w' = w) := Lib.hid (fun w => by
      have h := nadd a b HF.out.2.2.1 HF.out.2.2.2 w
      rw [tell_num, show numT (a + b) = (V, Z) from HVZ.out] at h
      exact h)
    clear HVZ hkk
    go_enter Try.func5, Try.ntmps5
    go_wp2_with (first | (go_at_call 8; (with_reducible refine HK.out.mono ?_); rintro e w2 ⟨rfl, hb2⟩; have HB2 := Lib.hid hb2; clear hb2) | (go_at_call 17; (with_reducible refine (HNUM.out _).mono ?_); rintro e w9 ⟨rfl, rfl⟩) | fail)
    obtain ⟨wk, hwk⟩ : ∃ x, x = w9 := ⟨_, rfl⟩
    subst hwk
    obtain ⟨D, hD⟩ : ∃ d, wk.heap.size = d := ⟨_, rfl⟩
    obtain ⟨W3, hW3⟩ : ∃ W, wk.alloc (.cells #[.string ⟨#[120]⟩, .int .i64 0] 41) = W := ⟨_, rfl⟩
    have hd3 : Blk W3 D [[.string ⟨#[120]⟩, .int .i64 0]].flatten.toArray 41 := by rw [← hW3, ← hD]; exact Blk.new wk _ _
    have hb3 : Below w.heap.size w W3 := by rw [← hW3]; exact HB2.out.alloc HB2.out.size _
    have HD3 := Lib.hid (And.intro hd3 hb3)
    rw [hW3, hD]
    clear hd3 hb3 hW3 hD HNUM HK HB2
    refine (HNA.out _).mono ?_
    rintro e w4 ⟨k1, n1, s1, a1, l1, c1, rfl, hn1, hb4⟩
    have H4 := Lib.hid (And.intro hn1 hb4)
    clear hn1 hb4
    go_wp2_with fail
    refine (HNB.out _).mono ?_
    rintro e w5 ⟨k2, n2, s2, a2, l2, c2, rfl, hn2, hb5⟩
    have H5 := Lib.hid (H4.out.2.trans (hb5.mono H4.out.2.size))
    have HT := Lib.hid (twoE_any _ HOKK.out (numE a) (numE b) (ty_num a) (ty_num b) _ _ _ _ _ _ _ _ _ _ _ _ w5 (H4.out.1.keep (keeps_below hb5)) hn2)
    clear hn2 hb5
    go_wp2_with fail
    refine HT.out.mono ?_
    rintro e w6 ⟨k3, n3, s3, a3, l3, c3, rfl, hn3, hb6⟩
    have H6 := Lib.hid (H5.out.trans (hb6.mono H5.out.size))
    have HG := Lib.hid (giveS_any ⟨#[120]⟩ (by decide) _ rfl _ _ _ _ _ _ w6 hn3)
    clear hn3 hb6
    go_wp2_with fail
    refine HG.out.mono ?_
    rintro e w7 ⟨k4, s4, a4, l4, c4, v3, v4, v5, rfl, rfl, rfl, rfl, hn4, hb7⟩
    have H7 := Lib.hid (And.intro hn4 (H6.out.trans (hb7.mono H6.out.size)))
    clear hn4 hb7
    go_wp2_with fail
    obtain ⟨S, hS⟩ : ∃ s, w7.heap.size = s := ⟨_, rfl⟩
    obtain ⟨W8, hW8⟩ : ∃ W, (w7.alloc (.cells #[.int .i64 k4, .string s4, .slice a4 l4 c4, .slice none 0 0, .slice none 0 0, .slice none 0 0] 52)).alloc (.cells #[.slice (some ⟨D, 0, none⟩) 1 1, .slice (some ⟨w7.heap.size, 0, none⟩) 1 1] 25) = W := ⟨_, rfl⟩
    have hb8 : Below w7.heap.size w7 W8 := by rw [← hW8]; exact ((Below.refl _ w7).alloc (Nat.le_refl _) _).alloc (by simp) _
    have hs8 : Blk W8 S [[.int .i64 k4, .string s4, .slice a4 l4 c4, .slice none 0 0, .slice none 0 0, .slice none 0 0]].flatten.toArray 52 := by rw [← hW8, ← hS]; exact (Blk.new w7 _ _).alloc _
    have hb38 := H7.out.2.trans (hb8.mono H7.out.2.size)
    have hd8 := HD3.out.1.next hb38
    have hbw := HD3.out.2.trans (hb38.mono HD3.out.2.size)
    have HR := Lib.hid (Run_any [oneD] (doS _ a b) [] 10 _ _ _ W8 (slIn_blk (vss := [_]) hd8 rfl one_le (nodes1 rfl (declD_in (by decide) ok0))) (slIn_blk (vss := [_]) hs8 rfl one_le (nodes1 rfl (H7.out.1.keep (keeps_below hb8)))) ⟨none, 0, rfl, Nat.le_refl _, Nat.zero_le _, .inl rfl⟩ (fun x hx => by cases hx))
    have HBW := Lib.hid hbw
    rw [hW8, hS]
    clear hS hW8 hb8 hs8 hb38 hd8 hbw
    refine HR.out.mono ?_
    rintro e wA ⟨u, rfl, hbA, hout, -⟩
    have hO := hout HF.out.1
    rw [HF.out.1]
    rw [HF.out.2.1] at hO
    have HBA := Lib.hid (HBW.out.trans (hbA.mono HBW.out.size))
    clear hout hbA
    by_cases hz : Z = 0
    · subst hz
      simp only [if_true] at hO
      obtain ⟨ve, vv, va, rfl, hev, ⟨bb, cc, rfl, -, -, -, hiv⟩, hrv, -⟩ := hO
      obtain ⟨a5, c5, rfl⟩ := hev.form
      obtain ⟨a7, c7, rfl⟩ := hrv.form
      have i0 : wA.cell? ⟨bb, 0, none⟩ = some (.int .i64 V) := hiv 0 (by simp)
      have hlt := World.block_lt_of_cell? wA _ i0
      clear hev hiv hrv
      simp only [List.length_cons, List.length_nil]
      go_wp2_with fail
      go_ret
      exact ⟨rfl, HBA.out.alloc HBA.out.size _⟩
    · rw [if_neg hz] at hO
      have hzb : (Z != 0) = true := by simpa using hz
      obtain ⟨ve, vv, va, rfl, hev, ⟨bb, cc, rfl, -, -, -, hiv⟩, hrv, -⟩ := hO
      obtain ⟨a5, c5, rfl⟩ := hev.form
      obtain ⟨a7, c7, rfl⟩ := hrv.form
      have i0 : wA.cell? ⟨bb, 0, none⟩ = some (.int .i64 0) := hiv 0 (by simp)
      have hlt := World.block_lt_of_cell? wA _ i0
      clear hev hiv hrv
      simp only [List.length_cons, List.length_nil]
      go_wp2_with fail
      go_ret
      exact ⟨rfl, HBA.out.alloc HBA.out.size _⟩
  · have HNUM : Hid (∀ w, Calls Try.prog 18 #[.int .i64 a, .int .i64 b] w fun e w' => e = .returned (.tuple #[.int .i64 V, .int .i64 Z]) ∧ w' = w) := Lib.hid (fun w => by
      have h := nsub a b HF.out.2.2.1 HF.out.2.2.2 w
      rw [tell_num, show numT (a - b) = (V, Z) from HVZ.out] at h
      exact h)
    clear HVZ hkk
    go_enter Try.func5, Try.ntmps5
    go_wp2_with (first | (go_at_call 8; (with_reducible refine HK.out.mono ?_); rintro e w2 ⟨rfl, hb2⟩; have HB2 := Lib.hid hb2; clear hb2) | (go_at_call 18; (with_reducible refine (HNUM.out _).mono ?_); rintro e w9 ⟨rfl, rfl⟩) | fail)
    obtain ⟨wk, hwk⟩ : ∃ x, x = w9 := ⟨_, rfl⟩
    subst hwk
    obtain ⟨D, hD⟩ : ∃ d, wk.heap.size = d := ⟨_, rfl⟩
    obtain ⟨W3, hW3⟩ : ∃ W, wk.alloc (.cells #[.string ⟨#[120]⟩, .int .i64 0] 41) = W := ⟨_, rfl⟩
    have hd3 : Blk W3 D [[.string ⟨#[120]⟩, .int .i64 0]].flatten.toArray 41 := by rw [← hW3, ← hD]; exact Blk.new wk _ _
    have hb3 : Below w.heap.size w W3 := by rw [← hW3]; exact HB2.out.alloc HB2.out.size _
    have HD3 := Lib.hid (And.intro hd3 hb3)
    rw [hW3, hD]
    clear hd3 hb3 hW3 hD HNUM HK HB2
    refine (HNA.out _).mono ?_
    rintro e w4 ⟨k1, n1, s1, a1, l1, c1, rfl, hn1, hb4⟩
    have H4 := Lib.hid (And.intro hn1 hb4)
    clear hn1 hb4
    go_wp2_with fail
    refine (HNB.out _).mono ?_
    rintro e w5 ⟨k2, n2, s2, a2, l2, c2, rfl, hn2, hb5⟩
    have H5 := Lib.hid (H4.out.2.trans (hb5.mono H4.out.2.size))
    have HT := Lib.hid (twoE_any _ HOKK.out (numE a) (numE b) (ty_num a) (ty_num b) _ _ _ _ _ _ _ _ _ _ _ _ w5 (H4.out.1.keep (keeps_below hb5)) hn2)
    clear hn2 hb5
    go_wp2_with fail
    refine HT.out.mono ?_
    rintro e w6 ⟨k3, n3, s3, a3, l3, c3, rfl, hn3, hb6⟩
    have H6 := Lib.hid (H5.out.trans (hb6.mono H5.out.size))
    have HG := Lib.hid (giveS_any ⟨#[120]⟩ (by decide) _ rfl _ _ _ _ _ _ w6 hn3)
    clear hn3 hb6
    go_wp2_with fail
    refine HG.out.mono ?_
    rintro e w7 ⟨k4, s4, a4, l4, c4, v3, v4, v5, rfl, rfl, rfl, rfl, hn4, hb7⟩
    have H7 := Lib.hid (And.intro hn4 (H6.out.trans (hb7.mono H6.out.size)))
    clear hn4 hb7
    go_wp2_with fail
    obtain ⟨S, hS⟩ : ∃ s, w7.heap.size = s := ⟨_, rfl⟩
    obtain ⟨W8, hW8⟩ : ∃ W, (w7.alloc (.cells #[.int .i64 k4, .string s4, .slice a4 l4 c4, .slice none 0 0, .slice none 0 0, .slice none 0 0] 52)).alloc (.cells #[.slice (some ⟨D, 0, none⟩) 1 1, .slice (some ⟨w7.heap.size, 0, none⟩) 1 1] 25) = W := ⟨_, rfl⟩
    have hb8 : Below w7.heap.size w7 W8 := by rw [← hW8]; exact ((Below.refl _ w7).alloc (Nat.le_refl _) _).alloc (by simp) _
    have hs8 : Blk W8 S [[.int .i64 k4, .string s4, .slice a4 l4 c4, .slice none 0 0, .slice none 0 0, .slice none 0 0]].flatten.toArray 52 := by rw [← hW8, ← hS]; exact (Blk.new w7 _ _).alloc _
    have hb38 := H7.out.2.trans (hb8.mono H7.out.2.size)
    have hd8 := HD3.out.1.next hb38
    have hbw := HD3.out.2.trans (hb38.mono HD3.out.2.size)
    have HR := Lib.hid (Run_any [oneD] (doS _ a b) [] 10 _ _ _ W8 (slIn_blk (vss := [_]) hd8 rfl one_le (nodes1 rfl (declD_in (by decide) ok0))) (slIn_blk (vss := [_]) hs8 rfl one_le (nodes1 rfl (H7.out.1.keep (keeps_below hb8)))) ⟨none, 0, rfl, Nat.le_refl _, Nat.zero_le _, .inl rfl⟩ (fun x hx => by cases hx))
    have HBW := Lib.hid hbw
    rw [hW8, hS]
    clear hS hW8 hb8 hs8 hb38 hd8 hbw
    refine HR.out.mono ?_
    rintro e wA ⟨u, rfl, hbA, hout, -⟩
    have hO := hout HF.out.1
    rw [HF.out.1]
    rw [HF.out.2.1] at hO
    have HBA := Lib.hid (HBW.out.trans (hbA.mono HBW.out.size))
    clear hout hbA
    by_cases hz : Z = 0
    · subst hz
      simp only [if_true] at hO
      obtain ⟨ve, vv, va, rfl, hev, ⟨bb, cc, rfl, -, -, -, hiv⟩, hrv, -⟩ := hO
      obtain ⟨a5, c5, rfl⟩ := hev.form
      obtain ⟨a7, c7, rfl⟩ := hrv.form
      have i0 : wA.cell? ⟨bb, 0, none⟩ = some (.int .i64 V) := hiv 0 (by simp)
      have hlt := World.block_lt_of_cell? wA _ i0
      clear hev hiv hrv
      simp only [List.length_cons, List.length_nil]
      go_wp2_with fail
      go_ret
      exact ⟨rfl, HBA.out.alloc HBA.out.size _⟩
    · rw [if_neg hz] at hO
      have hzb : (Z != 0) = true := by simpa using hz
      obtain ⟨ve, vv, va, rfl, hev, ⟨bb, cc, rfl, -, -, -, hiv⟩, hrv, -⟩ := hO
      obtain ⟨a5, c5, rfl⟩ := hev.form
      obtain ⟨a7, c7, rfl⟩ := hrv.form
      have i0 : wA.cell? ⟨bb, 0, none⟩ = some (.int .i64 0) := hiv 0 (by simp)
      have hlt := World.block_lt_of_cell? wA _ i0
      clear hev hiv hrv
      simp only [List.length_cons, List.length_nil]
      go_wp2_with fail
      go_ret
      exact ⟨rfl, HBA.out.alloc HBA.out.size _⟩
  · have HNUM : Hid (∀ w, Calls Try.prog 19 #[.int .i64 a, .int .i64 b] w fun e w' => e = .returned (.tuple #[.int .i64 V, .int .i64 Z]) ∧ w' = w) := Lib.hid (fun w => by
      have h := nmul a b HF.out.2.2.1 HF.out.2.2.2 w
      rw [tell_num, show numT (a * b) = (V, Z) from HVZ.out] at h
      exact h)
    clear HVZ hkk
    go_enter Try.func5, Try.ntmps5
    go_wp2_with (first | (go_at_call 8; (with_reducible refine HK.out.mono ?_); rintro e w2 ⟨rfl, hb2⟩; have HB2 := Lib.hid hb2; clear hb2) | (go_at_call 19; (with_reducible refine (HNUM.out _).mono ?_); rintro e w9 ⟨rfl, rfl⟩) | fail)
    obtain ⟨wk, hwk⟩ : ∃ x, x = w9 := ⟨_, rfl⟩
    subst hwk
    obtain ⟨D, hD⟩ : ∃ d, wk.heap.size = d := ⟨_, rfl⟩
    obtain ⟨W3, hW3⟩ : ∃ W, wk.alloc (.cells #[.string ⟨#[120]⟩, .int .i64 0] 41) = W := ⟨_, rfl⟩
    have hd3 : Blk W3 D [[.string ⟨#[120]⟩, .int .i64 0]].flatten.toArray 41 := by rw [← hW3, ← hD]; exact Blk.new wk _ _
    have hb3 : Below w.heap.size w W3 := by rw [← hW3]; exact HB2.out.alloc HB2.out.size _
    have HD3 := Lib.hid (And.intro hd3 hb3)
    rw [hW3, hD]
    clear hd3 hb3 hW3 hD HNUM HK HB2
    refine (HNA.out _).mono ?_
    rintro e w4 ⟨k1, n1, s1, a1, l1, c1, rfl, hn1, hb4⟩
    have H4 := Lib.hid (And.intro hn1 hb4)
    clear hn1 hb4
    go_wp2_with fail
    refine (HNB.out _).mono ?_
    rintro e w5 ⟨k2, n2, s2, a2, l2, c2, rfl, hn2, hb5⟩
    have H5 := Lib.hid (H4.out.2.trans (hb5.mono H4.out.2.size))
    have HT := Lib.hid (twoE_any _ HOKK.out (numE a) (numE b) (ty_num a) (ty_num b) _ _ _ _ _ _ _ _ _ _ _ _ w5 (H4.out.1.keep (keeps_below hb5)) hn2)
    clear hn2 hb5
    go_wp2_with fail
    refine HT.out.mono ?_
    rintro e w6 ⟨k3, n3, s3, a3, l3, c3, rfl, hn3, hb6⟩
    have H6 := Lib.hid (H5.out.trans (hb6.mono H5.out.size))
    have HG := Lib.hid (giveS_any ⟨#[120]⟩ (by decide) _ rfl _ _ _ _ _ _ w6 hn3)
    clear hn3 hb6
    go_wp2_with fail
    refine HG.out.mono ?_
    rintro e w7 ⟨k4, s4, a4, l4, c4, v3, v4, v5, rfl, rfl, rfl, rfl, hn4, hb7⟩
    have H7 := Lib.hid (And.intro hn4 (H6.out.trans (hb7.mono H6.out.size)))
    clear hn4 hb7
    go_wp2_with fail
    obtain ⟨S, hS⟩ : ∃ s, w7.heap.size = s := ⟨_, rfl⟩
    obtain ⟨W8, hW8⟩ : ∃ W, (w7.alloc (.cells #[.int .i64 k4, .string s4, .slice a4 l4 c4, .slice none 0 0, .slice none 0 0, .slice none 0 0] 52)).alloc (.cells #[.slice (some ⟨D, 0, none⟩) 1 1, .slice (some ⟨w7.heap.size, 0, none⟩) 1 1] 25) = W := ⟨_, rfl⟩
    have hb8 : Below w7.heap.size w7 W8 := by rw [← hW8]; exact ((Below.refl _ w7).alloc (Nat.le_refl _) _).alloc (by simp) _
    have hs8 : Blk W8 S [[.int .i64 k4, .string s4, .slice a4 l4 c4, .slice none 0 0, .slice none 0 0, .slice none 0 0]].flatten.toArray 52 := by rw [← hW8, ← hS]; exact (Blk.new w7 _ _).alloc _
    have hb38 := H7.out.2.trans (hb8.mono H7.out.2.size)
    have hd8 := HD3.out.1.next hb38
    have hbw := HD3.out.2.trans (hb38.mono HD3.out.2.size)
    have HR := Lib.hid (Run_any [oneD] (doS _ a b) [] 10 _ _ _ W8 (slIn_blk (vss := [_]) hd8 rfl one_le (nodes1 rfl (declD_in (by decide) ok0))) (slIn_blk (vss := [_]) hs8 rfl one_le (nodes1 rfl (H7.out.1.keep (keeps_below hb8)))) ⟨none, 0, rfl, Nat.le_refl _, Nat.zero_le _, .inl rfl⟩ (fun x hx => by cases hx))
    have HBW := Lib.hid hbw
    rw [hW8, hS]
    clear hS hW8 hb8 hs8 hb38 hd8 hbw
    refine HR.out.mono ?_
    rintro e wA ⟨u, rfl, hbA, hout, -⟩
    have hO := hout HF.out.1
    rw [HF.out.1]
    rw [HF.out.2.1] at hO
    have HBA := Lib.hid (HBW.out.trans (hbA.mono HBW.out.size))
    clear hout hbA
    by_cases hz : Z = 0
    · subst hz
      simp only [if_true] at hO
      obtain ⟨ve, vv, va, rfl, hev, ⟨bb, cc, rfl, -, -, -, hiv⟩, hrv, -⟩ := hO
      obtain ⟨a5, c5, rfl⟩ := hev.form
      obtain ⟨a7, c7, rfl⟩ := hrv.form
      have i0 : wA.cell? ⟨bb, 0, none⟩ = some (.int .i64 V) := hiv 0 (by simp)
      have hlt := World.block_lt_of_cell? wA _ i0
      clear hev hiv hrv
      simp only [List.length_cons, List.length_nil]
      go_wp2_with fail
      go_ret
      exact ⟨rfl, HBA.out.alloc HBA.out.size _⟩
    · rw [if_neg hz] at hO
      have hzb : (Z != 0) = true := by simpa using hz
      obtain ⟨ve, vv, va, rfl, hev, ⟨bb, cc, rfl, -, -, -, hiv⟩, hrv, -⟩ := hO
      obtain ⟨a5, c5, rfl⟩ := hev.form
      obtain ⟨a7, c7, rfl⟩ := hrv.form
      have i0 : wA.cell? ⟨bb, 0, none⟩ = some (.int .i64 0) := hiv 0 (by simp)
      have hlt := World.block_lt_of_cell? wA _ i0
      clear hev hiv hrv
      simp only [List.length_cons, List.length_nil]
      go_wp2_with fail
      go_ret
      exact ⟨rfl, HBA.out.alloc HBA.out.size _⟩
  · have HNUM : Hid (∀ w, Calls Try.prog 20 #[.int .i64 a, .int .i64 b] w fun e w' => e = .returned (.tuple #[.int .i64 V, .int .i64 Z]) ∧ w' = w) := Lib.hid (fun w => by
      have h := ndiv a b HF.out.2.2.1 HF.out.2.2.2 w
      rw [div_num, show (numK 9 a b) = (V, Z) from HVZ.out] at h
      exact h)
    clear HVZ hkk
    go_enter Try.func5, Try.ntmps5
    go_wp2_with (first | (go_at_call 8; (with_reducible refine HK.out.mono ?_); rintro e w2 ⟨rfl, hb2⟩; have HB2 := Lib.hid hb2; clear hb2) | (go_at_call 20; (with_reducible refine (HNUM.out _).mono ?_); rintro e w9 ⟨rfl, rfl⟩) | fail)
    obtain ⟨wk, hwk⟩ : ∃ x, x = w9 := ⟨_, rfl⟩
    subst hwk
    obtain ⟨D, hD⟩ : ∃ d, wk.heap.size = d := ⟨_, rfl⟩
    obtain ⟨W3, hW3⟩ : ∃ W, wk.alloc (.cells #[.string ⟨#[120]⟩, .int .i64 0] 41) = W := ⟨_, rfl⟩
    have hd3 : Blk W3 D [[.string ⟨#[120]⟩, .int .i64 0]].flatten.toArray 41 := by rw [← hW3, ← hD]; exact Blk.new wk _ _
    have hb3 : Below w.heap.size w W3 := by rw [← hW3]; exact HB2.out.alloc HB2.out.size _
    have HD3 := Lib.hid (And.intro hd3 hb3)
    rw [hW3, hD]
    clear hd3 hb3 hW3 hD HNUM HK HB2
    refine (HNA.out _).mono ?_
    rintro e w4 ⟨k1, n1, s1, a1, l1, c1, rfl, hn1, hb4⟩
    have H4 := Lib.hid (And.intro hn1 hb4)
    clear hn1 hb4
    go_wp2_with fail
    refine (HNB.out _).mono ?_
    rintro e w5 ⟨k2, n2, s2, a2, l2, c2, rfl, hn2, hb5⟩
    have H5 := Lib.hid (H4.out.2.trans (hb5.mono H4.out.2.size))
    have HT := Lib.hid (twoE_any _ HOKK.out (numE a) (numE b) (ty_num a) (ty_num b) _ _ _ _ _ _ _ _ _ _ _ _ w5 (H4.out.1.keep (keeps_below hb5)) hn2)
    clear hn2 hb5
    go_wp2_with fail
    refine HT.out.mono ?_
    rintro e w6 ⟨k3, n3, s3, a3, l3, c3, rfl, hn3, hb6⟩
    have H6 := Lib.hid (H5.out.trans (hb6.mono H5.out.size))
    have HG := Lib.hid (giveS_any ⟨#[120]⟩ (by decide) _ rfl _ _ _ _ _ _ w6 hn3)
    clear hn3 hb6
    go_wp2_with fail
    refine HG.out.mono ?_
    rintro e w7 ⟨k4, s4, a4, l4, c4, v3, v4, v5, rfl, rfl, rfl, rfl, hn4, hb7⟩
    have H7 := Lib.hid (And.intro hn4 (H6.out.trans (hb7.mono H6.out.size)))
    clear hn4 hb7
    go_wp2_with fail
    obtain ⟨S, hS⟩ : ∃ s, w7.heap.size = s := ⟨_, rfl⟩
    obtain ⟨W8, hW8⟩ : ∃ W, (w7.alloc (.cells #[.int .i64 k4, .string s4, .slice a4 l4 c4, .slice none 0 0, .slice none 0 0, .slice none 0 0] 52)).alloc (.cells #[.slice (some ⟨D, 0, none⟩) 1 1, .slice (some ⟨w7.heap.size, 0, none⟩) 1 1] 25) = W := ⟨_, rfl⟩
    have hb8 : Below w7.heap.size w7 W8 := by rw [← hW8]; exact ((Below.refl _ w7).alloc (Nat.le_refl _) _).alloc (by simp) _
    have hs8 : Blk W8 S [[.int .i64 k4, .string s4, .slice a4 l4 c4, .slice none 0 0, .slice none 0 0, .slice none 0 0]].flatten.toArray 52 := by rw [← hW8, ← hS]; exact (Blk.new w7 _ _).alloc _
    have hb38 := H7.out.2.trans (hb8.mono H7.out.2.size)
    have hd8 := HD3.out.1.next hb38
    have hbw := HD3.out.2.trans (hb38.mono HD3.out.2.size)
    have HR := Lib.hid (Run_any [oneD] (doS _ a b) [] 10 _ _ _ W8 (slIn_blk (vss := [_]) hd8 rfl one_le (nodes1 rfl (declD_in (by decide) ok0))) (slIn_blk (vss := [_]) hs8 rfl one_le (nodes1 rfl (H7.out.1.keep (keeps_below hb8)))) ⟨none, 0, rfl, Nat.le_refl _, Nat.zero_le _, .inl rfl⟩ (fun x hx => by cases hx))
    have HBW := Lib.hid hbw
    rw [hW8, hS]
    clear hS hW8 hb8 hs8 hb38 hd8 hbw
    refine HR.out.mono ?_
    rintro e wA ⟨u, rfl, hbA, hout, -⟩
    have hO := hout HF.out.1
    rw [HF.out.1]
    rw [HF.out.2.1] at hO
    have HBA := Lib.hid (HBW.out.trans (hbA.mono HBW.out.size))
    clear hout hbA
    by_cases hz : Z = 0
    · subst hz
      simp only [if_true] at hO
      obtain ⟨ve, vv, va, rfl, hev, ⟨bb, cc, rfl, -, -, -, hiv⟩, hrv, -⟩ := hO
      obtain ⟨a5, c5, rfl⟩ := hev.form
      obtain ⟨a7, c7, rfl⟩ := hrv.form
      have i0 : wA.cell? ⟨bb, 0, none⟩ = some (.int .i64 V) := hiv 0 (by simp)
      have hlt := World.block_lt_of_cell? wA _ i0
      clear hev hiv hrv
      simp only [List.length_cons, List.length_nil]
      go_wp2_with fail
      go_ret
      exact ⟨rfl, HBA.out.alloc HBA.out.size _⟩
    · rw [if_neg hz] at hO
      have hzb : (Z != 0) = true := by simpa using hz
      obtain ⟨ve, vv, va, rfl, hev, ⟨bb, cc, rfl, -, -, -, hiv⟩, hrv, -⟩ := hO
      obtain ⟨a5, c5, rfl⟩ := hev.form
      obtain ⟨a7, c7, rfl⟩ := hrv.form
      have i0 : wA.cell? ⟨bb, 0, none⟩ = some (.int .i64 0) := hiv 0 (by simp)
      have hlt := World.block_lt_of_cell? wA _ i0
      clear hev hiv hrv
      simp only [List.length_cons, List.length_nil]
      go_wp2_with fail
      go_ret
      exact ⟨rfl, HBA.out.alloc HBA.out.size _⟩
  · have HNUM : Hid (∀ w, Calls Try.prog 21 #[.int .i64 a, .int .i64 b] w fun e w' => e = .returned (.tuple #[.int .i64 V, .int .i64 Z]) ∧ w' = w) := Lib.hid (fun w => by
      have h := nrem a b HF.out.2.2.1 HF.out.2.2.2 w
      rw [rem_num, show (numK 10 a b) = (V, Z) from HVZ.out] at h
      exact h)
    clear HVZ hkk
    go_enter Try.func5, Try.ntmps5
    go_wp2_with (first | (go_at_call 8; (with_reducible refine HK.out.mono ?_); rintro e w2 ⟨rfl, hb2⟩; have HB2 := Lib.hid hb2; clear hb2) | (go_at_call 21; (with_reducible refine (HNUM.out _).mono ?_); rintro e w9 ⟨rfl, rfl⟩) | fail)
    obtain ⟨wk, hwk⟩ : ∃ x, x = w9 := ⟨_, rfl⟩
    subst hwk
    obtain ⟨D, hD⟩ : ∃ d, wk.heap.size = d := ⟨_, rfl⟩
    obtain ⟨W3, hW3⟩ : ∃ W, wk.alloc (.cells #[.string ⟨#[120]⟩, .int .i64 0] 41) = W := ⟨_, rfl⟩
    have hd3 : Blk W3 D [[.string ⟨#[120]⟩, .int .i64 0]].flatten.toArray 41 := by rw [← hW3, ← hD]; exact Blk.new wk _ _
    have hb3 : Below w.heap.size w W3 := by rw [← hW3]; exact HB2.out.alloc HB2.out.size _
    have HD3 := Lib.hid (And.intro hd3 hb3)
    rw [hW3, hD]
    clear hd3 hb3 hW3 hD HNUM HK HB2
    refine (HNA.out _).mono ?_
    rintro e w4 ⟨k1, n1, s1, a1, l1, c1, rfl, hn1, hb4⟩
    have H4 := Lib.hid (And.intro hn1 hb4)
    clear hn1 hb4
    go_wp2_with fail
    refine (HNB.out _).mono ?_
    rintro e w5 ⟨k2, n2, s2, a2, l2, c2, rfl, hn2, hb5⟩
    have H5 := Lib.hid (H4.out.2.trans (hb5.mono H4.out.2.size))
    have HT := Lib.hid (twoE_any _ HOKK.out (numE a) (numE b) (ty_num a) (ty_num b) _ _ _ _ _ _ _ _ _ _ _ _ w5 (H4.out.1.keep (keeps_below hb5)) hn2)
    clear hn2 hb5
    go_wp2_with fail
    refine HT.out.mono ?_
    rintro e w6 ⟨k3, n3, s3, a3, l3, c3, rfl, hn3, hb6⟩
    have H6 := Lib.hid (H5.out.trans (hb6.mono H5.out.size))
    have HG := Lib.hid (giveS_any ⟨#[120]⟩ (by decide) _ rfl _ _ _ _ _ _ w6 hn3)
    clear hn3 hb6
    go_wp2_with fail
    refine HG.out.mono ?_
    rintro e w7 ⟨k4, s4, a4, l4, c4, v3, v4, v5, rfl, rfl, rfl, rfl, hn4, hb7⟩
    have H7 := Lib.hid (And.intro hn4 (H6.out.trans (hb7.mono H6.out.size)))
    clear hn4 hb7
    go_wp2_with fail
    obtain ⟨S, hS⟩ : ∃ s, w7.heap.size = s := ⟨_, rfl⟩
    obtain ⟨W8, hW8⟩ : ∃ W, (w7.alloc (.cells #[.int .i64 k4, .string s4, .slice a4 l4 c4, .slice none 0 0, .slice none 0 0, .slice none 0 0] 52)).alloc (.cells #[.slice (some ⟨D, 0, none⟩) 1 1, .slice (some ⟨w7.heap.size, 0, none⟩) 1 1] 25) = W := ⟨_, rfl⟩
    have hb8 : Below w7.heap.size w7 W8 := by rw [← hW8]; exact ((Below.refl _ w7).alloc (Nat.le_refl _) _).alloc (by simp) _
    have hs8 : Blk W8 S [[.int .i64 k4, .string s4, .slice a4 l4 c4, .slice none 0 0, .slice none 0 0, .slice none 0 0]].flatten.toArray 52 := by rw [← hW8, ← hS]; exact (Blk.new w7 _ _).alloc _
    have hb38 := H7.out.2.trans (hb8.mono H7.out.2.size)
    have hd8 := HD3.out.1.next hb38
    have hbw := HD3.out.2.trans (hb38.mono HD3.out.2.size)
    have HR := Lib.hid (Run_any [oneD] (doS _ a b) [] 10 _ _ _ W8 (slIn_blk (vss := [_]) hd8 rfl one_le (nodes1 rfl (declD_in (by decide) ok0))) (slIn_blk (vss := [_]) hs8 rfl one_le (nodes1 rfl (H7.out.1.keep (keeps_below hb8)))) ⟨none, 0, rfl, Nat.le_refl _, Nat.zero_le _, .inl rfl⟩ (fun x hx => by cases hx))
    have HBW := Lib.hid hbw
    rw [hW8, hS]
    clear hS hW8 hb8 hs8 hb38 hd8 hbw
    refine HR.out.mono ?_
    rintro e wA ⟨u, rfl, hbA, hout, -⟩
    have hO := hout HF.out.1
    rw [HF.out.1]
    rw [HF.out.2.1] at hO
    have HBA := Lib.hid (HBW.out.trans (hbA.mono HBW.out.size))
    clear hout hbA
    by_cases hz : Z = 0
    · subst hz
      simp only [if_true] at hO
      obtain ⟨ve, vv, va, rfl, hev, ⟨bb, cc, rfl, -, -, -, hiv⟩, hrv, -⟩ := hO
      obtain ⟨a5, c5, rfl⟩ := hev.form
      obtain ⟨a7, c7, rfl⟩ := hrv.form
      have i0 : wA.cell? ⟨bb, 0, none⟩ = some (.int .i64 V) := hiv 0 (by simp)
      have hlt := World.block_lt_of_cell? wA _ i0
      clear hev hiv hrv
      simp only [List.length_cons, List.length_nil]
      go_wp2_with fail
      go_ret
      exact ⟨rfl, HBA.out.alloc HBA.out.size _⟩
    · rw [if_neg hz] at hO
      have hzb : (Z != 0) = true := by simpa using hz
      obtain ⟨ve, vv, va, rfl, hev, ⟨bb, cc, rfl, -, -, -, hiv⟩, hrv, -⟩ := hO
      obtain ⟨a5, c5, rfl⟩ := hev.form
      obtain ⟨a7, c7, rfl⟩ := hrv.form
      have i0 : wA.cell? ⟨bb, 0, none⟩ = some (.int .i64 0) := hiv 0 (by simp)
      have hlt := World.block_lt_of_cell? wA _ i0
      clear hev hiv hrv
      simp only [List.length_cons, List.length_nil]
      go_wp2_with fail
      go_ret
      exact ⟨rfl, HBA.out.alloc HBA.out.size _⟩
end Go.Proofs.Ytbodbbdofoeclaa
