/-
  The statement's own walk: gnomonlaw8.RunStores answers true for every index, value and size.
-/
import Derived.Test.YtbodbbdofoeclaaQStoresP
import Derived.Test.YtbodbbdofoeclaaQDoesW

namespace Go.Proofs.Ytbodbbdofoeclaa
open Go Go.RowKit Go.Maps

theorem storeS_in {w : World} {s : ByteArray} (hs : s.size ≤ maxLen) {x y : Nd} {v : Value} (h : SlIn w .E [x, y] v) : NdIn w (storeS s x y) [.int .i64 2, .string s, v, .slice none 0 0, .slice none 0 0, .slice none 0 0] := by
  unfold storeS NdIn
  exact ⟨rfl, small_ok (by decide) (by decide), ok0, hs, v, .slice none 0 0, .slice none 0 0, .slice none 0 0, rfl, h, sl0 w .C, sl0 w .S, sl0 w .S⟩
theorem soArr_len {z i v : Int} : (soArr z i v).length = z.toNat := by unfold soArr; rw [List.length_set, List.length_replicate]
theorem soArr_at {z i v : Int} (h : ¬ (i < 0 ∨ z ≤ i)) : (soArr z i v).getD i.toNat 0 = v ∧ i.toNat < (soArr z i v).length := by
  have hl : i.toNat < (soArr z i v).length := by rw [soArr_len]; omega
  have hl2 : i.toNat < (List.replicate z.toNat (0 : Int)).length := by rw [List.length_replicate]; omega
  refine ⟨?_, hl⟩
  show ((List.replicate z.toNat (0 : Int)).set i.toNat v).getD i.toNat 0 = v
  rw [List.getD_eq_getElem?_getD, List.getElem?_set_self hl2]
  rfl
theorem soArr_other {z i j v : Int} (h : ¬ (i < 0 ∨ z ≤ i)) (hj : ¬ (j < 0 ∨ z ≤ j)) (hne : i ≠ j) : (soArr z i v).getD j.toNat 0 = 0 := by
  show ((List.replicate z.toNat (0 : Int)).set i.toNat v).getD j.toNat 0 = 0
  rw [List.getD_eq_getElem?_getD, List.getElem?_set_ne (by omega), List.getElem?_replicate]
  rw [if_pos (by omega)]
  rfl
set_option maxRecDepth 100000 in
set_option maxHeartbeats 8000000 in
theorem stores_any (i j v z : Int) (w : World) (hi : (Lit.int .i64 i).wf = true) (hj : (Lit.int .i64 j).wf = true) (hv : (Lit.int .i64 v).wf = true) (_ : (Lit.int .i64 z).wf = true) :
    Calls Try.prog 6 #[.int .i64 i, .int .i64 j, .int .i64 v, .int .i64 z] w (fun e w' => e = .returned (.bool true) ∧ Below w.heap.size w w') := by
  have HK := Lib.hid (known8_any w)
  have HFI := Lib.hid (And.intro (wf_fits hi) (And.intro (wf_fits hj) (wf_fits hv)))
  clear hi hj hv
  by_cases hbad : i = -9223372036854775808 ∨ j = -9223372036854775808 ∨ v = -9223372036854775808 ∨ z < 1 ∨ 50 < z
  · have hcase : i = -9223372036854775808 ∨ (¬ i = -9223372036854775808 ∧ j = -9223372036854775808) ∨ (¬ i = -9223372036854775808 ∧ ¬ j = -9223372036854775808 ∧ v = -9223372036854775808) ∨ (¬ i = -9223372036854775808 ∧ ¬ j = -9223372036854775808 ∧ ¬ v = -9223372036854775808 ∧ z < 1) ∨ (¬ i = -9223372036854775808 ∧ ¬ j = -9223372036854775808 ∧ ¬ v = -9223372036854775808 ∧ ¬ z < 1 ∧ 50 < z) := by omega
    clear hbad HFI
    rcases hcase with h1 | ⟨h1, h2⟩ | ⟨h1, h2, h3⟩ | ⟨h1, h2, h3, h4⟩ | ⟨h1, h2, h3, h4, h5⟩
    · have t1 : (i == -9223372036854775808) = true := by simpa using h1
      clear h1
      go_enter Try.func6, Try.ntmps6
      go_wp2_with (first | (go_at_call 8; (with_reducible refine HK.out.mono ?_); rintro e w1 ⟨rfl, hb1⟩; have HB1 := Lib.hid hb1; clear hb1) | fail)
      go_ret
      exact ⟨rfl, HB1.out⟩
    · have t1 : (i == -9223372036854775808) = false := by simpa using h1
      have t2 : (j == -9223372036854775808) = true := by simpa using h2
      clear h1 h2
      go_enter Try.func6, Try.ntmps6
      go_wp2_with (first | (go_at_call 8; (with_reducible refine HK.out.mono ?_); rintro e w1 ⟨rfl, hb1⟩; have HB1 := Lib.hid hb1; clear hb1) | fail)
      go_ret
      exact ⟨rfl, HB1.out⟩
    · have t1 : (i == -9223372036854775808) = false := by simpa using h1
      have t2 : (j == -9223372036854775808) = false := by simpa using h2
      have t3 : (v == -9223372036854775808) = true := by simpa using h3
      clear h1 h2 h3
      go_enter Try.func6, Try.ntmps6
      go_wp2_with (first | (go_at_call 8; (with_reducible refine HK.out.mono ?_); rintro e w1 ⟨rfl, hb1⟩; have HB1 := Lib.hid hb1; clear hb1) | fail)
      go_ret
      exact ⟨rfl, HB1.out⟩
    · have t1 : (i == -9223372036854775808) = false := by simpa using h1
      have t2 : (j == -9223372036854775808) = false := by simpa using h2
      have t3 : (v == -9223372036854775808) = false := by simpa using h3
      have t4 : decide (z < 1) = true := by simpa using h4
      clear h1 h2 h3 h4
      go_enter Try.func6, Try.ntmps6
      go_wp2_with (first | (go_at_call 8; (with_reducible refine HK.out.mono ?_); rintro e w1 ⟨rfl, hb1⟩; have HB1 := Lib.hid hb1; clear hb1) | fail)
      go_ret
      exact ⟨rfl, HB1.out⟩
    · have t1 : (i == -9223372036854775808) = false := by simpa using h1
      have t2 : (j == -9223372036854775808) = false := by simpa using h2
      have t3 : (v == -9223372036854775808) = false := by simpa using h3
      have t4 : decide (z < 1) = false := by simpa using h4
      have t5 : decide (50 < z) = true := by simpa using h5
      clear h1 h2 h3 h4 h5
      go_enter Try.func6, Try.ntmps6
      go_wp2_with (first | (go_at_call 8; (with_reducible refine HK.out.mono ?_); rintro e w1 ⟨rfl, hb1⟩; have HB1 := Lib.hid hb1; clear hb1) | fail)
      go_ret
      exact ⟨rfl, HB1.out⟩
  have i0 : ¬ i = -9223372036854775808 := by omega
  have j0 : ¬ j = -9223372036854775808 := by omega
  have v0 : ¬ v = -9223372036854775808 := by omega
  have hz1 : 1 ≤ z := by omega
  have hz2 : z ≤ 50 := by omega
  clear hbad
  have HF := Lib.hid (And.intro (so_runF hz1 hz2 i j v) (so_runO hz1 i j v))
  have HNI := Lib.hid (fun w => number_any i HFI.out.1 i0 w)
  have HNJ := Lib.hid (fun w => number_any j HFI.out.2.1 j0 w)
  have HNV := Lib.hid (fun w => number_any v HFI.out.2.2 v0 w)
  have t1 : (i == -9223372036854775808) = false := by simpa using i0
  have t2 : (j == -9223372036854775808) = false := by simpa using j0
  have t3 : (v == -9223372036854775808) = false := by simpa using v0
  have t4 : decide (z < 1) = false := by simp <;> omega
  have t5 : decide (50 < z) = false := by simp <;> omega
  have HZ := Lib.hid (And.intro hz1 hz2)
  clear i0 j0 v0 hz1 hz2 HFI
  go_enter Try.func6, Try.ntmps6
  go_wp2_with (first | (go_at_call 8; (with_reducible refine HK.out.mono ?_); rintro e w1 ⟨rfl, hb1⟩; have HB1 := Lib.hid hb1; clear hb1) | fail)
  obtain ⟨wk, hwk⟩ : ∃ x, x = w1 := ⟨_, rfl⟩
  subst hwk
  obtain ⟨D, hD⟩ : ∃ d, wk.heap.size = d := ⟨_, rfl⟩
  obtain ⟨W3, hW3⟩ : ∃ W, wk.alloc (.cells #[.string ⟨#[120]⟩, .int .i64 0, .string ⟨#[97]⟩, .int .i64 z] 41) = W := ⟨_, rfl⟩
  have hd3 : Blk W3 D [[.string ⟨#[120]⟩, .int .i64 0], [.string ⟨#[97]⟩, .int .i64 z]].flatten.toArray 41 := by rw [← hW3, ← hD]; exact Blk.new wk _ _
  have hb3 : Below w.heap.size w W3 := by rw [← hW3]; exact HB1.out.alloc HB1.out.size _
  have HD3 := Lib.hid (And.intro hd3 hb3)
  rw [hW3, hD]
  clear hd3 hb3 hW3 hD HK HB1 t1 t2 t3 t4 t5
  refine (HNI.out _).mono ?_
  rintro e w4 ⟨k1, n1, s1, a1, l1, c1, rfl, hn1, hb4⟩
  have H4 := Lib.hid (And.intro hn1 hb4)
  clear hn1 hb4
  go_wp2_with fail
  refine (HNV.out _).mono ?_
  rintro e w5 ⟨k2, n2, s2, a2, l2, c2, rfl, hn2, hb5⟩
  have H5 := Lib.hid (And.intro (H4.out.1.keep (keeps_below hb5)) (And.intro hn2 (H4.out.2.trans (hb5.mono H4.out.2.size))))
  clear hn2 hb5
  go_wp2_with fail
  obtain ⟨EB, hEB⟩ : ∃ d, w5.heap.size = d := ⟨_, rfl⟩
  obtain ⟨W6, hW6⟩ : ∃ W, w5.alloc (.cells #[.int .i64 k1, .int .i64 n1, .string s1, .slice a1 l1 c1, .int .i64 k2, .int .i64 n2, .string s2, .slice a2 l2 c2] 48) = W := ⟨_, rfl⟩
  have he6 : Blk W6 EB [[.int .i64 k1, .int .i64 n1, .string s1, .slice a1 l1 c1], [.int .i64 k2, .int .i64 n2, .string s2, .slice a2 l2 c2]].flatten.toArray 48 := by rw [← hW6, ← hEB]; exact Blk.new w5 _ _
  have hb6 : Below w5.heap.size w5 W6 := by rw [← hW6]; exact (Below.refl _ w5).alloc (Nat.le_refl _) _
  have hl6 : SlIn W6 .E [numE i, numE v] (.slice (some ⟨EB, 0, none⟩) 2 2) := slIn_blk (vss := [_, _]) he6 rfl two_le (nodes2 (ty_num i) (H5.out.1.keep (keeps_below hb6)) (ty_num v) (H5.out.2.1.keep (keeps_below hb6)))
  have H6 := Lib.hid (And.intro hl6 (H5.out.2.2.trans (hb6.mono H5.out.2.2.size)))
  rw [hW6, hEB]
  clear hEB hW6 he6 hb6 hl6
  refine (HNJ.out _).mono ?_
  rintro e w7 ⟨k3, n3, s3, a3, l3, c3, rfl, hn7, hb7⟩
  have H7 := Lib.hid (And.intro hn7 (And.intro (H6.out.1.keep (keeps_below hb7)) (H6.out.2.trans (hb7.mono H6.out.2.size))))
  clear hn7 hb7
  go_wp2_with fail
  obtain ⟨JB, hJB⟩ : ∃ d, w7.heap.size = d := ⟨_, rfl⟩
  obtain ⟨W8, hW8⟩ : ∃ W, w7.alloc (.cells #[.int .i64 k3, .int .i64 n3, .string s3, .slice a3 l3 c3] 48) = W := ⟨_, rfl⟩
  have hj8 : Blk W8 JB [[.int .i64 k3, .int .i64 n3, .string s3, .slice a3 l3 c3]].flatten.toArray 48 := by rw [← hW8, ← hJB]; exact Blk.new w7 _ _
  have hb8 : Below w7.heap.size w7 W8 := by rw [← hW8]; exact (Below.refl _ w7).alloc (Nat.le_refl _) _
  have hl8 : SlIn W8 .E [numE j] (.slice (some ⟨JB, 0, none⟩) 1 1) := slIn_blk (vss := [_]) hj8 rfl one_le (nodes1 (ty_num j) (H7.out.1.keep (keeps_below hb8)))
  have hitem : NdIn W8 (itemE ⟨#[97]⟩ (numE j)) [.int .i64 4, .int .i64 0, .string ⟨#[97]⟩, .slice (some ⟨JB, 0, none⟩) 1 1] := nodeE (small_ok (by decide) (by decide)) ok0 (by decide) hl8
  have H8 := Lib.hid (And.intro (H7.out.2.1.keep (keeps_below hb8)) (H7.out.2.2.trans (hb8.mono H7.out.2.2.size)))
  have HG := Lib.hid (giveS_any ⟨#[120]⟩ (by decide) _ rfl _ _ _ _ _ _ W8 hitem)
  rw [hW8, hJB]
  clear hJB hW8 hj8 hb8 hl8 hitem
  refine HG.out.mono ?_
  rintro e w9 ⟨k4, s4, a4, l4, c4, v3, v4, v5, rfl, rfl, rfl, rfl, hn9, hb9⟩
  have H9 := Lib.hid (And.intro hn9 (And.intro (H8.out.1.keep (keeps_below hb9)) (H8.out.2.trans (hb9.mono H8.out.2.size))))
  clear hn9 hb9
  go_wp2_with fail
  obtain ⟨S, hS⟩ : ∃ s, w9.heap.size = s := ⟨_, rfl⟩
  obtain ⟨W10, hW10⟩ : ∃ W, (w9.alloc (.cells #[.int .i64 2, .string ⟨#[97]⟩, .slice (some ⟨EB, 0, none⟩) 2 2, .slice none 0 0, .slice none 0 0, .slice none 0 0, .int .i64 k4, .string s4, .slice a4 l4 c4, .slice none 0 0, .slice none 0 0, .slice none 0 0] 52)).alloc (.cells #[.slice (some ⟨D, 0, none⟩) 2 2, .slice (some ⟨w9.heap.size, 0, none⟩) 2 2] 25) = W := ⟨_, rfl⟩
  have hb10 : Below w9.heap.size w9 W10 := by rw [← hW10]; exact ((Below.refl _ w9).alloc (Nat.le_refl _) _).alloc (by simp) _
  have hs10 : Blk W10 S [[.int .i64 2, .string ⟨#[97]⟩, .slice (some ⟨EB, 0, none⟩) 2 2, .slice none 0 0, .slice none 0 0, .slice none 0 0], [.int .i64 k4, .string s4, .slice a4 l4 c4, .slice none 0 0, .slice none 0 0, .slice none 0 0]].flatten.toArray 52 := by rw [← hW10, ← hS]; exact (Blk.new w9 _ _).alloc _
  have hb310 := H9.out.2.2.trans (hb10.mono H9.out.2.2.size)
  have hd10 := HD3.out.1.next hb310
  have hbw := HD3.out.2.trans (hb310.mono HD3.out.2.size)
  have HR := Lib.hid (Run_any (soD z) (soS i j v) [] 10 _ _ _ W10 (slIn_blk (vss := [_, _]) hd10 rfl two_le (nodes2 rfl (declD_in (by decide) ok0) rfl (declD_in (by decide) (small_ok (by have := HZ.out; omega) (by have := HZ.out; omega))))) (slIn_blk (vss := [_, _]) hs10 rfl two_le (nodes2 rfl (storeS_in (by decide) (H9.out.2.1.keep (keeps_below hb10))) rfl (H9.out.1.keep (keeps_below hb10)))) ⟨none, 0, rfl, Nat.le_refl _, Nat.zero_le _, .inl rfl⟩ (fun x hx => by cases hx))
  have HBW := Lib.hid hbw
  rw [hW10, hS]
  clear hS hW10 hb10 hs10 hb310 hd10 hbw
  refine HR.out.mono ?_
  rintro e wA ⟨u, rfl, hbA, hout, -⟩
  have hO := hout HF.out.1
  rw [HF.out.1]
  rw [HF.out.2] at hO
  have HBA := Lib.hid (HBW.out.trans (hbA.mono HBW.out.size))
  clear hout hbA
  unfold soFin at hO
  obtain ⟨zn, rfl⟩ : ∃ n : Nat, z = n := ⟨z.toNat, by have := HZ.out; omega⟩
  have hlen1 : (List.replicate (zn : Int).toNat (0 : Int)).length = zn := by rw [List.length_replicate]; omega
  have hlen2 : (soArr zn i v).length = zn := soArr_len
  by_cases hi : i < 0 ∨ (zn : Int) ≤ i
  · rw [if_pos hi] at hO
    obtain ⟨ve, vv, va, rfl, hev, ⟨bb, cc, rfl, -, -, -, hiv⟩, ⟨a17, c17, rfl, -, -, hrow⟩, -⟩ := hO
    obtain ⟨a15, c15, rfl⟩ := hev.form
    obtain ⟨ba, rfl, -, hrows⟩ := hrow.resolve_left (by simp)
    obtain ⟨uu, hr0, br, cr, rfl, -, -, -, hcells⟩ := hrows 0 (by simp)
    have i0 : wA.cell? ⟨bb, 0, none⟩ = some (.int .i64 0) := hiv 0 (by simp)
    simp only [List.getElem_cons_zero, List.length_cons, List.length_nil] at hr0 hcells ⊢
    rw [hlen1] at hr0
    have b1 := World.block_lt_of_cell? wA _ i0
    have b2 := World.block_lt_of_cell? wA _ hr0
    obtain ⟨W, hW⟩ : ∃ W, wA.alloc (.cells #[.int .i64 3, .int .i64 3, .int .i64 1, .slice a15 0 c15, .slice (some ⟨bb, 0, none⟩) 1 cc, .slice (some ⟨ba, 0, none⟩) 1 c17] 31) = W := ⟨_, rfl⟩
    have hbl : Below wA.heap.size wA W := by rw [← hW]; exact (Below.refl _ wA).alloc (Nat.le_refl _) _
    have i1 := (hbl.cell b1).trans i0
    have r1 := (hbl.cell b2).trans hr0
    subst hW
    clear hbl b1 b2 i0 hr0 hcells hrows hiv hev hrow
    by_cases h0 : i < 0
    · have q1 : decide (i < 0) = true := by simpa using h0
      clear h0 hi
      go_wp2_with fail
      go_ret
      exact ⟨rfl, HBA.out.alloc HBA.out.size _⟩
    · have q1 : decide (i < 0) = false := by simpa using h0
      have q2 : decide ((zn : Int) ≤ i) = true := by simp <;> omega
      clear h0 hi
      go_wp2_with fail
      go_ret
      exact ⟨rfl, HBA.out.alloc HBA.out.size _⟩
  · rw [if_neg hi] at hO
    by_cases hj : j < 0 ∨ (zn : Int) ≤ j
    · rw [if_pos hj] at hO
      obtain ⟨ve, vv, va, rfl, hev, ⟨bb, cc, rfl, -, -, -, hiv⟩, ⟨a17, c17, rfl, -, -, hrow⟩, -⟩ := hO
      obtain ⟨a15, c15, rfl⟩ := hev.form
      obtain ⟨ba, rfl, -, hrows⟩ := hrow.resolve_left (by simp)
      obtain ⟨uu, hr0, br, cr, rfl, -, -, -, hcells⟩ := hrows 0 (by simp)
      have i0 : wA.cell? ⟨bb, 0, none⟩ = some (.int .i64 0) := hiv 0 (by simp)
      simp only [List.getElem_cons_zero, List.length_cons, List.length_nil] at hr0 hcells ⊢
      rw [hlen2] at hr0
      have hat := soArr_at (v := v) hi
      have g0 : wA.cell? ⟨br, i.toNat, none⟩ = some (.int .i64 v) := by
        have h1 := hcells i.toNat hat.2
        have h2 := hat.1
        rw [List.getD_eq_getElem?_getD, List.getElem?_eq_getElem hat.2] at h2
        rw [h1]
        exact congrArg (fun x => some (Value.int .i64 x)) h2
      obtain ⟨ni, rfl⟩ : ∃ n : Nat, i = n := ⟨i.toNat, by omega⟩
      rw [Int.toNat_natCast] at g0
      have b1 := World.block_lt_of_cell? wA _ i0
      have b2 := World.block_lt_of_cell? wA _ hr0
      have b3 := World.block_lt_of_cell? wA _ g0
      obtain ⟨W, hW⟩ : ∃ W, wA.alloc (.cells #[.int .i64 3, .int .i64 3, .int .i64 2, .slice a15 0 c15, .slice (some ⟨bb, 0, none⟩) 1 cc, .slice (some ⟨ba, 0, none⟩) 1 c17] 31) = W := ⟨_, rfl⟩
      have hbl : Below wA.heap.size wA W := by rw [← hW]; exact (Below.refl _ wA).alloc (Nat.le_refl _) _
      have i1 := (hbl.cell b1).trans i0
      have r1 := (hbl.cell b2).trans hr0
      have g1 := (hbl.cell b3).trans g0
      have hni : ni < zn := by omega
      have HNI := Lib.hid hni
      subst hW
      clear hbl b1 b2 b3 g0 i0 hr0 hcells hrows hiv hev hrow hat
      have q1 : decide ((ni : Int) < 0) = false := by simp <;> omega
      have q2 : decide ((zn : Int) ≤ ni) = false := by simp <;> omega
      by_cases h0 : j < 0
      · have q3 : decide (j < 0) = true := by simpa using h0
        clear h0 hi hj
        go_wp2_with fail
        go_ret
        exact ⟨rfl, HBA.out.alloc HBA.out.size _⟩
      · have q3 : decide (j < 0) = false := by simpa using h0
        have q4 : decide ((zn : Int) ≤ j) = true := by simp <;> omega
        clear h0 hi hj
        go_wp2_with fail
        go_ret
        exact ⟨rfl, HBA.out.alloc HBA.out.size _⟩
    · rw [if_neg hj] at hO
      obtain ⟨ve, vv, va, rfl, hev, ⟨bb, cc, rfl, -, -, -, hiv⟩, ⟨a17, c17, rfl, -, -, hrow⟩, -⟩ := hO
      obtain ⟨a15, c15, rfl⟩ := hev.form
      obtain ⟨ba, rfl, -, hrows⟩ := hrow.resolve_left (by simp)
      obtain ⟨uu, hr0, br, cr, rfl, -, -, -, hcells⟩ := hrows 0 (by simp)
      have i0 : wA.cell? ⟨bb, 0, none⟩ = some (.int .i64 ((soArr zn i v).getD j.toNat 0)) := hiv 0 (by simp)
      simp only [List.getElem_cons_zero, List.length_cons, List.length_nil] at hr0 hcells ⊢
      rw [hlen2] at hr0
      have hat := soArr_at (v := v) hi
      have g0 : wA.cell? ⟨br, i.toNat, none⟩ = some (.int .i64 v) := by
        have h1 := hcells i.toNat hat.2
        have h2 := hat.1
        rw [List.getD_eq_getElem?_getD, List.getElem?_eq_getElem hat.2] at h2
        rw [h1]
        exact congrArg (fun x => some (Value.int .i64 x)) h2
      obtain ⟨ni, rfl⟩ : ∃ n : Nat, i = n := ⟨i.toNat, by omega⟩
      rw [Int.toNat_natCast] at g0
      obtain ⟨VI, hVI⟩ : ∃ x, (soArr zn ni v).getD j.toNat 0 = x := ⟨_, rfl⟩
      rw [hVI] at i0
      have b1 := World.block_lt_of_cell? wA _ i0
      have b2 := World.block_lt_of_cell? wA _ hr0
      have b3 := World.block_lt_of_cell? wA _ g0
      obtain ⟨W, hW⟩ : ∃ W, wA.alloc (.cells #[.int .i64 2, .int .i64 0, .int .i64 2, .slice a15 0 c15, .slice (some ⟨bb, 0, none⟩) 1 cc, .slice (some ⟨ba, 0, none⟩) 1 c17] 31) = W := ⟨_, rfl⟩
      have hbl : Below wA.heap.size wA W := by rw [← hW]; exact (Below.refl _ wA).alloc (Nat.le_refl _) _
      have i1 := (hbl.cell b1).trans i0
      have r1 := (hbl.cell b2).trans hr0
      have g1 := (hbl.cell b3).trans g0
      have hni : ni < zn := by omega
      have HNI := Lib.hid hni
      subst hW
      clear hbl b1 b2 b3 g0 i0 hr0 hcells hrows hiv hev hrow hat
      have q1 : decide ((ni : Int) < 0) = false := by simp <;> omega
      have q2 : decide ((zn : Int) ≤ ni) = false := by simp <;> omega
      have q3 : decide (j < 0) = false := by simp <;> omega
      have q4 : decide ((zn : Int) ≤ j) = false := by simp <;> omega
      by_cases h0 : (ni : Int) = j
      · have q5 : ((ni : Int) == j) = true := by simpa using h0
        have hv : VI = v := by rw [← hVI, ← h0]; exact (soArr_at hi).1
        subst hv
        clear h0 hi hj hVI
        go_wp2_with fail
        go_ret
        exact ⟨rfl, HBA.out.alloc HBA.out.size _⟩
      · have q5 : ((ni : Int) == j) = false := by simpa using h0
        have hv : VI = 0 := by rw [← hVI]; exact soArr_other hi hj h0
        subst hv
        clear h0 hi hj hVI
        go_wp2_with fail
        go_ret
        exact ⟨rfl, HBA.out.alloc HBA.out.size _⟩
end Go.Proofs.Ytbodbbdofoeclaa
