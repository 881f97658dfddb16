/-
  Equal rows (slices.Equal); Equal of package dbm; the document's Same, Equal.
-/
import Derived.Test.YthnefcafhpioaaaDcA
namespace Go.Proofs.Ythnefcafhpioaaa
open Go Go.RowKit Go.Shelf

set_option maxRecDepth 100000 in
set_option maxHeartbeats 4000000 in
theorem sleq_any (l k : List Int) (a a2 : Option Addr) (c c2 : Nat) (w : World) (h1 : MAt w l a) (h2 : MAt w k a2) (hl : l.length ≤ maxLen) :
    Calls Try.prog 38 #[.slice a l.length c, .slice a2 k.length c2] w fun e w' => e = .returned (.bool (decide (l = k))) ∧ Below w.heap.size w w' := by
  by_cases hn : l.length = k.length
  · obtain ⟨n, hln⟩ : ∃ n, l.length = n := ⟨_, rfl⟩
    obtain ⟨D, hD⟩ : ∃ D, decide (l = k) = D := ⟨_, rfl⟩
    have HK := Lib.hid (And.intro hln (And.intro (hn.symm.trans hln) hD))
    have HM := Lib.hid (And.intro h1 h2)
    have hnm : n ≤ maxLen := by omega
    have HNM := Lib.hid hnm
    have hkk : k.length = n := HK.out.2.1
    rw [hln, hkk, hD]
    clear hD h1 h2 hn hl hnm hln hkk
    go_enter Try.func38, Try.ntmps38
    go_wp2_with fail
    go_loopw [13] (fun x wr => ∃ i : Nat, x = .int .i64 i ∧ i ≤ n ∧ (∀ q, q < i → l.getD q 0 = k.getD q 0) ∧ Below w.heap.size w wr) (fun x _ => n - (intOf x).toNat)
    case atStart => exact ⟨0, rfl, by omega, fun q hq => by omega, Below.refl _ _⟩
    case round =>
      obtain ⟨i, rfl, hi, hd, hbr⟩ := hrel
      by_cases hlt : i < n
      · have hbi : (i : Int) + 1 ≤ 9223372036854775807 := by have := HNM.out; unfold maxLen at this; omega
        obtain ⟨b, ob, rfl, hc1⟩ := mat_at (HM.out.1.next hbr) (i := i) (by rw [HK.out.1]; exact hlt)
        obtain ⟨b2, ob2, rfl, hc2⟩ := mat_at (HM.out.2.next hbr) (i := i) (by rw [HK.out.2.1]; exact hlt)
        obtain ⟨A, hA⟩ : ∃ A, l.getD i 0 = A := ⟨_, rfl⟩
        obtain ⟨A2, hA2⟩ : ∃ A, k.getD i 0 = A := ⟨_, rfl⟩
        rw [hA] at hc1
        rw [hA2] at hc2
        have HA := Lib.hid (And.intro hc1 hc2)
        have HBR := Lib.hid hbr
        have hil : (i : Int) < (n : Int) := by omega
        by_cases he : A = A2
        · have hne : (A != A2) = false := by simp [he]
          have HNX : Hid (∀ q, q < i + 1 → l.getD q 0 = k.getD q 0) := Lib.hid fun q hq => by
            rcases Nat.lt_or_ge q i with h | h
            · exact hd q h
            · obtain rfl : q = i := by omega
              rw [hA, hA2, he]
          clear hc1 hc2 hA hA2 hbr hd he
          go_upto_region 6 with fail
          refine wp_region_any (by kernel_rfl) ?_
          refine wpAny_vals [16, 17, 18, 19, 20, 21, 22, 23, 24] [.slice (some ⟨b, ob, none⟩) n c, .int .i64 (i : Int), .pointer (some ⟨b, ob + i, none⟩), .int .i64 A, .slice (some ⟨b2, ob2, none⟩) n c2, .int .i64 (i : Int), .pointer (some ⟨b2, ob2 + i, none⟩), .int .i64 A2, .bool false] (fun w' => w' = wr.drew) rfl (by kernel_rfl) (by decide) (by kernel_rfl) ?hs ?he ?hj
          case hj => exact rfl
          case hs =>
            intro qi qo ho fr0 hv hx w' hJ
            have hi : qi < 9 := (Array.getElem?_eq_some_iff.1 ho).1
            have cA : w'.cell? ⟨b, ob + i, none⟩ = some (.int .i64 A) := by rw [hJ]; exact HA.out.1
            have cB : w'.cell? ⟨b2, ob2 + i, none⟩ = some (.int .i64 A2) := by rw [hJ]; exact HA.out.2
            have HJ := Lib.hid hJ
            clear hJ
            have hcase : qi = 0 ∨ qi = 1 ∨ qi = 2 ∨ qi = 3 ∨ qi = 4 ∨ qi = 5 ∨ qi = 6 ∨ qi = 7 ∨ qi = 8 := by omega
            clear hi
            rcases hcase with rfl | rfl | rfl | rfl | rfl | rfl | rfl | rfl | rfl
            · obtain rfl := Option.some.inj ho.symm
              clear ho
              have x0 : fr0.tmps[(0 : Nat)]? = some (.slice (some ⟨b, ob, none⟩) n c) := hx 0 (by decide)
              clear hv hx
              refine wpOp_step rfl (fun K hK => ?_)
              go_simp
              exact hK _ _ ⟨rfl, HJ.out⟩
            · obtain rfl := Option.some.inj ho.symm
              clear ho
              have x5 : fr0.tmps[(5 : Nat)]? = some (.int .i64 (i : Int)) := hx 5 (by decide)
              clear hv hx
              refine wpOp_step rfl (fun K hK => ?_)
              go_simp
              exact hK _ _ ⟨rfl, HJ.out⟩
            · obtain rfl := Option.some.inj ho.symm
              clear ho
              have d0 : fr0.tmps[(16 : Nat)]? = some (.slice (some ⟨b, ob, none⟩) n c) := hv ⟨0, .data⟩ (by simp) rfl
              have d1 : fr0.tmps[(17 : Nat)]? = some (.int .i64 (i : Int)) := hv ⟨1, .data⟩ (by simp) rfl
              clear hv hx
              refine wpOp_step rfl (fun K hK => ?_)
              go_simp
              exact hK _ _ ⟨rfl, HJ.out⟩
            · obtain rfl := Option.some.inj ho.symm
              clear ho
              have d2 : fr0.tmps[(18 : Nat)]? = some (.pointer (some ⟨b, ob + i, none⟩)) := hv ⟨2, .data⟩ (by simp) rfl
              clear hv hx
              refine wpOp_step rfl (fun K hK => ?_)
              go_simp
              exact hK _ _ ⟨rfl, HJ.out⟩
            · obtain rfl := Option.some.inj ho.symm
              clear ho
              have x1 : fr0.tmps[(1 : Nat)]? = some (.slice (some ⟨b2, ob2, none⟩) n c2) := hx 1 (by decide)
              clear hv hx
              refine wpOp_step rfl (fun K hK => ?_)
              go_simp
              exact hK _ _ ⟨rfl, HJ.out⟩
            · obtain rfl := Option.some.inj ho.symm
              clear ho
              have x5 : fr0.tmps[(5 : Nat)]? = some (.int .i64 (i : Int)) := hx 5 (by decide)
              clear hv hx
              refine wpOp_step rfl (fun K hK => ?_)
              go_simp
              exact hK _ _ ⟨rfl, HJ.out⟩
            · obtain rfl := Option.some.inj ho.symm
              clear ho
              have d4 : fr0.tmps[(20 : Nat)]? = some (.slice (some ⟨b2, ob2, none⟩) n c2) := hv ⟨4, .data⟩ (by simp) rfl
              have d5 : fr0.tmps[(21 : Nat)]? = some (.int .i64 (i : Int)) := hv ⟨5, .data⟩ (by simp) rfl
              clear hv hx
              refine wpOp_step rfl (fun K hK => ?_)
              go_simp
              exact hK _ _ ⟨rfl, HJ.out⟩
            · obtain rfl := Option.some.inj ho.symm
              clear ho
              have d6 : fr0.tmps[(22 : Nat)]? = some (.pointer (some ⟨b2, ob2 + i, none⟩)) := hv ⟨6, .data⟩ (by simp) rfl
              clear hv hx
              refine wpOp_step rfl (fun K hK => ?_)
              go_simp
              exact hK _ _ ⟨rfl, HJ.out⟩
            · obtain rfl := Option.some.inj ho.symm
              clear ho
              have d3 : fr0.tmps[(19 : Nat)]? = some (.int .i64 A) := hv ⟨3, .data⟩ (by simp) rfl
              have d7 : fr0.tmps[(23 : Nat)]? = some (.int .i64 A2) := hv ⟨7, .data⟩ (by simp) rfl
              clear hv hx
              refine wpOp_step rfl (fun K hK => ?_)
              go_simp
              exact hK _ _ ⟨rfl, HJ.out⟩
          case he =>
            intro w' hJ
            simp only [putF, valsAt, Nat.reduceAdd, Nat.zero_add, List.getD_cons_zero, List.getD_cons_succ, Act.put, List.setIfInBounds_toArray, List.set_cons_succ, List.set_cons_zero]
            rw [hJ]
            clear hJ
            go_wp2_with fail
            go_roundw
            case rel => exact ⟨i + 1, by go_num, by omega, HNX.out, HBR.out.drew⟩
            case measure => simp [intOf]; omega
        · have hne : (A != A2) = true := by simpa using he
          have HNE : Hid (D = false) := Lib.hid (by rw [← HK.out.2.2]; exact decide_eq_false fun e => he (by rw [← hA, ← hA2, e]))
          clear hc1 hc2 hA hA2 hbr hd he
          go_upto_region 6 with fail
          refine wp_region_any (by kernel_rfl) ?_
          refine wpAny_vals [16, 17, 18, 19, 20, 21, 22, 23, 24] [.slice (some ⟨b, ob, none⟩) n c, .int .i64 (i : Int), .pointer (some ⟨b, ob + i, none⟩), .int .i64 A, .slice (some ⟨b2, ob2, none⟩) n c2, .int .i64 (i : Int), .pointer (some ⟨b2, ob2 + i, none⟩), .int .i64 A2, .bool true] (fun w' => w' = wr.drew) rfl (by kernel_rfl) (by decide) (by kernel_rfl) ?hs ?he ?hj
          case hj => exact rfl
          case hs =>
            intro qi qo ho fr0 hv hx w' hJ
            have hi : qi < 9 := (Array.getElem?_eq_some_iff.1 ho).1
            have cA : w'.cell? ⟨b, ob + i, none⟩ = some (.int .i64 A) := by rw [hJ]; exact HA.out.1
            have cB : w'.cell? ⟨b2, ob2 + i, none⟩ = some (.int .i64 A2) := by rw [hJ]; exact HA.out.2
            have HJ := Lib.hid hJ
            clear hJ
            have hcase : qi = 0 ∨ qi = 1 ∨ qi = 2 ∨ qi = 3 ∨ qi = 4 ∨ qi = 5 ∨ qi = 6 ∨ qi = 7 ∨ qi = 8 := by omega
            clear hi
            rcases hcase with rfl | rfl | rfl | rfl | rfl | rfl | rfl | rfl | rfl
            · obtain rfl := Option.some.inj ho.symm
              clear ho
              have x0 : fr0.tmps[(0 : Nat)]? = some (.slice (some ⟨b, ob, none⟩) n c) := hx 0 (by decide)
              clear hv hx
              refine wpOp_step rfl (fun K hK => ?_)
              go_simp
              exact hK _ _ ⟨rfl, HJ.out⟩
            · obtain rfl := Option.some.inj ho.symm
              clear ho
              have x5 : fr0.tmps[(5 : Nat)]? = some (.int .i64 (i : Int)) := hx 5 (by decide)
              clear hv hx
              refine wpOp_step rfl (fun K hK => ?_)
              go_simp
              exact hK _ _ ⟨rfl, HJ.out⟩
            · obtain rfl := Option.some.inj ho.symm
              clear ho
              have d0 : fr0.tmps[(16 : Nat)]? = some (.slice (some ⟨b, ob, none⟩) n c) := hv ⟨0, .data⟩ (by simp) rfl
              have d1 : fr0.tmps[(17 : Nat)]? = some (.int .i64 (i : Int)) := hv ⟨1, .data⟩ (by simp) rfl
              clear hv hx
              refine wpOp_step rfl (fun K hK => ?_)
              go_simp
              exact hK _ _ ⟨rfl, HJ.out⟩
            · obtain rfl := Option.some.inj ho.symm
              clear ho
              have d2 : fr0.tmps[(18 : Nat)]? = some (.pointer (some ⟨b, ob + i, none⟩)) := hv ⟨2, .data⟩ (by simp) rfl
              clear hv hx
              refine wpOp_step rfl (fun K hK => ?_)
              go_simp
              exact hK _ _ ⟨rfl, HJ.out⟩
            · obtain rfl := Option.some.inj ho.symm
              clear ho
              have x1 : fr0.tmps[(1 : Nat)]? = some (.slice (some ⟨b2, ob2, none⟩) n c2) := hx 1 (by decide)
              clear hv hx
              refine wpOp_step rfl (fun K hK => ?_)
              go_simp
              exact hK _ _ ⟨rfl, HJ.out⟩
            · obtain rfl := Option.some.inj ho.symm
              clear ho
              have x5 : fr0.tmps[(5 : Nat)]? = some (.int .i64 (i : Int)) := hx 5 (by decide)
              clear hv hx
              refine wpOp_step rfl (fun K hK => ?_)
              go_simp
              exact hK _ _ ⟨rfl, HJ.out⟩
            · obtain rfl := Option.some.inj ho.symm
              clear ho
              have d4 : fr0.tmps[(20 : Nat)]? = some (.slice (some ⟨b2, ob2, none⟩) n c2) := hv ⟨4, .data⟩ (by simp) rfl
              have d5 : fr0.tmps[(21 : Nat)]? = some (.int .i64 (i : Int)) := hv ⟨5, .data⟩ (by simp) rfl
              clear hv hx
              refine wpOp_step rfl (fun K hK => ?_)
              go_simp
              exact hK _ _ ⟨rfl, HJ.out⟩
            · obtain rfl := Option.some.inj ho.symm
              clear ho
              have d6 : fr0.tmps[(22 : Nat)]? = some (.pointer (some ⟨b2, ob2 + i, none⟩)) := hv ⟨6, .data⟩ (by simp) rfl
              clear hv hx
              refine wpOp_step rfl (fun K hK => ?_)
              go_simp
              exact hK _ _ ⟨rfl, HJ.out⟩
            · obtain rfl := Option.some.inj ho.symm
              clear ho
              have d3 : fr0.tmps[(19 : Nat)]? = some (.int .i64 A) := hv ⟨3, .data⟩ (by simp) rfl
              have d7 : fr0.tmps[(23 : Nat)]? = some (.int .i64 A2) := hv ⟨7, .data⟩ (by simp) rfl
              clear hv hx
              refine wpOp_step rfl (fun K hK => ?_)
              go_simp
              exact hK _ _ ⟨rfl, HJ.out⟩
          case he =>
            intro w' hJ
            simp only [putF, valsAt, Nat.reduceAdd, Nat.zero_add, List.getD_cons_zero, List.getD_cons_succ, Act.put, List.setIfInBounds_toArray, List.set_cons_succ, List.set_cons_zero]
            rw [hJ]
            clear hJ
            go_wp2_with fail
            go_ret
            exact ⟨by rw [HNE.out]; rfl, HBR.out.drew⟩
      · obtain rfl : i = n := by omega
        have HEQ : Hid (D = true) := Lib.hid (by
          rw [← HK.out.2.2]
          refine decide_eq_true (List.ext_getElem (by rw [HK.out.1, HK.out.2.1]) fun q h1 h2 => ?_)
          have := hd q (by rw [← HK.out.1]; exact h1)
          rw [List.getD_eq_getElem?_getD, List.getD_eq_getElem?_getD, List.getElem?_eq_getElem h1, List.getElem?_eq_getElem h2] at this
          exact this)
        clear hd
        go_wp2_with fail
        go_ret
        exact ⟨by rw [HEQ.out]; rfl, hbr⟩
  · have e : decide (l = k) = false := decide_eq_false fun e => hn (by rw [e])
    rw [e]
    obtain ⟨n, hln⟩ : ∃ n, l.length = n := ⟨_, rfl⟩
    obtain ⟨m, hkn⟩ : ∃ n, k.length = n := ⟨_, rfl⟩
    rw [hln, hkn] at hn ⊢
    have hne : ((n : Int) != (m : Int)) = true := by simp; omega
    clear h1 h2 hl hln hkn e
    go_enter Try.func38, Try.ntmps38
    go_wp2_with fail
    go_ret
    exact ⟨rfl, Below.refl _ _⟩


set_option maxRecDepth 100000 in
set_option maxHeartbeats 8000000 in
theorem same_any (x y : Oc) (a a2 : Option Addr) (c c2 : Nat) (w : World) (hx : MAt w x.m a) (hy : MAt w y.m a2) (hl : x.m.length ≤ maxLen) :
    Calls Try.prog 39 #[ocV x a c, ocV y a2 c2] w fun e w' => e = .returned (.bool (octB x y)) ∧ Below w.heap.size w w' := by
  obtain ⟨nv, em, l⟩ := x
  obtain ⟨nv2, em2, k⟩ := y
  simp only at hx hy hl
  show Calls Try.prog 39 #[.agg #[.int .i64 nv, .bool em, .slice a l.length c], .agg #[.int .i64 nv2, .bool em2, .slice a2 k.length c2]] w fun e w' => e = .returned (.bool (nv == nv2 && em == em2 && decide (l = k))) ∧ _
  obtain ⟨X, hX⟩ : ∃ X, w.heap.size = X := ⟨_, rfl⟩
  obtain ⟨W1, hW1⟩ : ∃ W, (w.alloc (.cells #[.int .i64 nv, .bool em, .slice a l.length c] 24)).alloc (.cells #[.int .i64 nv2, .bool em2, .slice a2 k.length c2] 24) = W := ⟨_, rfl⟩
  have hx1 : Blk W1 X #[.int .i64 nv, .bool em, .slice a l.length c] 24 := by rw [← hW1, ← hX]; exact (Blk.new w _ _).alloc _
  have hy1 : Blk W1 (X + 1) #[.int .i64 nv2, .bool em2, .slice a2 k.length c2] 24 := by
    have h := Blk.new (w.alloc (.cells #[.int .i64 nv, .bool em, .slice a l.length c] 24)) #[.int .i64 nv2, .bool em2, .slice a2 k.length c2] 24
    rw [World.size_alloc, hX] at h
    rw [← hW1]; exact h
  have hb1 : Below w.heap.size w W1 := by rw [← hW1]; exact ((Below.refl _ w).alloc (Nat.le_refl _) _).alloc (by simp) _
  have HB1 := Lib.hid hb1
  have HW := Lib.hid (And.intro hX hW1)
  have x0 : W1.cell? ⟨X, 0, none⟩ = some (.int .i64 nv) := hx1.cell 0
  have x1 : W1.cell? ⟨X, 1, none⟩ = some (.bool em) := hx1.cell 1
  have x2 : W1.cell? ⟨X, 2, none⟩ = some (.slice a l.length c) := hx1.cell 2
  have y0 : W1.cell? ⟨X + 1, 0, none⟩ = some (.int .i64 nv2) := hy1.cell 0
  have y1 : W1.cell? ⟨X + 1, 1, none⟩ = some (.bool em2) := hy1.cell 1
  have y2 : W1.cell? ⟨X + 1, 2, none⟩ = some (.slice a2 k.length c2) := hy1.cell 2
  have HK0 := Lib.hid (And.intro (hx.next hb1) (And.intro (hy.next hb1) (And.intro hx1 hy1)))
  obtain ⟨n, hln⟩ : ∃ n, l.length = n := ⟨_, rfl⟩
  obtain ⟨n2, hkn⟩ : ∃ n, k.length = n := ⟨_, rfl⟩
  obtain ⟨D, hD⟩ : ∃ D, decide (l = k) = D := ⟨_, rfl⟩
  have hDn : n ≠ n2 → D = false := fun h => by rw [← hD]; exact decide_eq_false fun e => h (by rw [← hln, ← hkn, e])
  have HK := Lib.hid (And.intro hln (And.intro hkn hD))
  have hnm : n ≤ maxLen := by omega
  have HNM := Lib.hid hnm
  rw [hD]
  rw [hln, hkn] at HW HK0 ⊢
  rw [hln] at x2
  rw [hkn] at y2
  clear hx hy hl hX hW1 hx1 hy1 hb1 hln hkn hD hnm
  by_cases h1 : nv = nv2
  · have k1 : (nv == nv2) = true := by simp [h1]
    have k1' : (nv != nv2) = false := by simp [h1]
    rw [k1]
    by_cases h2 : em = em2
    · subst h2
      have k2 : (em == em) = true := by simp
      rw [k2]
      simp only [Bool.true_and]
      by_cases h3 : n = n2
      · subst h3
        clear hDn h1 k1 k2
        go_enter Try.func39, Try.ntmps39
        go_upto_region 1 with fail
        simp only [HW.out.1]
        rw [HW.out.2]
        go_wp2_with fail
        go_loopw [5] (fun x wr => ∃ i : Nat, x = .int .i64 i ∧ i ≤ n ∧ (∀ q, q < i → l.getD q 0 = k.getD q 0) ∧ Below W1.heap.size W1 wr) (fun x _ => n - (intOf x).toNat)
        case atStart => exact ⟨0, rfl, by omega, fun q hq => by omega, Below.refl _ _⟩
        case round =>
          clear x0 x1 x2 y0 y1 y2
          obtain ⟨i, rfl, hi, hd, hbr⟩ := hrel
          have x2 : wr.cell? ⟨X, 2, none⟩ = some (.slice a n c) := (HK0.out.2.2.1.below hbr HK0.out.2.2.1.lt).cell 2
          by_cases hlt : i < n
          · have hbi : (i : Int) + 1 ≤ 9223372036854775807 := by have := HNM.out; unfold maxLen at this; omega
            obtain ⟨b, ob, rfl, hc1⟩ := mat_at (HK0.out.1.next hbr) (i := i) (by rw [HK.out.1]; exact hlt)
            obtain ⟨b2, ob2, rfl, hc2⟩ := mat_at (HK0.out.2.1.next hbr) (i := i) (by rw [HK.out.2.1]; exact hlt)
            obtain ⟨A, hA⟩ : ∃ A, l.getD i 0 = A := ⟨_, rfl⟩
            obtain ⟨A2, hA2⟩ : ∃ A, k.getD i 0 = A := ⟨_, rfl⟩
            rw [hA] at hc1
            rw [hA2] at hc2
            have HA := Lib.hid (And.intro hc1 hc2)
            have HBR := Lib.hid hbr
            have HXY := Lib.hid (And.intro x2 ((HK0.out.2.2.2.below hbr HK0.out.2.2.2.lt).cell 2))
            have hil : (i : Int) < (n : Int) := by omega
            by_cases he : A = A2
            · have hne : (A != A2) = false := by simp [he]
              have HNX : Hid (∀ q, q < i + 1 → l.getD q 0 = k.getD q 0) := Lib.hid fun q hq => by
                rcases Nat.lt_or_ge q i with h | h
                · exact hd q h
                · obtain rfl : q = i := by omega
                  rw [hA, hA2, he]
              clear hc1 hc2 hA hA2 hbr hd he
              go_upto_region 6 with fail
              clear x2
              refine wp_region_any (by kernel_rfl) ?_
              refine wpAny_vals [34, 35, 36, 37, 38, 39, 40, 41, 42, 43, 44] [.pointer (some ⟨X, 2, none⟩), .slice (some ⟨b, ob, none⟩) n c, .int .i64 (i : Int), .pointer (some ⟨b, ob + i, none⟩), .int .i64 A, .pointer (some ⟨(X + 1), 2, none⟩), .slice (some ⟨b2, ob2, none⟩) n c2, .int .i64 (i : Int), .pointer (some ⟨b2, ob2 + i, none⟩), .int .i64 A2, .bool false] (fun w' => w' = wr.drew) rfl (by kernel_rfl) (by decide) (by kernel_rfl) ?hs ?he ?hj
              case hj => exact rfl
              case hs =>
                intro qi qo ho fr0 hv hx w' hJ
                have hi : qi < 11 := (Array.getElem?_eq_some_iff.1 ho).1
                have cA : w'.cell? ⟨b, ob + i, none⟩ = some (.int .i64 A) := by rw [hJ]; exact HA.out.1
                have cB : w'.cell? ⟨b2, ob2 + i, none⟩ = some (.int .i64 A2) := by rw [hJ]; exact HA.out.2
                have c2' : w'.cell? ⟨X, 2, none⟩ = some (.slice (some ⟨b, ob, none⟩) n c) := by rw [hJ]; exact HXY.out.1
                have c3' : w'.cell? ⟨X + 1, 2, none⟩ = some (.slice (some ⟨b2, ob2, none⟩) n c2) := by rw [hJ]; exact HXY.out.2
                have HJ := Lib.hid hJ
                clear hJ
                have hcase : qi = 0 ∨ qi = 1 ∨ qi = 2 ∨ qi = 3 ∨ qi = 4 ∨ qi = 5 ∨ qi = 6 ∨ qi = 7 ∨ qi = 8 ∨ qi = 9 ∨ qi = 10 := by omega
                clear hi
                rcases hcase with rfl | rfl | rfl | rfl | rfl | rfl | rfl | rfl | rfl | rfl | rfl
                · obtain rfl := Option.some.inj ho.symm
                  clear ho
                  have x2 : fr0.tmps[(2 : Nat)]? = some (.pointer (some ⟨X, 0, none⟩)) := hx 2 (by decide)
                  clear hv hx
                  refine wpOp_step rfl (fun K hK => ?_)
                  go_simp
                  exact hK _ _ ⟨rfl, HJ.out⟩
                · obtain rfl := Option.some.inj ho.symm
                  clear ho
                  have d0 : fr0.tmps[(34 : Nat)]? = some (.pointer (some ⟨X, 2, none⟩)) := hv ⟨0, .data⟩ (by simp) rfl
                  clear hv hx
                  refine wpOp_step rfl (fun K hK => ?_)
                  go_simp
                  exact hK _ _ ⟨rfl, HJ.out⟩
                · obtain rfl := Option.some.inj ho.symm
                  clear ho
                  have x5 : fr0.tmps[(5 : Nat)]? = some (.int .i64 (i : Int)) := hx 5 (by decide)
                  clear hv hx
                  refine wpOp_step rfl (fun K hK => ?_)
                  go_simp
                  exact hK _ _ ⟨rfl, HJ.out⟩
                · obtain rfl := Option.some.inj ho.symm
                  clear ho
                  have d1 : fr0.tmps[(35 : Nat)]? = some (.slice (some ⟨b, ob, none⟩) n c) := hv ⟨1, .data⟩ (by simp) rfl
                  have d2 : fr0.tmps[(36 : Nat)]? = some (.int .i64 (i : Int)) := hv ⟨2, .data⟩ (by simp) rfl
                  clear hv hx
                  refine wpOp_step rfl (fun K hK => ?_)
                  go_simp
                  exact hK _ _ ⟨rfl, HJ.out⟩
                · obtain rfl := Option.some.inj ho.symm
                  clear ho
                  have d3 : fr0.tmps[(37 : Nat)]? = some (.pointer (some ⟨b, ob + i, none⟩)) := hv ⟨3, .data⟩ (by simp) rfl
                  clear hv hx
                  refine wpOp_step rfl (fun K hK => ?_)
                  go_simp
                  exact hK _ _ ⟨rfl, HJ.out⟩
                · obtain rfl := Option.some.inj ho.symm
                  clear ho
                  have x3 : fr0.tmps[(3 : Nat)]? = some (.pointer (some ⟨(X + 1), 0, none⟩)) := hx 3 (by decide)
                  clear hv hx
                  refine wpOp_step rfl (fun K hK => ?_)
                  go_simp
                  exact hK _ _ ⟨rfl, HJ.out⟩
                · obtain rfl := Option.some.inj ho.symm
                  clear ho
                  have d5 : fr0.tmps[(39 : Nat)]? = some (.pointer (some ⟨(X + 1), 2, none⟩)) := hv ⟨5, .data⟩ (by simp) rfl
                  clear hv hx
                  refine wpOp_step rfl (fun K hK => ?_)
                  go_simp
                  exact hK _ _ ⟨rfl, HJ.out⟩
                · obtain rfl := Option.some.inj ho.symm
                  clear ho
                  have x5 : fr0.tmps[(5 : Nat)]? = some (.int .i64 (i : Int)) := hx 5 (by decide)
                  clear hv hx
                  refine wpOp_step rfl (fun K hK => ?_)
                  go_simp
                  exact hK _ _ ⟨rfl, HJ.out⟩
                · obtain rfl := Option.some.inj ho.symm
                  clear ho
                  have d6 : fr0.tmps[(40 : Nat)]? = some (.slice (some ⟨b2, ob2, none⟩) n c2) := hv ⟨6, .data⟩ (by simp) rfl
                  have d7 : fr0.tmps[(41 : Nat)]? = some (.int .i64 (i : Int)) := hv ⟨7, .data⟩ (by simp) rfl
                  clear hv hx
                  refine wpOp_step rfl (fun K hK => ?_)
                  go_simp
                  exact hK _ _ ⟨rfl, HJ.out⟩
                · obtain rfl := Option.some.inj ho.symm
                  clear ho
                  have d8 : fr0.tmps[(42 : Nat)]? = some (.pointer (some ⟨b2, ob2 + i, none⟩)) := hv ⟨8, .data⟩ (by simp) rfl
                  clear hv hx
                  refine wpOp_step rfl (fun K hK => ?_)
                  go_simp
                  exact hK _ _ ⟨rfl, HJ.out⟩
                · obtain rfl := Option.some.inj ho.symm
                  clear ho
                  have d4 : fr0.tmps[(38 : Nat)]? = some (.int .i64 A) := hv ⟨4, .data⟩ (by simp) rfl
                  have d9 : fr0.tmps[(43 : Nat)]? = some (.int .i64 A2) := hv ⟨9, .data⟩ (by simp) rfl
                  clear hv hx
                  refine wpOp_step rfl (fun K hK => ?_)
                  go_simp
                  exact hK _ _ ⟨rfl, HJ.out⟩
              case he =>
                intro w' hJ
                simp only [putF, valsAt, Nat.reduceAdd, Nat.zero_add, List.getD_cons_zero, List.getD_cons_succ, Act.put, List.setIfInBounds_toArray, List.set_cons_succ, List.set_cons_zero]
                rw [hJ]
                clear hJ
                go_wp2_with fail
                go_roundw
                case rel => exact ⟨i + 1, by go_num, by omega, HNX.out, HBR.out.drew⟩
                case measure => simp [intOf]; omega
            · have hne : (A != A2) = true := by simpa using he
              have HNE : Hid (D = false) := Lib.hid (by rw [← HK.out.2.2]; exact decide_eq_false fun e => he (by rw [← hA, ← hA2, e]))
              clear hc1 hc2 hA hA2 hbr hd he
              go_upto_region 6 with fail
              clear x2
              refine wp_region_any (by kernel_rfl) ?_
              refine wpAny_vals [34, 35, 36, 37, 38, 39, 40, 41, 42, 43, 44] [.pointer (some ⟨X, 2, none⟩), .slice (some ⟨b, ob, none⟩) n c, .int .i64 (i : Int), .pointer (some ⟨b, ob + i, none⟩), .int .i64 A, .pointer (some ⟨(X + 1), 2, none⟩), .slice (some ⟨b2, ob2, none⟩) n c2, .int .i64 (i : Int), .pointer (some ⟨b2, ob2 + i, none⟩), .int .i64 A2, .bool true] (fun w' => w' = wr.drew) rfl (by kernel_rfl) (by decide) (by kernel_rfl) ?hs ?he ?hj
              case hj => exact rfl
              case hs =>
                intro qi qo ho fr0 hv hx w' hJ
                have hi : qi < 11 := (Array.getElem?_eq_some_iff.1 ho).1
                have cA : w'.cell? ⟨b, ob + i, none⟩ = some (.int .i64 A) := by rw [hJ]; exact HA.out.1
                have cB : w'.cell? ⟨b2, ob2 + i, none⟩ = some (.int .i64 A2) := by rw [hJ]; exact HA.out.2
                have c2' : w'.cell? ⟨X, 2, none⟩ = some (.slice (some ⟨b, ob, none⟩) n c) := by rw [hJ]; exact HXY.out.1
                have c3' : w'.cell? ⟨X + 1, 2, none⟩ = some (.slice (some ⟨b2, ob2, none⟩) n c2) := by rw [hJ]; exact HXY.out.2
                have HJ := Lib.hid hJ
                clear hJ
                have hcase : qi = 0 ∨ qi = 1 ∨ qi = 2 ∨ qi = 3 ∨ qi = 4 ∨ qi = 5 ∨ qi = 6 ∨ qi = 7 ∨ qi = 8 ∨ qi = 9 ∨ qi = 10 := by omega
                clear hi
                rcases hcase with rfl | rfl | rfl | rfl | rfl | rfl | rfl | rfl | rfl | rfl | rfl
                · obtain rfl := Option.some.inj ho.symm
                  clear ho
                  have x2 : fr0.tmps[(2 : Nat)]? = some (.pointer (some ⟨X, 0, none⟩)) := hx 2 (by decide)
                  clear hv hx
                  refine wpOp_step rfl (fun K hK => ?_)
                  go_simp
                  exact hK _ _ ⟨rfl, HJ.out⟩
                · obtain rfl := Option.some.inj ho.symm
                  clear ho
                  have d0 : fr0.tmps[(34 : Nat)]? = some (.pointer (some ⟨X, 2, none⟩)) := hv ⟨0, .data⟩ (by simp) rfl
                  clear hv hx
                  refine wpOp_step rfl (fun K hK => ?_)
                  go_simp
                  exact hK _ _ ⟨rfl, HJ.out⟩
                · obtain rfl := Option.some.inj ho.symm
                  clear ho
                  have x5 : fr0.tmps[(5 : Nat)]? = some (.int .i64 (i : Int)) := hx 5 (by decide)
                  clear hv hx
                  refine wpOp_step rfl (fun K hK => ?_)
                  go_simp
                  exact hK _ _ ⟨rfl, HJ.out⟩
                · obtain rfl := Option.some.inj ho.symm
                  clear ho
                  have d1 : fr0.tmps[(35 : Nat)]? = some (.slice (some ⟨b, ob, none⟩) n c) := hv ⟨1, .data⟩ (by simp) rfl
                  have d2 : fr0.tmps[(36 : Nat)]? = some (.int .i64 (i : Int)) := hv ⟨2, .data⟩ (by simp) rfl
                  clear hv hx
                  refine wpOp_step rfl (fun K hK => ?_)
                  go_simp
                  exact hK _ _ ⟨rfl, HJ.out⟩
                · obtain rfl := Option.some.inj ho.symm
                  clear ho
                  have d3 : fr0.tmps[(37 : Nat)]? = some (.pointer (some ⟨b, ob + i, none⟩)) := hv ⟨3, .data⟩ (by simp) rfl
                  clear hv hx
                  refine wpOp_step rfl (fun K hK => ?_)
                  go_simp
                  exact hK _ _ ⟨rfl, HJ.out⟩
                · obtain rfl := Option.some.inj ho.symm
                  clear ho
                  have x3 : fr0.tmps[(3 : Nat)]? = some (.pointer (some ⟨(X + 1), 0, none⟩)) := hx 3 (by decide)
                  clear hv hx
                  refine wpOp_step rfl (fun K hK => ?_)
                  go_simp
                  exact hK _ _ ⟨rfl, HJ.out⟩
                · obtain rfl := Option.some.inj ho.symm
                  clear ho
                  have d5 : fr0.tmps[(39 : Nat)]? = some (.pointer (some ⟨(X + 1), 2, none⟩)) := hv ⟨5, .data⟩ (by simp) rfl
                  clear hv hx
                  refine wpOp_step rfl (fun K hK => ?_)
                  go_simp
                  exact hK _ _ ⟨rfl, HJ.out⟩
                · obtain rfl := Option.some.inj ho.symm
                  clear ho
                  have x5 : fr0.tmps[(5 : Nat)]? = some (.int .i64 (i : Int)) := hx 5 (by decide)
                  clear hv hx
                  refine wpOp_step rfl (fun K hK => ?_)
                  go_simp
                  exact hK _ _ ⟨rfl, HJ.out⟩
                · obtain rfl := Option.some.inj ho.symm
                  clear ho
                  have d6 : fr0.tmps[(40 : Nat)]? = some (.slice (some ⟨b2, ob2, none⟩) n c2) := hv ⟨6, .data⟩ (by simp) rfl
                  have d7 : fr0.tmps[(41 : Nat)]? = some (.int .i64 (i : Int)) := hv ⟨7, .data⟩ (by simp) rfl
                  clear hv hx
                  refine wpOp_step rfl (fun K hK => ?_)
                  go_simp
                  exact hK _ _ ⟨rfl, HJ.out⟩
                · obtain rfl := Option.some.inj ho.symm
                  clear ho
                  have d8 : fr0.tmps[(42 : Nat)]? = some (.pointer (some ⟨b2, ob2 + i, none⟩)) := hv ⟨8, .data⟩ (by simp) rfl
                  clear hv hx
                  refine wpOp_step rfl (fun K hK => ?_)
                  go_simp
                  exact hK _ _ ⟨rfl, HJ.out⟩
                · obtain rfl := Option.some.inj ho.symm
                  clear ho
                  have d4 : fr0.tmps[(38 : Nat)]? = some (.int .i64 A) := hv ⟨4, .data⟩ (by simp) rfl
                  have d9 : fr0.tmps[(43 : Nat)]? = some (.int .i64 A2) := hv ⟨9, .data⟩ (by simp) rfl
                  clear hv hx
                  refine wpOp_step rfl (fun K hK => ?_)
                  go_simp
                  exact hK _ _ ⟨rfl, HJ.out⟩
              case he =>
                intro w' hJ
                simp only [putF, valsAt, Nat.reduceAdd, Nat.zero_add, List.getD_cons_zero, List.getD_cons_succ, Act.put, List.setIfInBounds_toArray, List.set_cons_succ, List.set_cons_zero]
                rw [hJ]
                clear hJ
                go_wp2_with fail
                go_ret
                exact ⟨by rw [HNE.out]; rfl, HB1.out.trans (HBR.out.drew.mono HB1.out.size)⟩
          · obtain rfl : i = n := by omega
            have HEQ : Hid (D = true) := Lib.hid (by
              rw [← HK.out.2.2]
              refine decide_eq_true (List.ext_getElem (by rw [HK.out.1, HK.out.2.1]) fun q h1 h2 => ?_)
              have := hd q (by rw [← HK.out.1]; exact h1)
              rw [List.getD_eq_getElem?_getD, List.getD_eq_getElem?_getD, List.getElem?_eq_getElem h1, List.getElem?_eq_getElem h2] at this
              exact this)
            clear hd
            go_wp2_with fail
            go_ret
            exact ⟨by rw [HEQ.out]; rfl, HB1.out.trans (hbr.mono HB1.out.size)⟩
      · rw [hDn h3]
        have k3 : ((n : Int) != (n2 : Int)) = true := by simp; omega
        clear hDn h1 k1 k2
        go_enter Try.func39, Try.ntmps39
        go_upto_region 1 with fail
        simp only [HW.out.1]
        rw [HW.out.2]
        go_wp2_with fail
        go_ret
        exact ⟨rfl, HB1.out⟩
    · have k2 : (em == em2) = false := by simpa using h2
      have k2' : (em != em2) = true := by simpa using h2
      rw [k2]
      simp only [Bool.true_and, Bool.false_and]
      clear hDn h1 k1
      go_enter Try.func39, Try.ntmps39
      go_upto_region 1 with fail
      simp only [HW.out.1]
      rw [HW.out.2]
      go_wp2_with fail
      go_ret
      exact ⟨rfl, HB1.out⟩
  · have k1 : (nv == nv2) = false := by simpa using h1
    have k1' : (nv != nv2) = true := by simpa using h1
    rw [k1]
    simp only [Bool.false_and]
    clear hDn
    go_enter Try.func39, Try.ntmps39
    go_upto_region 1 with fail
    simp only [HW.out.1]
    rw [HW.out.2]
    go_wp2_with fail
    go_ret
    exact ⟨rfl, HB1.out⟩

end Go.Proofs.Ythnefcafhpioaaa
