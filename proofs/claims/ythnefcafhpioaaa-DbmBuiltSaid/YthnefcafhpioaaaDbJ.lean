/-
  Equal rows of numbers (gnomonhelp.Longs); the document's halves and differences.
-/
import Derived.Test.YthnefcafhpioaaaDbI
namespace Go.Proofs.Ythnefcafhpioaaa
open Go Go.RowKit Go.Shelf

set_option maxRecDepth 100000 in
set_option maxHeartbeats 4000000 in
theorem longs_any (l k : List Int) (a a2 : Option Addr) (c c2 : Nat) (w : World) (h1 : MAt w l a) (h2 : MAt w k a2) (hl : l.length ≤ maxLen) :
    Calls Try.prog 32 #[.slice a l.length c, .slice a2 k.length c2] w fun e w' => e = .returned (.bool (decide (l = k))) ∧ Below w.heap.size w w' := by
  by_cases hn : l.length = k.length
  · obtain ⟨n, hln⟩ : ∃ n, l.length = n := ⟨_, rfl⟩
    obtain ⟨D, hD⟩ : ∃ D, decide (l = k) = D := ⟨_, rfl⟩
    have HK := Lib.hid (And.intro hln (And.intro (hn.symm.trans hln) hD))
    have HM := Lib.hid (And.intro h1 h2)
    have hnm : n ≤ maxLen := by omega
    have HNM := Lib.hid hnm
    have hkk : k.length = n := HK.out.2.1
    rw [hln, hkk, hD]
    clear hD h1 h2 hn hl hnm hln hkk
    go_enter Try.func32, Try.ntmps32
    go_wp2_with fail
    go_loopw [5] (fun x wr => ∃ i : Nat, x = .int .i64 i ∧ i ≤ n ∧ (∀ q, q < i → l.getD q 0 = k.getD q 0) ∧ Below w.heap.size w wr) (fun x _ => n - (intOf x).toNat)
    case atStart => exact ⟨0, rfl, by omega, fun q hq => by omega, Below.refl _ _⟩
    case round =>
      obtain ⟨i, rfl, hi, hd, hbr⟩ := hrel
      by_cases hlt : i < n
      · have hbi : (i : Int) + 1 ≤ 9223372036854775807 := by have := HNM.out; unfold maxLen at this; omega
        obtain ⟨b, ob, rfl, hc1⟩ := mat_at (HM.out.1.next hbr) (i := i) (by rw [HK.out.1]; exact hlt)
        obtain ⟨b2, ob2, rfl, hc2⟩ := mat_at (HM.out.2.next hbr) (i := i) (by rw [HK.out.2.1]; exact hlt)
        obtain ⟨A, hA⟩ : ∃ A, l.getD i 0 = A := ⟨_, rfl⟩
        obtain ⟨A2, hA2⟩ : ∃ A, k.getD i 0 = A := ⟨_, rfl⟩
        rw [hA] at hc1
        rw [hA2] at hc2
        have HA := Lib.hid (And.intro hc1 hc2)
        have HBR := Lib.hid hbr
        have hil : (i : Int) < (n : Int) := by omega
        by_cases he : A = A2
        · have hne : (A != A2) = false := by simp [he]
          have HNX : Hid (∀ q, q < i + 1 → l.getD q 0 = k.getD q 0) := Lib.hid fun q hq => by
            rcases Nat.lt_or_ge q i with h | h
            · exact hd q h
            · obtain rfl : q = i := by omega
              rw [hA, hA2, he]
          clear hc1 hc2 hA hA2 hbr hd he
          go_upto_region 6 with fail
          refine wp_region_any (by kernel_rfl) ?_
          refine wpAny_vals [17, 18, 19, 20, 21, 22, 23, 24, 25] [.slice (some ⟨b, ob, none⟩) n c, .int .i64 (i : Int), .pointer (some ⟨b, ob + i, none⟩), .int .i64 A, .slice (some ⟨b2, ob2, none⟩) n c2, .int .i64 (i : Int), .pointer (some ⟨b2, ob2 + i, none⟩), .int .i64 A2, .bool false] (fun w' => w' = wr.drew) rfl (by kernel_rfl) (by decide) (by kernel_rfl) ?hs ?he ?hj
          case hj => exact rfl
          case hs =>
            intro qi qo ho fr0 hv hx w' hJ
            have hi : qi < 9 := (Array.getElem?_eq_some_iff.1 ho).1
            have cA : w'.cell? ⟨b, ob + i, none⟩ = some (.int .i64 A) := by rw [hJ]; exact HA.out.1
            have cB : w'.cell? ⟨b2, ob2 + i, none⟩ = some (.int .i64 A2) := by rw [hJ]; exact HA.out.2
            have HJ := Lib.hid hJ
            clear hJ
            have hcase : qi = 0 ∨ qi = 1 ∨ qi = 2 ∨ qi = 3 ∨ qi = 4 ∨ qi = 5 ∨ qi = 6 ∨ qi = 7 ∨ qi = 8 := by omega
            clear hi
            rcases hcase with rfl | rfl | rfl | rfl | rfl | rfl | rfl | rfl | rfl
            · obtain rfl := Option.some.inj ho.symm
              clear ho
              have x0 : fr0.tmps[(0 : Nat)]? = some (.slice (some ⟨b, ob, none⟩) n c) := hx 0 (by decide)
              clear hv hx
              refine wpOp_step rfl (fun K hK => ?_)
              go_simp
              exact hK _ _ ⟨rfl, HJ.out⟩
            · obtain rfl := Option.some.inj ho.symm
              clear ho
              have x5 : fr0.tmps[(5 : Nat)]? = some (.int .i64 (i : Int)) := hx 5 (by decide)
              clear hv hx
              refine wpOp_step rfl (fun K hK => ?_)
              go_simp
              exact hK _ _ ⟨rfl, HJ.out⟩
            · obtain rfl := Option.some.inj ho.symm
              clear ho
              have d0 : fr0.tmps[(17 : Nat)]? = some (.slice (some ⟨b, ob, none⟩) n c) := hv ⟨0, .data⟩ (by simp) rfl
              have d1 : fr0.tmps[(18 : Nat)]? = some (.int .i64 (i : Int)) := hv ⟨1, .data⟩ (by simp) rfl
              clear hv hx
              refine wpOp_step rfl (fun K hK => ?_)
              go_simp
              exact hK _ _ ⟨rfl, HJ.out⟩
            · obtain rfl := Option.some.inj ho.symm
              clear ho
              have d2 : fr0.tmps[(19 : Nat)]? = some (.pointer (some ⟨b, ob + i, none⟩)) := hv ⟨2, .data⟩ (by simp) rfl
              clear hv hx
              refine wpOp_step rfl (fun K hK => ?_)
              go_simp
              exact hK _ _ ⟨rfl, HJ.out⟩
            · obtain rfl := Option.some.inj ho.symm
              clear ho
              have x1 : fr0.tmps[(1 : Nat)]? = some (.slice (some ⟨b2, ob2, none⟩) n c2) := hx 1 (by decide)
              clear hv hx
              refine wpOp_step rfl (fun K hK => ?_)
              go_simp
              exact hK _ _ ⟨rfl, HJ.out⟩
            · obtain rfl := Option.some.inj ho.symm
              clear ho
              have x5 : fr0.tmps[(5 : Nat)]? = some (.int .i64 (i : Int)) := hx 5 (by decide)
              clear hv hx
              refine wpOp_step rfl (fun K hK => ?_)
              go_simp
              exact hK _ _ ⟨rfl, HJ.out⟩
            · obtain rfl := Option.some.inj ho.symm
              clear ho
              have d4 : fr0.tmps[(21 : Nat)]? = some (.slice (some ⟨b2, ob2, none⟩) n c2) := hv ⟨4, .data⟩ (by simp) rfl
              have d5 : fr0.tmps[(22 : Nat)]? = some (.int .i64 (i : Int)) := hv ⟨5, .data⟩ (by simp) rfl
              clear hv hx
              refine wpOp_step rfl (fun K hK => ?_)
              go_simp
              exact hK _ _ ⟨rfl, HJ.out⟩
            · obtain rfl := Option.some.inj ho.symm
              clear ho
              have d6 : fr0.tmps[(23 : Nat)]? = some (.pointer (some ⟨b2, ob2 + i, none⟩)) := hv ⟨6, .data⟩ (by simp) rfl
              clear hv hx
              refine wpOp_step rfl (fun K hK => ?_)
              go_simp
              exact hK _ _ ⟨rfl, HJ.out⟩
            · obtain rfl := Option.some.inj ho.symm
              clear ho
              have d3 : fr0.tmps[(20 : Nat)]? = some (.int .i64 A) := hv ⟨3, .data⟩ (by simp) rfl
              have d7 : fr0.tmps[(24 : Nat)]? = some (.int .i64 A2) := hv ⟨7, .data⟩ (by simp) rfl
              clear hv hx
              refine wpOp_step rfl (fun K hK => ?_)
              go_simp
              exact hK _ _ ⟨rfl, HJ.out⟩
          case he =>
            intro w' hJ
            simp only [putF, valsAt, Nat.reduceAdd, Nat.zero_add, List.getD_cons_zero, List.getD_cons_succ, Act.put, List.setIfInBounds_toArray, List.set_cons_succ, List.set_cons_zero]
            rw [hJ]
            clear hJ
            go_wp2_with fail
            go_roundw
            case rel => exact ⟨i + 1, by go_num, by omega, HNX.out, HBR.out.drew⟩
            case measure => simp [intOf]; omega
        · have hne : (A != A2) = true := by simpa using he
          have HNE : Hid (D = false) := Lib.hid (by rw [← HK.out.2.2]; exact decide_eq_false fun e => he (by rw [← hA, ← hA2, e]))
          clear hc1 hc2 hA hA2 hbr hd he
          go_upto_region 6 with fail
          refine wp_region_any (by kernel_rfl) ?_
          refine wpAny_vals [17, 18, 19, 20, 21, 22, 23, 24, 25] [.slice (some ⟨b, ob, none⟩) n c, .int .i64 (i : Int), .pointer (some ⟨b, ob + i, none⟩), .int .i64 A, .slice (some ⟨b2, ob2, none⟩) n c2, .int .i64 (i : Int), .pointer (some ⟨b2, ob2 + i, none⟩), .int .i64 A2, .bool true] (fun w' => w' = wr.drew) rfl (by kernel_rfl) (by decide) (by kernel_rfl) ?hs ?he ?hj
          case hj => exact rfl
          case hs =>
            intro qi qo ho fr0 hv hx w' hJ
            have hi : qi < 9 := (Array.getElem?_eq_some_iff.1 ho).1
            have cA : w'.cell? ⟨b, ob + i, none⟩ = some (.int .i64 A) := by rw [hJ]; exact HA.out.1
            have cB : w'.cell? ⟨b2, ob2 + i, none⟩ = some (.int .i64 A2) := by rw [hJ]; exact HA.out.2
            have HJ := Lib.hid hJ
            clear hJ
            have hcase : qi = 0 ∨ qi = 1 ∨ qi = 2 ∨ qi = 3 ∨ qi = 4 ∨ qi = 5 ∨ qi = 6 ∨ qi = 7 ∨ qi = 8 := by omega
            clear hi
            rcases hcase with rfl | rfl | rfl | rfl | rfl | rfl | rfl | rfl | rfl
            · obtain rfl := Option.some.inj ho.symm
              clear ho
              have x0 : fr0.tmps[(0 : Nat)]? = some (.slice (some ⟨b, ob, none⟩) n c) := hx 0 (by decide)
              clear hv hx
              refine wpOp_step rfl (fun K hK => ?_)
              go_simp
              exact hK _ _ ⟨rfl, HJ.out⟩
            · obtain rfl := Option.some.inj ho.symm
              clear ho
              have x5 : fr0.tmps[(5 : Nat)]? = some (.int .i64 (i : Int)) := hx 5 (by decide)
              clear hv hx
              refine wpOp_step rfl (fun K hK => ?_)
              go_simp
              exact hK _ _ ⟨rfl, HJ.out⟩
            · obtain rfl := Option.some.inj ho.symm
              clear ho
              have d0 : fr0.tmps[(17 : Nat)]? = some (.slice (some ⟨b, ob, none⟩) n c) := hv ⟨0, .data⟩ (by simp) rfl
              have d1 : fr0.tmps[(18 : Nat)]? = some (.int .i64 (i : Int)) := hv ⟨1, .data⟩ (by simp) rfl
              clear hv hx
              refine wpOp_step rfl (fun K hK => ?_)
              go_simp
              exact hK _ _ ⟨rfl, HJ.out⟩
            · obtain rfl := Option.some.inj ho.symm
              clear ho
              have d2 : fr0.tmps[(19 : Nat)]? = some (.pointer (some ⟨b, ob + i, none⟩)) := hv ⟨2, .data⟩ (by simp) rfl
              clear hv hx
              refine wpOp_step rfl (fun K hK => ?_)
              go_simp
              exact hK _ _ ⟨rfl, HJ.out⟩
            · obtain rfl := Option.some.inj ho.symm
              clear ho
              have x1 : fr0.tmps[(1 : Nat)]? = some (.slice (some ⟨b2, ob2, none⟩) n c2) := hx 1 (by decide)
              clear hv hx
              refine wpOp_step rfl (fun K hK => ?_)
              go_simp
              exact hK _ _ ⟨rfl, HJ.out⟩
            · obtain rfl := Option.some.inj ho.symm
              clear ho
              have x5 : fr0.tmps[(5 : Nat)]? = some (.int .i64 (i : Int)) := hx 5 (by decide)
              clear hv hx
              refine wpOp_step rfl (fun K hK => ?_)
              go_simp
              exact hK _ _ ⟨rfl, HJ.out⟩
            · obtain rfl := Option.some.inj ho.symm
              clear ho
              have d4 : fr0.tmps[(21 : Nat)]? = some (.slice (some ⟨b2, ob2, none⟩) n c2) := hv ⟨4, .data⟩ (by simp) rfl
              have d5 : fr0.tmps[(22 : Nat)]? = some (.int .i64 (i : Int)) := hv ⟨5, .data⟩ (by simp) rfl
              clear hv hx
              refine wpOp_step rfl (fun K hK => ?_)
              go_simp
              exact hK _ _ ⟨rfl, HJ.out⟩
            · obtain rfl := Option.some.inj ho.symm
              clear ho
              have d6 : fr0.tmps[(23 : Nat)]? = some (.pointer (some ⟨b2, ob2 + i, none⟩)) := hv ⟨6, .data⟩ (by simp) rfl
              clear hv hx
              refine wpOp_step rfl (fun K hK => ?_)
              go_simp
              exact hK _ _ ⟨rfl, HJ.out⟩
            · obtain rfl := Option.some.inj ho.symm
              clear ho
              have d3 : fr0.tmps[(20 : Nat)]? = some (.int .i64 A) := hv ⟨3, .data⟩ (by simp) rfl
              have d7 : fr0.tmps[(24 : Nat)]? = some (.int .i64 A2) := hv ⟨7, .data⟩ (by simp) rfl
              clear hv hx
              refine wpOp_step rfl (fun K hK => ?_)
              go_simp
              exact hK _ _ ⟨rfl, HJ.out⟩
          case he =>
            intro w' hJ
            simp only [putF, valsAt, Nat.reduceAdd, Nat.zero_add, List.getD_cons_zero, List.getD_cons_succ, Act.put, List.setIfInBounds_toArray, List.set_cons_succ, List.set_cons_zero]
            rw [hJ]
            clear hJ
            go_wp2_with fail
            go_ret
            exact ⟨by rw [HNE.out]; rfl, HBR.out.drew⟩
      · obtain rfl : i = n := by omega
        have HEQ : Hid (D = true) := Lib.hid (by
          rw [← HK.out.2.2]
          refine decide_eq_true (List.ext_getElem (by rw [HK.out.1, HK.out.2.1]) fun q h1 h2 => ?_)
          have := hd q (by rw [← HK.out.1]; exact h1)
          rw [List.getD_eq_getElem?_getD, List.getD_eq_getElem?_getD, List.getElem?_eq_getElem h1, List.getElem?_eq_getElem h2] at this
          exact this)
        clear hd
        go_wp2_with fail
        go_ret
        exact ⟨by rw [HEQ.out]; rfl, hbr⟩
  · have e : decide (l = k) = false := decide_eq_false fun e => hn (by rw [e])
    rw [e]
    obtain ⟨n, hln⟩ : ∃ n, l.length = n := ⟨_, rfl⟩
    obtain ⟨m, hkn⟩ : ∃ n, k.length = n := ⟨_, rfl⟩
    rw [hln, hkn] at hn ⊢
    have hne : ((n : Int) != (m : Int)) = true := by simp; omega
    clear h1 h2 hl hln hkn e
    go_enter Try.func32, Try.ntmps32
    go_wp2_with fail
    go_ret
    exact ⟨rfl, Below.refl _ _⟩

/-- A number, or its negative. -/
def sgA (a : Int) (neg : Bool) : Int := if neg then -a else a
set_option maxRecDepth 100000 in
set_option maxHeartbeats 4000000 in
theorem rhf_any (a : Int) (neg : Bool) (ha : isI a) (w : World) : Calls Try.prog 59 #[.int .i64 a, .bool neg] w fun e w' => e = .returned (.tuple #[.int .i64 (sgA a neg / 2), .int .i64 (sgA a neg % 2)]) ∧ w' = w := by
  unfold isI at ha
  obtain ⟨d, hd⟩ : ∃ d, a.tdiv 2 = d := ⟨_, rfl⟩
  obtain ⟨r, hr⟩ : ∃ d, a.tmod 2 = d := ⟨_, rfl⟩
  have f1 : a = 2 * d + r := by have := Int.mul_tdiv_add_tmod a 2; rw [hd, hr] at this; omega
  have f2 : (0 ≤ a → r = 0 ∨ r = 1) ∧ (a ≤ 0 → r = 0 ∨ r = -1) := by
    refine ⟨fun h => ?_, fun h => ?_⟩
    · rw [← hr, Int.tmod_eq_emod_of_nonneg h]; omega
    · have e : a = -(-a) := by omega
      rw [← hr, e, Int.neg_tmod, Int.tmod_eq_emod_of_nonneg (by omega)]; omega
  obtain ⟨H, hH⟩ : ∃ H, sgA a neg / 2 = H := ⟨_, rfl⟩
  obtain ⟨L, hL⟩ : ∃ H, sgA a neg % 2 = H := ⟨_, rfl⟩
  rw [hH, hL]
  unfold sgA at hH hL
  have w1 : wrap64 d = d := IntWalk.wrap64_in _ (by omega)
  have w2 : IntKind.i64.wrap d = d := isI_wrap (by unfold isI; omega)
  cases neg with
  | false =>
    simp only [Bool.false_eq_true, if_false] at hH hL
    by_cases hr0 : r < 0
    · have e1 : L = 1 := by omega
      have e2 : IntKind.i64.wrap (d - 1) = H := by rw [isI_wrap (by unfold isI; omega)]; omega
      have e3 : wrap64 (d - 1) = H := by rw [IntWalk.wrap64_in _ (by omega)]; omega
      have e4 : d - 1 = H := by omega
      have e5 : wrap64 H = H := IntWalk.wrap64_in _ (by omega)
      have e6 : IntKind.i64.wrap H = H := isI_wrap (by unfold isI; omega)
      subst e1
      clear hH hL f1 f2 ha
      go_enter Try.func59, Try.ntmps59
      go_wp2
      all_goals (refine bodyPost_ret (results_tmp2 rfl _ _ _) rfl ?_; exact ⟨rfl, rfl⟩)
    · have hr1 : 0 ≤ r := by omega
      have e1 : L = r := by omega
      have e2 : H = d := by omega
      subst e1
      subst e2
      clear hH hL f1 f2 ha
      go_enter Try.func59, Try.ntmps59
      go_wp2
      all_goals (refine bodyPost_ret (results_tmp2 rfl _ _ _) rfl ?_; exact ⟨rfl, rfl⟩)
  | true =>
    simp only [if_true] at hH hL
    have n1 : wrap64 (-d) = -d := IntWalk.wrap64_in _ (by omega)
    have n2 : IntKind.i64.wrap (-d) = -d := isI_wrap (by unfold isI; omega)
    have n3 : wrap64 (-r) = -r := IntWalk.wrap64_in _ (by omega)
    have n4 : IntKind.i64.wrap (-r) = -r := isI_wrap (by unfold isI; omega)
    by_cases hr0 : 0 < r
    · have e1 : L = 1 := by omega
      have e2 : IntKind.i64.wrap (-d - 1) = H := by rw [isI_wrap (by unfold isI; omega)]; omega
      have e3 : wrap64 (-d - 1) = H := by rw [IntWalk.wrap64_in _ (by omega)]; omega
      have e4 : -d - 1 = H := by omega
      have e5 : wrap64 H = H := IntWalk.wrap64_in _ (by omega)
      have e6 : IntKind.i64.wrap H = H := isI_wrap (by unfold isI; omega)
      subst e1
      clear hH hL f1 f2 ha
      go_enter Try.func59, Try.ntmps59
      go_wp2
      all_goals (refine bodyPost_ret (results_tmp2 rfl _ _ _) rfl ?_; exact ⟨rfl, rfl⟩)
    · have hr1 : r ≤ 0 := by omega
      have e1 : L = -r := by omega
      have e2 : H = -d := by omega
      subst e1
      subst e2
      clear hH hL f1 f2 ha
      go_enter Try.func59, Try.ntmps59
      go_wp2
      all_goals (refine bodyPost_ret (results_tmp2 rfl _ _ _) rfl ?_; exact ⟨rfl, rfl⟩)

theorem wr2 (x : Int) (h : -9223372036854775808 ≤ x) (h2 : x ≤ 9223372036854775807) : IntKind.i64.wrap x = x ∧ wrap64 x = x := ⟨isI_wrap ⟨h, h2⟩, IntWalk.wrap64_in _ (by omega)⟩
/-- V(i) - V(j), where it is no further than 2^62; and else on which side it is. -/
def diffV (x : List Int) (i j : Nat) : Int × Int := if 4611686018427387904 < vS x i - vS x j then (0, 1) else if vS x i - vS x j < -4611686018427387904 then (0, -1) else (vS x i - vS x j, 0)
theorem vS_sgn (x : List Int) (i : Nat) : vS x i = sgA (x.getD (i / 2) 0) (i % 2 == 1) := by
  unfold vS sgA
  rcases Nat.mod_two_eq_zero_or_one i with h | h <;> simp [h]
theorem vS_neg (x : List Int) (i : Nat) : -(vS x i) = sgA (x.getD (i / 2) 0) (i % 2 == 0) := by
  unfold vS sgA
  rcases Nat.mod_two_eq_zero_or_one i with h | h <;> simp [h]
set_option maxRecDepth 100000 in
set_option maxHeartbeats 8000000 in
theorem diff_any (x : List Int) (hx : ∀ v ∈ x, isI v) (a : Option Addr) (c : Nat) (i j : Nat) (hi : i < 2 * x.length) (hj : j < 2 * x.length) (hn : x.length ≤ 64) (w : World) (hm : MAt w x a) :
    Calls Try.prog 31 #[.slice a x.length c, .int .i64 i, .int .i64 j] w fun e w' => e = .returned (.tuple #[.int .i64 (diffV x i j).1, .int .i64 (diffV x i j).2]) ∧ Below w.heap.size w w' := by
  obtain ⟨b, ob, rfl, hc1⟩ := mat_at hm (i := i / 2) (by omega)
  obtain ⟨b', ob', e, hc2⟩ := mat_at hm (i := j / 2) (by omega)
  cases e
  have hisI : ∀ k, isI (x.getD k 0) := fun k => by
    rw [List.getD_eq_getElem?_getD]
    rcases Nat.lt_or_ge k x.length with h' | h'
    · rw [List.getElem?_eq_getElem h']; exact hx _ (List.getElem_mem h')
    · rw [List.getElem?_eq_none h']; unfold isI; decide
  have hq1 : (i : Int).tdiv 2 = ((i / 2 : Nat) : Int) := by rw [Int.tdiv_eq_ediv_of_nonneg (by omega)]; omega
  have hq2 : (j : Int).tdiv 2 = ((j / 2 : Nat) : Int) := by rw [Int.tdiv_eq_ediv_of_nonneg (by omega)]; omega
  have hr1 : ((i : Int) % 2 == 1) = (i % 2 == 1) := by
    rcases Nat.mod_two_eq_zero_or_one i with h | h
    · rw [h, show (i : Int) % 2 = 0 by omega]; rfl
    · rw [h, show (i : Int) % 2 = 1 by omega]; rfl
  have hr2 : ((j : Int) % 2 == 0) = (j % 2 == 0) := by
    rcases Nat.mod_two_eq_zero_or_one j with h | h
    · rw [h, show (j : Int) % 2 = 0 by omega]; rfl
    · rw [h, show (j : Int) % 2 = 1 by omega]; rfl
  have h1 := fun w => rhf_any (x.getD (i / 2) 0) (i % 2 == 1) (hisI _) w
  have h2 := fun w => rhf_any (x.getD (j / 2) 0) (j % 2 == 0) (hisI _) w
  rw [← vS_sgn] at h1
  rw [← vS_neg] at h2
  have v1 := vS_isI hx i
  have v2 := vS_isI hx j
  obtain ⟨D, hD⟩ : ∃ D, diffV x i j = D := ⟨_, rfl⟩
  unfold diffV at hD
  obtain ⟨P, hP⟩ : ∃ P, vS x i = P := ⟨_, rfl⟩
  obtain ⟨Q, hQ⟩ : ∃ P, vS x j = P := ⟨_, rfl⟩
  have hDD : diffV x i j = D := by unfold diffV; exact hD
  rw [hDD]
  rw [hP, hQ] at hD
  rw [hP] at h1 v1
  rw [hQ] at h2 v2
  obtain ⟨A, hA⟩ : ∃ A, x.getD (i / 2) 0 = A := ⟨_, rfl⟩
  obtain ⟨A2, hA2⟩ : ∃ A, x.getD (j / 2) 0 = A := ⟨_, rfl⟩
  obtain ⟨s1, hs1⟩ : ∃ s, (i % 2 == 1) = s := ⟨_, rfl⟩
  obtain ⟨s2, hs2⟩ : ∃ s, (j % 2 == 0) = s := ⟨_, rfl⟩
  obtain ⟨i2, hi2⟩ : ∃ k, i / 2 = k := ⟨_, rfl⟩
  obtain ⟨j2, hj2⟩ : ∃ k, j / 2 = k := ⟨_, rfl⟩
  obtain ⟨n, hnn⟩ : ∃ n, x.length = n := ⟨_, rfl⟩
  rw [hA] at h1 hc1
  rw [hA2] at h2 hc2
  rw [hs1] at h1 hr1
  rw [hs2] at h2 hr2
  rw [hi2] at hc1 hq1
  rw [hj2] at hc2 hq2
  rw [hnn] at hi hj ⊢
  have in1 : (i2 : Int) < (n : Int) := by omega
  have jn1 : (j2 : Int) < (n : Int) := by omega
  have HA := Lib.hid (And.intro hc1 hc2)
  have HQ := Lib.hid (And.intro hq1 (And.intro hq2 (And.intro (isI_wrap (x := (i2 : Int)) (by unfold isI; omega)) (isI_wrap (x := (j2 : Int)) (by unfold isI; omega)))))
  obtain ⟨p1, hp1⟩ : ∃ k, P / 2 = k := ⟨_, rfl⟩
  obtain ⟨p0, hp0⟩ : ∃ k, P % 2 = k := ⟨_, rfl⟩
  obtain ⟨q1, hq1'⟩ : ∃ k, -Q / 2 = k := ⟨_, rfl⟩
  obtain ⟨q0, hq0⟩ : ∃ k, -Q % 2 = k := ⟨_, rfl⟩
  simp only [hp1, hp0] at h1
  simp only [hq1', hq0] at h2
  have g1 : P = 2 * p1 + p0 ∧ (p0 = 0 ∨ p0 = 1) := by omega
  have g2 : -Q = 2 * q1 + q0 ∧ (q0 = 0 ∨ q0 = 1) := by omega
  have HHA := Lib.hid (And.intro h1 h2)
  have HD := Lib.hid (And.intro hD (And.intro g1 (And.intro g2 (And.intro v1 v2))))
  clear hc1 hc2 hq1 hq2 hm hx hisI hA hA2 hs1 hs2 hi2 hj2 hnn hi hj hn hP hQ hD hDD h1 h2 hp1 hp0 hq1' hq0 g1 g2 v1 v2
  go_enter Try.func31, Try.ntmps31
  go_upto_region 1 with fail
  refine wp_region_any (by kernel_rfl) ?_
  refine wpAny_valsB [16, 17, 18, 19, 20, 21, 22, 23, 24, 25, 8, 9] [.slice (some ⟨b, ob, none⟩) n c, .int .i64 (i : Int), .int .i64 (i2 : Int), .pointer (some ⟨b, ob + i2, none⟩), .int .i64 A, .slice (some ⟨b, ob, none⟩) n c, .int .i64 (j : Int), .int .i64 (j2 : Int), .pointer (some ⟨b, ob + j2, none⟩), .int .i64 A2, .int .i64 A, .int .i64 A2] (fun w' => w' = w.drew) rfl (by kernel_rfl) (by decide) (by kernel_rfl) ?hs ?he ?hj
  case hj => exact rfl
  case hs =>
    intro qi qo ho fr0 hv hx w' hJ
    have hi : qi < 12 := (Array.getElem?_eq_some_iff.1 ho).1
    have cA : w'.cell? ⟨b, ob + i2, none⟩ = some (.int .i64 A) := by rw [hJ]; exact HA.out.1
    have cB : w'.cell? ⟨b, ob + j2, none⟩ = some (.int .i64 A2) := by rw [hJ]; exact HA.out.2
    have q1 := HQ.out.1
    have q2 := HQ.out.2.1
    have q3 := HQ.out.2.2.1
    have q4 := HQ.out.2.2.2
    have HJ := Lib.hid hJ
    clear hJ
    have hcase : qi = 0 ∨ qi = 1 ∨ qi = 2 ∨ qi = 3 ∨ qi = 4 ∨ qi = 5 ∨ qi = 6 ∨ qi = 7 ∨ qi = 8 ∨ qi = 9 ∨ qi = 10 ∨ qi = 11 := by omega
    clear hi
    rcases hcase with rfl | rfl | rfl | rfl | rfl | rfl | rfl | rfl | rfl | rfl | rfl | rfl
    · obtain rfl := Option.some.inj ho.symm
      clear ho
      have x0 : fr0.tmps[(0 : Nat)]? = some (.slice (some ⟨b, ob, none⟩) n c) := hx 0 (by decide)
      clear hv hx
      refine wpOp_step rfl (fun K hK => ?_)
      go_simp
      exact hK _ _ ⟨rfl, HJ.out⟩
    · obtain rfl := Option.some.inj ho.symm
      clear ho
      have x1 : fr0.tmps[(1 : Nat)]? = some (.int .i64 (i : Int)) := hx 1 (by decide)
      clear hv hx
      refine wpOp_step rfl (fun K hK => ?_)
      go_simp
      exact hK _ _ ⟨rfl, HJ.out⟩
    · obtain rfl := Option.some.inj ho.symm
      clear ho
      have d1 : fr0.tmps[(17 : Nat)]? = some (.int .i64 (i : Int)) := hv ⟨1, .data⟩ (by simp) rfl
      clear hv hx
      refine wpOp_step rfl (fun K hK => ?_)
      go_simp
      exact hK _ _ ⟨rfl, HJ.out⟩
    · obtain rfl := Option.some.inj ho.symm
      clear ho
      have d0 : fr0.tmps[(16 : Nat)]? = some (.slice (some ⟨b, ob, none⟩) n c) := hv ⟨0, .data⟩ (by simp) rfl
      have d2 : fr0.tmps[(18 : Nat)]? = some (.int .i64 (i2 : Int)) := hv ⟨2, .data⟩ (by simp) rfl
      clear hv hx
      refine wpOp_step rfl (fun K hK => ?_)
      go_simp
      exact hK _ _ ⟨rfl, HJ.out⟩
    · obtain rfl := Option.some.inj ho.symm
      clear ho
      have d3 : fr0.tmps[(19 : Nat)]? = some (.pointer (some ⟨b, ob + i2, none⟩)) := hv ⟨3, .data⟩ (by simp) rfl
      clear hv hx
      refine wpOp_step rfl (fun K hK => ?_)
      go_simp
      exact hK _ _ ⟨rfl, HJ.out⟩
    · obtain rfl := Option.some.inj ho.symm
      clear ho
      have x0 : fr0.tmps[(0 : Nat)]? = some (.slice (some ⟨b, ob, none⟩) n c) := hx 0 (by decide)
      clear hv hx
      refine wpOp_step rfl (fun K hK => ?_)
      go_simp
      exact hK _ _ ⟨rfl, HJ.out⟩
    · obtain rfl := Option.some.inj ho.symm
      clear ho
      have x2 : fr0.tmps[(2 : Nat)]? = some (.int .i64 (j : Int)) := hx 2 (by decide)
      clear hv hx
      refine wpOp_step rfl (fun K hK => ?_)
      go_simp
      exact hK _ _ ⟨rfl, HJ.out⟩
    · obtain rfl := Option.some.inj ho.symm
      clear ho
      have d6 : fr0.tmps[(22 : Nat)]? = some (.int .i64 (j : Int)) := hv ⟨6, .data⟩ (by simp) rfl
      clear hv hx
      refine wpOp_step rfl (fun K hK => ?_)
      go_simp
      exact hK _ _ ⟨rfl, HJ.out⟩
    · obtain rfl := Option.some.inj ho.symm
      clear ho
      have d5 : fr0.tmps[(21 : Nat)]? = some (.slice (some ⟨b, ob, none⟩) n c) := hv ⟨5, .data⟩ (by simp) rfl
      have d7 : fr0.tmps[(23 : Nat)]? = some (.int .i64 (j2 : Int)) := hv ⟨7, .data⟩ (by simp) rfl
      clear hv hx
      refine wpOp_step rfl (fun K hK => ?_)
      go_simp
      exact hK _ _ ⟨rfl, HJ.out⟩
    · obtain rfl := Option.some.inj ho.symm
      clear ho
      have d8 : fr0.tmps[(24 : Nat)]? = some (.pointer (some ⟨b, ob + j2, none⟩)) := hv ⟨8, .data⟩ (by simp) rfl
      clear hv hx
      refine wpOp_step rfl (fun K hK => ?_)
      go_simp
      exact hK _ _ ⟨rfl, HJ.out⟩
    · obtain rfl := Option.some.inj ho.symm
      clear ho
      have d4 : fr0.tmps[(20 : Nat)]? = some (.int .i64 A) := hv ⟨4, .data⟩ (by simp) rfl
      clear hv hx
      refine wpOp_step rfl (fun K hK => ?_)
      go_simp
      exact hK _ _ ⟨rfl, HJ.out⟩
    · obtain rfl := Option.some.inj ho.symm
      clear ho
      have d9 : fr0.tmps[(25 : Nat)]? = some (.int .i64 A2) := hv ⟨9, .data⟩ (by simp) rfl
      clear hv hx
      refine wpOp_step rfl (fun K hK => ?_)
      go_simp
      exact hK _ _ ⟨rfl, HJ.out⟩
  case he =>
    intro w' hJ
    simp only [putF, valsAt, Nat.reduceAdd, Nat.zero_add, List.getD_cons_zero, List.getD_cons_succ, Act.put, List.setIfInBounds_toArray, List.set_cons_succ, List.set_cons_zero]
    rw [hJ]
    clear hJ
    go_upto_region 4 with (go_at_call 59; first | ((with_reducible refine (HHA.out.1 _).mono ?_); rintro e w2 ⟨rfl, rfl⟩) | ((with_reducible refine (HHA.out.2 _).mono ?_); rintro e w2 ⟨rfl, rfl⟩))
    obtain ⟨hD, ⟨g1, g1'⟩, ⟨g2, g2'⟩, v1, v2⟩ := HD.out
    have b1 : -4611686018427387904 ≤ p1 ∧ p1 ≤ 4611686018427387904 := by omega
    have b2 : -4611686018427387904 ≤ q1 ∧ q1 ≤ 4611686018427387904 := by omega
    clear HD HHA HA HQ in1 jn1 hr1 hr2
    by_cases c1 : 2305843009213693952 - q1 < p1
    · have e : D = (0, 1) := by rw [← hD, if_pos (by omega)]
      obtain ⟨m1, m2⟩ := wr2 (2305843009213693952 - q1) (by omega) (by omega)
      subst e
      clear hD g1 g1' g2 g2' v1 v2 b1 b2
      go_wp2_with fail
      all_goals (refine bodyPost_ret (results_tmp2 rfl _ _ _) rfl ?_; exact ⟨rfl, (Below.refl _ _).drew⟩)
    · have c1' : p1 ≤ 2305843009213693952 - q1 := by omega
      by_cases c2 : p1 < -2305843009213693953 - q1
      · have e : D = (0, -1) := by rw [← hD, if_neg (by omega), if_pos (by omega)]
        obtain ⟨m1, m2⟩ := wr2 (2305843009213693952 - q1) (by omega) (by omega)
        obtain ⟨m3, m4⟩ := wr2 (-2305843009213693953 - q1) (by omega) (by omega)
        subst e
        clear hD g1 g1' g2 g2' v1 v2 b1 b2 c1
        go_wp2_with fail
        all_goals (refine bodyPost_ret (results_tmp2 rfl _ _ _) rfl ?_; exact ⟨rfl, (Below.refl _ _).drew⟩)
      · have c2' : -2305843009213693953 - q1 ≤ p1 := by omega
        obtain ⟨h, hh⟩ : ∃ h, p1 + q1 = h := ⟨_, rfl⟩
        rcases g1' with rfl | rfl
        · rcases g2' with rfl | rfl
          · by_cases c3 : 2305843009213693952 < h
            · have e : D = (0, 1) := by rw [← hD, if_pos (by omega)]
              obtain ⟨m1, m2⟩ := wr2 (2305843009213693952 - q1) (by omega) (by omega)
              obtain ⟨m3, m4⟩ := wr2 (-2305843009213693953 - q1) (by clear m1 m2; omega) (by clear m1 m2; omega)
              obtain ⟨m5, m6⟩ := wr2 (p1 + q1) (by clear m1 m2 m3 m4; omega) (by clear m1 m2 m3 m4; omega)
              rw [hh] at m5 m6
              obtain ⟨m7, m8⟩ := wr2 h (by clear m1 m2 m3 m4 m5 m6; omega) (by clear m1 m2 m3 m4 m5 m6; omega)
              subst e
              clear hD g1 g2 v1 v2 b1 b2 c1 c2
              go_wp2_with fail
              all_goals (refine bodyPost_ret (results_tmp2 rfl _ _ _) rfl ?_; exact ⟨rfl, (Below.refl _ _).drew⟩)
            · have c3' : h ≤ 2305843009213693952 := by omega
              have k4 : h ≤ 2305843009213693952 := c3'
              by_cases c5 : h < -2305843009213693952
              · have e : D = (0, -1) := by rw [← hD, if_neg (by omega), if_pos (by omega)]
                obtain ⟨m1, m2⟩ := wr2 (2305843009213693952 - q1) (by omega) (by omega)
                obtain ⟨m3, m4⟩ := wr2 (-2305843009213693953 - q1) (by clear m1 m2; omega) (by clear m1 m2; omega)
                obtain ⟨m5, m6⟩ := wr2 (p1 + q1) (by clear m1 m2 m3 m4; omega) (by clear m1 m2 m3 m4; omega)
                rw [hh] at m5 m6
                obtain ⟨m7, m8⟩ := wr2 h (by clear m1 m2 m3 m4 m5 m6; omega) (by clear m1 m2 m3 m4 m5 m6; omega)
                subst e
                clear hD g1 g2 v1 v2 b1 b2 c1 c2
                go_wp2_with fail
                all_goals (refine bodyPost_ret (results_tmp2 rfl _ _ _) rfl ?_; exact ⟨rfl, (Below.refl _ _).drew⟩)
              · have c5' : -2305843009213693952 ≤ h := by omega
                have e : D = (2 * h + 0, 0) := by rw [← hD, if_neg (by omega), if_neg (by omega)]; congr 1; omega
                obtain ⟨n1, n2⟩ := wr2 (2 * h) (by omega) (by omega)
                obtain ⟨n3, n4⟩ := wr2 (2 * h + 0) (by clear n1 n2; omega) (by clear n1 n2; omega)
                obtain ⟨m1, m2⟩ := wr2 (2305843009213693952 - q1) (by clear n1 n2 n3 n4; omega) (by clear n1 n2 n3 n4; omega)
                obtain ⟨m3, m4⟩ := wr2 (-2305843009213693953 - q1) (by clear n1 n2 n3 n4 m1 m2; omega) (by clear n1 n2 n3 n4 m1 m2; omega)
                obtain ⟨m5, m6⟩ := wr2 (p1 + q1) (by clear n1 n2 n3 n4 m1 m2 m3 m4; omega) (by clear n1 n2 n3 n4 m1 m2 m3 m4; omega)
                rw [hh] at m5 m6
                obtain ⟨m7, m8⟩ := wr2 h (by clear n1 n2 n3 n4 m1 m2 m3 m4 m5 m6; omega) (by clear n1 n2 n3 n4 m1 m2 m3 m4 m5 m6; omega)
                subst e
                clear hD g1 g2 v1 v2 b1 b2 c1 c2
                go_wp2_with fail
                all_goals (refine bodyPost_ret (results_tmp2 rfl _ _ _) rfl ?_; exact ⟨rfl, (Below.refl _ _).drew⟩)
          · by_cases c3 : 2305843009213693952 < h
            · have e : D = (0, 1) := by rw [← hD, if_pos (by omega)]
              obtain ⟨m1, m2⟩ := wr2 (2305843009213693952 - q1) (by omega) (by omega)
              obtain ⟨m3, m4⟩ := wr2 (-2305843009213693953 - q1) (by clear m1 m2; omega) (by clear m1 m2; omega)
              obtain ⟨m5, m6⟩ := wr2 (p1 + q1) (by clear m1 m2 m3 m4; omega) (by clear m1 m2 m3 m4; omega)
              rw [hh] at m5 m6
              obtain ⟨m7, m8⟩ := wr2 h (by clear m1 m2 m3 m4 m5 m6; omega) (by clear m1 m2 m3 m4 m5 m6; omega)
              subst e
              clear hD g1 g2 v1 v2 b1 b2 c1 c2
              go_wp2_with fail
              all_goals (refine bodyPost_ret (results_tmp2 rfl _ _ _) rfl ?_; exact ⟨rfl, (Below.refl _ _).drew⟩)
            · have c3' : h ≤ 2305843009213693952 := by omega
              by_cases c4 : h = 2305843009213693952
              · have e : D = (0, 1) := by rw [← hD, if_pos (by omega)]
                have k4 : (h == 2305843009213693952) = true := by simp [c4]
                obtain ⟨m1, m2⟩ := wr2 (2305843009213693952 - q1) (by omega) (by omega)
                obtain ⟨m3, m4⟩ := wr2 (-2305843009213693953 - q1) (by clear m1 m2; omega) (by clear m1 m2; omega)
                obtain ⟨m5, m6⟩ := wr2 (p1 + q1) (by clear m1 m2 m3 m4; omega) (by clear m1 m2 m3 m4; omega)
                rw [hh] at m5 m6
                obtain ⟨m7, m8⟩ := wr2 h (by clear m1 m2 m3 m4 m5 m6; omega) (by clear m1 m2 m3 m4 m5 m6; omega)
                subst e
                clear hD g1 g2 v1 v2 b1 b2 c1 c2 c3
                go_wp2_with fail
                all_goals (refine bodyPost_ret (results_tmp2 rfl _ _ _) rfl ?_; exact ⟨rfl, (Below.refl _ _).drew⟩)
              · have k4 : (h == 2305843009213693952) = false := by simpa using c4
                by_cases c5 : h < -2305843009213693952
                · have e : D = (0, -1) := by rw [← hD, if_neg (by omega), if_pos (by omega)]
                  obtain ⟨m1, m2⟩ := wr2 (2305843009213693952 - q1) (by omega) (by omega)
                  obtain ⟨m3, m4⟩ := wr2 (-2305843009213693953 - q1) (by clear m1 m2; omega) (by clear m1 m2; omega)
                  obtain ⟨m5, m6⟩ := wr2 (p1 + q1) (by clear m1 m2 m3 m4; omega) (by clear m1 m2 m3 m4; omega)
                  rw [hh] at m5 m6
                  obtain ⟨m7, m8⟩ := wr2 h (by clear m1 m2 m3 m4 m5 m6; omega) (by clear m1 m2 m3 m4 m5 m6; omega)
                  subst e
                  clear hD g1 g2 v1 v2 b1 b2 c1 c2
                  go_wp2_with fail
                  all_goals (refine bodyPost_ret (results_tmp2 rfl _ _ _) rfl ?_; exact ⟨rfl, (Below.refl _ _).drew⟩)
                · have c5' : -2305843009213693952 ≤ h := by omega
                  have e : D = (2 * h + 1, 0) := by rw [← hD, if_neg (by omega), if_neg (by omega)]; congr 1; omega
                  obtain ⟨n1, n2⟩ := wr2 (2 * h) (by omega) (by omega)
                  obtain ⟨n3, n4⟩ := wr2 (2 * h + 1) (by clear n1 n2; omega) (by clear n1 n2; omega)
                  obtain ⟨m1, m2⟩ := wr2 (2305843009213693952 - q1) (by clear n1 n2 n3 n4; omega) (by clear n1 n2 n3 n4; omega)
                  obtain ⟨m3, m4⟩ := wr2 (-2305843009213693953 - q1) (by clear n1 n2 n3 n4 m1 m2; omega) (by clear n1 n2 n3 n4 m1 m2; omega)
                  obtain ⟨m5, m6⟩ := wr2 (p1 + q1) (by clear n1 n2 n3 n4 m1 m2 m3 m4; omega) (by clear n1 n2 n3 n4 m1 m2 m3 m4; omega)
                  rw [hh] at m5 m6
                  obtain ⟨m7, m8⟩ := wr2 h (by clear n1 n2 n3 n4 m1 m2 m3 m4 m5 m6; omega) (by clear n1 n2 n3 n4 m1 m2 m3 m4 m5 m6; omega)
                  subst e
                  clear hD g1 g2 v1 v2 b1 b2 c1 c2
                  go_wp2_with fail
                  all_goals (refine bodyPost_ret (results_tmp2 rfl _ _ _) rfl ?_; exact ⟨rfl, (Below.refl _ _).drew⟩)
        · rcases g2' with rfl | rfl
          · by_cases c3 : 2305843009213693952 < h
            · have e : D = (0, 1) := by rw [← hD, if_pos (by omega)]
              obtain ⟨m1, m2⟩ := wr2 (2305843009213693952 - q1) (by omega) (by omega)
              obtain ⟨m3, m4⟩ := wr2 (-2305843009213693953 - q1) (by clear m1 m2; omega) (by clear m1 m2; omega)
              obtain ⟨m5, m6⟩ := wr2 (p1 + q1) (by clear m1 m2 m3 m4; omega) (by clear m1 m2 m3 m4; omega)
              rw [hh] at m5 m6
              obtain ⟨m7, m8⟩ := wr2 h (by clear m1 m2 m3 m4 m5 m6; omega) (by clear m1 m2 m3 m4 m5 m6; omega)
              subst e
              clear hD g1 g2 v1 v2 b1 b2 c1 c2
              go_wp2_with fail
              all_goals (refine bodyPost_ret (results_tmp2 rfl _ _ _) rfl ?_; exact ⟨rfl, (Below.refl _ _).drew⟩)
            · have c3' : h ≤ 2305843009213693952 := by omega
              by_cases c4 : h = 2305843009213693952
              · have e : D = (0, 1) := by rw [← hD, if_pos (by omega)]
                have k4 : (h == 2305843009213693952) = true := by simp [c4]
                obtain ⟨m1, m2⟩ := wr2 (2305843009213693952 - q1) (by omega) (by omega)
                obtain ⟨m3, m4⟩ := wr2 (-2305843009213693953 - q1) (by clear m1 m2; omega) (by clear m1 m2; omega)
                obtain ⟨m5, m6⟩ := wr2 (p1 + q1) (by clear m1 m2 m3 m4; omega) (by clear m1 m2 m3 m4; omega)
                rw [hh] at m5 m6
                obtain ⟨m7, m8⟩ := wr2 h (by clear m1 m2 m3 m4 m5 m6; omega) (by clear m1 m2 m3 m4 m5 m6; omega)
                subst e
                clear hD g1 g2 v1 v2 b1 b2 c1 c2 c3
                go_wp2_with fail
                all_goals (refine bodyPost_ret (results_tmp2 rfl _ _ _) rfl ?_; exact ⟨rfl, (Below.refl _ _).drew⟩)
              · have k4 : (h == 2305843009213693952) = false := by simpa using c4
                by_cases c5 : h < -2305843009213693952
                · have e : D = (0, -1) := by rw [← hD, if_neg (by omega), if_pos (by omega)]
                  obtain ⟨m1, m2⟩ := wr2 (2305843009213693952 - q1) (by omega) (by omega)
                  obtain ⟨m3, m4⟩ := wr2 (-2305843009213693953 - q1) (by clear m1 m2; omega) (by clear m1 m2; omega)
                  obtain ⟨m5, m6⟩ := wr2 (p1 + q1) (by clear m1 m2 m3 m4; omega) (by clear m1 m2 m3 m4; omega)
                  rw [hh] at m5 m6
                  obtain ⟨m7, m8⟩ := wr2 h (by clear m1 m2 m3 m4 m5 m6; omega) (by clear m1 m2 m3 m4 m5 m6; omega)
                  subst e
                  clear hD g1 g2 v1 v2 b1 b2 c1 c2
                  go_wp2_with fail
                  all_goals (refine bodyPost_ret (results_tmp2 rfl _ _ _) rfl ?_; exact ⟨rfl, (Below.refl _ _).drew⟩)
                · have c5' : -2305843009213693952 ≤ h := by omega
                  have e : D = (2 * h + 1, 0) := by rw [← hD, if_neg (by omega), if_neg (by omega)]; congr 1; omega
                  obtain ⟨n1, n2⟩ := wr2 (2 * h) (by omega) (by omega)
                  obtain ⟨n3, n4⟩ := wr2 (2 * h + 1) (by clear n1 n2; omega) (by clear n1 n2; omega)
                  obtain ⟨m1, m2⟩ := wr2 (2305843009213693952 - q1) (by clear n1 n2 n3 n4; omega) (by clear n1 n2 n3 n4; omega)
                  obtain ⟨m3, m4⟩ := wr2 (-2305843009213693953 - q1) (by clear n1 n2 n3 n4 m1 m2; omega) (by clear n1 n2 n3 n4 m1 m2; omega)
                  obtain ⟨m5, m6⟩ := wr2 (p1 + q1) (by clear n1 n2 n3 n4 m1 m2 m3 m4; omega) (by clear n1 n2 n3 n4 m1 m2 m3 m4; omega)
                  rw [hh] at m5 m6
                  obtain ⟨m7, m8⟩ := wr2 h (by clear n1 n2 n3 n4 m1 m2 m3 m4 m5 m6; omega) (by clear n1 n2 n3 n4 m1 m2 m3 m4 m5 m6; omega)
                  subst e
                  clear hD g1 g2 v1 v2 b1 b2 c1 c2
                  go_wp2_with fail
                  all_goals (refine bodyPost_ret (results_tmp2 rfl _ _ _) rfl ?_; exact ⟨rfl, (Below.refl _ _).drew⟩)
          · obtain ⟨h1, hh1⟩ : ∃ k, h + 1 = k := ⟨_, rfl⟩
            by_cases c3 : 2305843009213693952 < h1
            · have e : D = (0, 1) := by rw [← hD, if_pos (by omega)]
              obtain ⟨m1, m2⟩ := wr2 (2305843009213693952 - q1) (by omega) (by omega)
              obtain ⟨m3, m4⟩ := wr2 (-2305843009213693953 - q1) (by clear m1 m2; omega) (by clear m1 m2; omega)
              obtain ⟨m5, m6⟩ := wr2 (p1 + q1) (by clear m1 m2 m3 m4; omega) (by clear m1 m2 m3 m4; omega)
              rw [hh] at m5 m6
              obtain ⟨m7, m8⟩ := wr2 h (by clear m1 m2 m3 m4 m5 m6; omega) (by clear m1 m2 m3 m4 m5 m6; omega)
              obtain ⟨m9, m10⟩ := wr2 (h + 1) (by clear m1 m2 m3 m4 m5 m6 m7 m8; omega) (by clear m1 m2 m3 m4 m5 m6 m7 m8; omega)
              rw [hh1] at m9 m10
              subst e
              clear hD g1 g2 v1 v2 b1 b2 c1 c2
              go_wp2_with fail
              all_goals (refine bodyPost_ret (results_tmp2 rfl _ _ _) rfl ?_; exact ⟨rfl, (Below.refl _ _).drew⟩)
            · have c3' : h1 ≤ 2305843009213693952 := by omega
              have k4 : h1 ≤ 2305843009213693952 := c3'
              by_cases c5 : h1 < -2305843009213693952
              · have e : D = (0, -1) := by rw [← hD, if_neg (by omega), if_pos (by omega)]
                obtain ⟨m1, m2⟩ := wr2 (2305843009213693952 - q1) (by omega) (by omega)
                obtain ⟨m3, m4⟩ := wr2 (-2305843009213693953 - q1) (by clear m1 m2; omega) (by clear m1 m2; omega)
                obtain ⟨m5, m6⟩ := wr2 (p1 + q1) (by clear m1 m2 m3 m4; omega) (by clear m1 m2 m3 m4; omega)
                rw [hh] at m5 m6
                obtain ⟨m7, m8⟩ := wr2 h (by clear m1 m2 m3 m4 m5 m6; omega) (by clear m1 m2 m3 m4 m5 m6; omega)
                obtain ⟨m9, m10⟩ := wr2 (h + 1) (by clear m1 m2 m3 m4 m5 m6 m7 m8; omega) (by clear m1 m2 m3 m4 m5 m6 m7 m8; omega)
                rw [hh1] at m9 m10
                subst e
                clear hD g1 g2 v1 v2 b1 b2 c1 c2
                go_wp2_with fail
                all_goals (refine bodyPost_ret (results_tmp2 rfl _ _ _) rfl ?_; exact ⟨rfl, (Below.refl _ _).drew⟩)
              · have c5' : -2305843009213693952 ≤ h1 := by omega
                have e : D = (2 * h1 + 0, 0) := by rw [← hD, if_neg (by omega), if_neg (by omega)]; congr 1; omega
                obtain ⟨n1, n2⟩ := wr2 (2 * h1) (by omega) (by omega)
                obtain ⟨n3, n4⟩ := wr2 (2 * h1 + 0) (by clear n1 n2; omega) (by clear n1 n2; omega)
                obtain ⟨m1, m2⟩ := wr2 (2305843009213693952 - q1) (by clear n1 n2 n3 n4; omega) (by clear n1 n2 n3 n4; omega)
                obtain ⟨m3, m4⟩ := wr2 (-2305843009213693953 - q1) (by clear n1 n2 n3 n4 m1 m2; omega) (by clear n1 n2 n3 n4 m1 m2; omega)
                obtain ⟨m5, m6⟩ := wr2 (p1 + q1) (by clear n1 n2 n3 n4 m1 m2 m3 m4; omega) (by clear n1 n2 n3 n4 m1 m2 m3 m4; omega)
                rw [hh] at m5 m6
                obtain ⟨m7, m8⟩ := wr2 h (by clear n1 n2 n3 n4 m1 m2 m3 m4 m5 m6; omega) (by clear n1 n2 n3 n4 m1 m2 m3 m4 m5 m6; omega)
                obtain ⟨m9, m10⟩ := wr2 (h + 1) (by clear n1 n2 n3 n4 m1 m2 m3 m4 m5 m6 m7 m8; omega) (by clear n1 n2 n3 n4 m1 m2 m3 m4 m5 m6 m7 m8; omega)
                rw [hh1] at m9 m10
                subst e
                clear hD g1 g2 v1 v2 b1 b2 c1 c2
                go_wp2_with fail
                all_goals (refine bodyPost_ret (results_tmp2 rfl _ _ _) rfl ?_; exact ⟨rfl, (Below.refl _ _).drew⟩)
end Go.Proofs.Ythnefcafhpioaaa
