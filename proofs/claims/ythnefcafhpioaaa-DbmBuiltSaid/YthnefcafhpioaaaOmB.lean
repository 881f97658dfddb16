/-
  The document's Check of octagons.
-/
import Derived.Test.YthnefcafhpioaaaDbB
namespace Go.Proofs.Ythnefcafhpioaaa
open Go Go.RowKit Go.Shelf

theorem ixw {i j K P T : Nat} (hK : K ≤ 128) (hi : i < K) (hj : j < K) (hP : i * K = P) (hT : P + j = T) : IntKind.i64.wrap ((i : Int) * (K : Int)) = (P : Int) ∧ wrap64 ((i : Int) * (K : Int)) = (P : Int) ∧ IntKind.i64.wrap ((P : Int) + (j : Int)) = (T : Int) ∧ wrap64 ((P : Int) + (j : Int)) = (T : Int) := by
  have h1 : i * K ≤ 128 * 128 := Nat.mul_le_mul (by omega) hK
  have m1 : (i : Int) * (K : Int) = (P : Int) := by rw [← hP]; exact (Int.natCast_mul i K).symm
  have m2 : (P : Int) + (j : Int) = (T : Int) := by omega
  have b1 : (P : Int) ≤ 16384 ∧ (0 : Int) ≤ (P : Int) := by omega
  have b2 : (T : Int) ≤ 16600 ∧ (0 : Int) ≤ (T : Int) := by omega
  rw [m1, m2]
  exact ⟨isI_wrap (by unfold isI; omega), IntWalk.wrap64_in _ (by omega), isI_wrap (by unfold isI; omega), IntWalk.wrap64_in _ (by omega)⟩
set_option maxRecDepth 100000 in
set_option maxHeartbeats 8000000 in
theorem rchk_any (x : Oc) (a : Option Addr) (c : Nat) (w : World) (hm : MAt w x.m a) :
    Calls Try.prog 11 #[ocV x a c] w fun e w' => e = .returned (.int .i64 (chkO x)) ∧ Below w.heap.size w w' := by
  obtain ⟨n, em, m⟩ := x
  simp only at hm
  obtain ⟨X, hX⟩ : ∃ X, w.heap.size = X := ⟨_, rfl⟩
  obtain ⟨L, hL⟩ : ∃ L, m.length = L := ⟨_, rfl⟩
  obtain ⟨W1, hW1⟩ : ∃ W, w.alloc (.cells #[.int .i64 n, .bool em, .slice a L c] 24) = W := ⟨_, rfl⟩
  have hx1 : Blk W1 X #[.int .i64 n, .bool em, .slice a L c] 24 := by rw [← hW1, ← hX]; exact Blk.new w _ _
  have hb1 : Below w.heap.size w W1 := by rw [← hW1]; exact (Below.refl _ w).alloc (Nat.le_refl _) _
  have x0 : W1.cell? ⟨X, 0, none⟩ = some (.int .i64 n) := hx1.cell 0
  have x1 : W1.cell? ⟨X, 1, none⟩ = some (.bool em) := hx1.cell 1
  have x2 : W1.cell? ⟨X, 2, none⟩ = some (.slice a L c) := hx1.cell 2
  have HB1 := Lib.hid hb1
  have HX := Lib.hid (And.intro hX hW1)
  have hm1 := hm.next hb1
  show Calls Try.prog 11 #[.agg #[.int .i64 n, .bool em, .slice a m.length c]] w _
  rw [hL]
  obtain ⟨R0, hR0⟩ : ∃ r, chkO ⟨n, em, m⟩ = r := ⟨_, rfl⟩
  rw [hR0]
  unfold chkO at hR0
  simp only [hL] at hR0
  by_cases h1 : n < 0
  · rw [if_pos (.inl h1)] at hR0
    subst hR0
    clear hX hW1 hx1 hb1 hm1 hm hL
    go_enter Try.func11, Try.ntmps11
    go_upto_region 1 with fail
    rw [HX.out.1, HX.out.2]
    go_wp2_with fail
    go_ret
    exact ⟨rfl, HB1.out⟩
  by_cases h2 : 64 < n
  · rw [if_pos (.inr (.inl h2))] at hR0
    subst hR0
    clear hX hW1 hx1 hb1 hm1 hm hL
    go_enter Try.func11, Try.ntmps11
    go_upto_region 1 with fail
    rw [HX.out.1, HX.out.2]
    go_wp2_with fail
    go_ret
    exact ⟨rfl, HB1.out⟩
  obtain ⟨N, hN⟩ : ∃ N : Nat, n = (N : Int) := ⟨n.toNat, by omega⟩
  subst hN
  have hN64 : N ≤ 64 := by omega
  cases em with
  | true =>
    by_cases h3 : L = 0
    · rw [if_neg (by simp; omega)] at hR0
      simp only [if_true] at hR0
      subst hR0
      subst h3
      clear hX hW1 hx1 hb1 hm1 hm hL hN64
      go_enter Try.func11, Try.ntmps11
      go_upto_region 1 with fail
      rw [HX.out.1, HX.out.2]
      go_wp2_with fail
      go_ret
      exact ⟨rfl, HB1.out⟩
    · rw [if_pos (.inr (.inr (.inl ⟨rfl, h3⟩)))] at hR0
      subst hR0
      have k3 : ((L : Int) != 0) = true := by simp; omega
      clear hX hW1 hx1 hb1 hm1 hm hL hN64
      go_enter Try.func11, Try.ntmps11
      go_upto_region 1 with fail
      rw [HX.out.1, HX.out.2]
      go_wp2_with fail
      go_ret
      exact ⟨rfl, HB1.out⟩
  | false =>
    have e4 : IntKind.i64.wrap (4 * (N : Int)) = ((4 * N : Nat) : Int) := by rw [isI_wrap (by unfold isI; omega)]; omega
    have hNN : N * N ≤ 64 * 64 := Nat.mul_le_mul hN64 hN64
    have hq : ((4 * N : Nat) : Int) * (N : Int) = ((4 * N * N : Nat) : Int) := (Int.natCast_mul (4 * N) N).symm
    have hqq : 4 * N * N = 4 * (N * N) := Nat.mul_assoc 4 N N
    obtain ⟨S, hS⟩ : ∃ S, 4 * N * N = S := ⟨_, rfl⟩
    rw [hS] at hq hqq
    have e5 : IntKind.i64.wrap (((4 * N : Nat) : Int) * (N : Int)) = (S : Int) := by rw [hq]; exact isI_wrap (by unfold isI; omega)
    have hS4 : 4 * (N : Int) * (N : Int) = (S : Int) := by rw [← hq, Int.natCast_mul]; rfl
    have e8 : wrap64 (4 * (N : Int) * (N : Int)) = (S : Int) := by rw [hS4]; exact IntWalk.wrap64_in _ (by omega)
    rw [hS4] at hR0
    by_cases h3 : L = S
    · rw [if_neg (by simp; omega)] at hR0
      simp only [Bool.false_eq_true, if_false] at hR0
      subst h3
      obtain ⟨K, hK⟩ : ∃ K, 2 * N = K := ⟨_, rfl⟩
      have hK1 : 2 * ((N : Int)).toNat = K := by omega
      rw [hK1] at hR0
      have eK : IntKind.i64.wrap (2 * (N : Int)) = (K : Int) := by rw [isI_wrap (by unfold isI; omega)]; omega
      have hKK : L = K * K := by rw [← hK, ← hS, Nat.mul_mul_mul_comm, Nat.mul_assoc]
      have hKl : K ≤ 128 := by omega
      have hL2 : L ≤ 16384 := by omega
      have k3 : ((L : Int) != (L : Int)) = false := by simp
      have HK := Lib.hid (And.intro hKK (And.intro hL (And.intro hm1 (And.intro hx1 (And.intro hR0 (And.intro hKl (And.intro hK hL2)))))))
      clear hX hW1 hb1 hm hm1 hx1 hL hKK hR0 hN64 hNN hq hqq hS hS4 hK1 hL2 h1 h2
      go_enter Try.func11, Try.ntmps11
      go_upto_region 1 with fail
      rw [HX.out.1, HX.out.2]
      go_upto_region 6 with fail
      clear e4 e5 e8 eK x0 x1 k3
      go_wp2_with fail
      go_loopw [4] (fun x wr => ∃ i : Nat, x = .int .i64 i ∧ i ≤ K ∧ (∀ p, p < i → ∀ q, q < K → okC K m p q = true) ∧ Below W1.heap.size W1 wr) (fun x _ => K - (intOf x).toNat)
      case atStart => exact ⟨0, rfl, by omega, fun p hp => by omega, Below.refl _ _⟩
      case round =>
        obtain ⟨i, rfl, hi, hd, hbr⟩ := hrel
        by_cases hlt : i < K
        · have HD := Lib.hid hd
          clear hd
          obtain ⟨wo, hwo⟩ : ∃ x, x = wr := ⟨_, rfl⟩
          subst hwo
          have HBO := Lib.hid hbr
          clear hbr
          go_wp2_with fail
          go_loopw [5] (fun x wr => ∃ j : Nat, x = .int .i64 j ∧ j ≤ K ∧ (∀ q, q < j → okC K m i q = true) ∧ Below W1.heap.size W1 wr) (fun x _ => K - (intOf x).toNat)
          case atStart => exact ⟨0, rfl, by omega, fun p hp => by omega, HBO.out⟩
          case round =>
            obtain ⟨j, rfl, hj, hd, hbr⟩ := hrel
            by_cases hjt : j < K
            · have hbi : (i : Int) + 1 ≤ 9223372036854775807 := by have := HK.out.2.2.2.2.2.1; omega
              have hbj : (j : Int) + 1 ≤ 9223372036854775807 := by have := HK.out.2.2.2.2.2.1; omega
              have hmr := HK.out.2.2.1.next hbr
              have hT := cell_lt hlt hjt
              rw [← HK.out.1] at hT
              obtain ⟨b, ob, rfl, hc⟩ := hmr.resolve_left (by have := HK.out.2.1; omega)
              have hlm := HK.out.2.1
              obtain ⟨C, hC⟩ : ∃ C, gM K m i j = C := ⟨_, rfl⟩
              have cT : wr.cell? ⟨b, ob + (i * K + j), none⟩ = some (.int .i64 C) := by
                have h := hc (i * K + j) (by omega)
                rw [h, ← hC]
                unfold gM
                rw [List.getD_eq_getElem?_getD, List.getElem?_eq_getElem (by omega)]
                rfl
              have hKe := HK.out.2.2.2.2.2.2.1
              have hai : acr i < K := by rw [← hKe] at hlt ⊢; exact acr_lt hlt
              have haj : acr j < K := by rw [← hKe] at hjt ⊢; exact acr_lt hjt
              have hR := cell_lt haj hai
              rw [← HK.out.1] at hR
              obtain ⟨D, hD⟩ : ∃ D, gM K m (acr j) (acr i) = D := ⟨_, rfl⟩
              have cR : wr.cell? ⟨b, ob + (acr j * K + acr i), none⟩ = some (.int .i64 D) := by
                have h := hc (acr j * K + acr i) (by omega)
                rw [h, ← hD]
                unfold gM
                rw [List.getD_eq_getElem?_getD, List.getElem?_eq_getElem (by omega)]
                rfl
              have hok : okC K m i j = (decide (isBound C) && (decide (i ≠ j) || decide (C = 0)) && decide (C = D)) := by unfold okC; rw [hC, hD]
              have HIS := Lib.hid (fun w => ris_any C w)
              have HAI := Lib.hid (fun w => racr_any i (by have := HK.out.2.2.2.2.2.1; omega) w)
              have HAJ := Lib.hid (fun w => racr_any j (by have := HK.out.2.2.2.2.2.1; omega) w)
              obtain ⟨I, hI⟩ : ∃ I, acr i = I := ⟨_, rfl⟩
              obtain ⟨J, hJ⟩ : ∃ I, acr j = I := ⟨_, rfl⟩
              rw [hI] at HAI cR hR hai
              rw [hJ] at HAJ cR hR haj
              have hPl : i * K ≤ 16384 := by have := HK.out.2.2.2.2.2.2.2; omega
              have hQl : J * K ≤ 16384 := by have := HK.out.2.2.2.2.2.2.2; omega
              have m1 : (i : Int) * (K : Int) = ((i * K : Nat) : Int) := (Int.natCast_mul i K).symm
              have m2 : (J : Int) * (K : Int) = ((J * K : Nat) : Int) := (Int.natCast_mul J K).symm
              obtain ⟨P, hP⟩ : ∃ P, i * K = P := ⟨_, rfl⟩
              obtain ⟨Q, hQ⟩ : ∃ P, J * K = P := ⟨_, rfl⟩
              rw [hP] at m1 cT hT hPl
              rw [hQ] at m2 cR hR hQl
              obtain ⟨T, hTe⟩ : ∃ T, P + j = T := ⟨_, rfl⟩
              obtain ⟨R, hRe⟩ : ∃ T, Q + I = T := ⟨_, rfl⟩
              rw [hTe] at cT hT
              rw [hRe] at cR hR
              have tl : (T : Int) < (L : Int) := by omega
              have rl : (R : Int) < (L : Int) := by omega
              obtain ⟨e1, e1', e2, e2'⟩ := ixw (K := K) HK.out.2.2.2.2.2.1 hlt hjt hP hTe
              obtain ⟨e6, e6', e7, e7'⟩ := ixw (K := K) HK.out.2.2.2.2.2.1 haj hai hQ hRe
              have x2r : wr.cell? ⟨X, 2, none⟩ = some (.slice (some ⟨b, ob, none⟩) L c) := (HK.out.2.2.2.1.below hbr HK.out.2.2.2.1.lt).cell 2
              have HX2 := Lib.hid x2r
              have HCR := Lib.hid cR
              have HDJ := Lib.hid (And.intro hd (And.intro hi (And.intro hjt hlt)))
              have HJR := Lib.hid hbr
              have HRR := Lib.hid (And.intro HK.out.2.2.2.2.1 hok)
              clear x2 hmr hc hd hbr hlm hC hD hKe hR hT hI hJ hP hQ hTe hRe m1 m2 hPl hQl cR hai haj hok
              go_upto_region 13 with fail
              clear cT e1 e2 e1' e2' x2r
              by_cases kb : isBound C
              · rw [decide_eq_true kb] at HIS HRR
                by_cases kij : i = j
                · have k1 : ((i : Int) == (j : Int)) = true := by simp; omega
                  have kd : decide (i ≠ j) = false := by simpa using kij
                  rw [kd] at HRR
                  by_cases kc : C = 0
                  · have k2 : (C != 0) = false := by simp [kc]
                    rw [decide_eq_true kc] at HRR
                    by_cases kd2 : C = D
                    · have k9 : (C != D) = false := by simp [kd2]
                      rw [decide_eq_true kd2] at HRR
                      have hnx : ∀ q, q < j + 1 → okC K m i q = true := fun q hq => by
                        rcases Nat.lt_or_ge q j with h | h
                        · exact HDJ.out.1 q h
                        · obtain rfl : q = j := by omega
                          rw [HRR.out.2]; rfl
                      have HNX := Lib.hid hnx
                      clear kb kd2 hnx kij kd kc
                      refine wp_region_any (by kernel_rfl) ?_
                      refine wpAny_vals [66, 67, 68, 69, 70, 71, 72, 73, 74, 75, 76, 77, 78, 79, 80, 81, 82, 83, 84, 85, 86, 87, 88, 89, 90, 91, 92] [.int .i64 C, .bool true, .bool false, .bool false, .int .i64 (i : Int), .int .i64 (j : Int), .bool true, .bool true, .int .i64 C, .bool false, .bool false, .bool false, .bool false, .int .i64 C, .pointer (some ⟨X, 2, none⟩), .slice (some ⟨b, ob, none⟩) L c, .int .i64 (j : Int), .int .i64 (J : Int), .int .i64 (K : Int), .int .i64 (Q : Int), .int .i64 (i : Int), .int .i64 (I : Int), .int .i64 (R : Int), .pointer (some ⟨b, ob + R, none⟩), .int .i64 D, .bool false, .bool false] (fun w' => w' = wr.drew) rfl (by kernel_rfl) (by decide) (by kernel_rfl) ?hs ?he ?hj
                      case hj => exact rfl
                      case hs =>
                        intro qi qo ho fr0 hv hx w' hJ
                        have hi : qi < 27 := (Array.getElem?_eq_some_iff.1 ho).1
                        have c2 : w'.cell? ⟨X, 2, none⟩ = some (.slice (some ⟨b, ob, none⟩) L c) := by rw [hJ]; exact HX2.out
                        have cR : w'.cell? ⟨b, ob + R, none⟩ = some (.int .i64 D) := by rw [hJ]; exact HCR.out
                        have HJ := Lib.hid hJ
                        clear hJ
                        have hcase : qi = 0 ∨ qi = 1 ∨ qi = 2 ∨ qi = 3 ∨ qi = 4 ∨ qi = 5 ∨ qi = 6 ∨ qi = 7 ∨ qi = 8 ∨ qi = 9 ∨ qi = 10 ∨ qi = 11 ∨ qi = 12 ∨ qi = 13 ∨ qi = 14 ∨ qi = 15 ∨ qi = 16 ∨ qi = 17 ∨ qi = 18 ∨ qi = 19 ∨ qi = 20 ∨ qi = 21 ∨ qi = 22 ∨ qi = 23 ∨ qi = 24 ∨ qi = 25 ∨ qi = 26 := by omega
                        clear hi
                        rcases hcase with rfl | rfl | rfl | rfl | rfl | rfl | rfl | rfl | rfl | rfl | rfl | rfl | rfl | rfl | rfl | rfl | rfl | rfl | rfl | rfl | rfl | rfl | rfl | rfl | rfl | rfl | rfl
                        · obtain rfl := Option.some.inj ho.symm
                          clear ho
                          have x6 : fr0.tmps[(6 : Nat)]? = some (.int .i64 C) := hx 6 (by decide)
                          clear hv hx
                          refine wpOp_step rfl (fun K hK => ?_)
                          go_simp
                          exact hK _ _ ⟨rfl, HJ.out⟩
                        · obtain rfl := Option.some.inj ho.symm
                          clear ho
                          have d0 : fr0.tmps[(66 : Nat)]? = some (.int .i64 C) := hv ⟨0, .data⟩ (by simp) rfl
                          clear hv hx
                          refine wpOp_step rfl (fun K hK => ?_)
                          go_simp
                          go_at_call 36
                          refine (HIS.out _).mono ?_
                          rintro e w2 ⟨rfl, rfl⟩
                          exact hK _ _ ⟨rfl, HJ.out⟩
                        · obtain rfl := Option.some.inj ho.symm
                          clear ho
                          have d1 : fr0.tmps[(67 : Nat)]? = some (.bool true) := hv ⟨1, .data⟩ (by simp) rfl
                          clear hv hx
                          refine wpOp_step rfl (fun K hK => ?_)
                          go_simp
                          exact hK _ _ ⟨rfl, HJ.out⟩
                        · obtain rfl := Option.some.inj ho.symm
                          clear ho
                          have d2 : fr0.tmps[(68 : Nat)]? = some (.bool false) := hv ⟨2, .data⟩ (by simp) rfl
                          clear hv hx
                          refine wpOp_step rfl (fun K hK => ?_)
                          go_simp
                          exact hK _ _ ⟨rfl, HJ.out⟩
                        · obtain rfl := Option.some.inj ho.symm
                          clear ho
                          have d3 : fr0.tmps[(69 : Nat)]? = some (.bool false) := hv ⟨3, .guard⟩ (by simp) rfl
                          have x4 : fr0.tmps[(4 : Nat)]? = some (.int .i64 (i : Int)) := hx 4 (by decide)
                          clear hv hx
                          refine wpOp_step rfl (fun K hK => ?_)
                          go_simp
                          exact hK _ _ ⟨rfl, HJ.out⟩
                        · obtain rfl := Option.some.inj ho.symm
                          clear ho
                          have d3 : fr0.tmps[(69 : Nat)]? = some (.bool false) := hv ⟨3, .guard⟩ (by simp) rfl
                          have x5 : fr0.tmps[(5 : Nat)]? = some (.int .i64 (j : Int)) := hx 5 (by decide)
                          clear hv hx
                          refine wpOp_step rfl (fun K hK => ?_)
                          go_simp
                          exact hK _ _ ⟨rfl, HJ.out⟩
                        · obtain rfl := Option.some.inj ho.symm
                          clear ho
                          have d4 : fr0.tmps[(70 : Nat)]? = some (.int .i64 (i : Int)) := hv ⟨4, .data⟩ (by simp) rfl
                          have d5 : fr0.tmps[(71 : Nat)]? = some (.int .i64 (j : Int)) := hv ⟨5, .data⟩ (by simp) rfl
                          have d3 : fr0.tmps[(69 : Nat)]? = some (.bool false) := hv ⟨3, .guard⟩ (by simp) rfl
                          clear hv hx
                          refine wpOp_step rfl (fun K hK => ?_)
                          go_simp
                          exact hK _ _ ⟨rfl, HJ.out⟩
                        · obtain rfl := Option.some.inj ho.symm
                          clear ho
                          have d6 : fr0.tmps[(72 : Nat)]? = some (.bool true) := hv ⟨6, .data⟩ (by simp) rfl
                          have d3 : fr0.tmps[(69 : Nat)]? = some (.bool false) := hv ⟨3, .guard⟩ (by simp) rfl
                          clear hv hx
                          refine wpOp_step rfl (fun K hK => ?_)
                          go_simp
                          exact hK _ _ ⟨rfl, HJ.out⟩
                        · obtain rfl := Option.some.inj ho.symm
                          clear ho
                          have d7 : fr0.tmps[(73 : Nat)]? = some (.bool true) := hv ⟨7, .guard⟩ (by simp) rfl
                          have x6 : fr0.tmps[(6 : Nat)]? = some (.int .i64 C) := hx 6 (by decide)
                          clear hv hx
                          refine wpOp_step rfl (fun K hK => ?_)
                          go_simp
                          exact hK _ _ ⟨rfl, HJ.out⟩
                        · obtain rfl := Option.some.inj ho.symm
                          clear ho
                          have d8 : fr0.tmps[(74 : Nat)]? = some (.int .i64 C) := hv ⟨8, .data⟩ (by simp) rfl
                          have d7 : fr0.tmps[(73 : Nat)]? = some (.bool true) := hv ⟨7, .guard⟩ (by simp) rfl
                          clear hv hx
                          refine wpOp_step rfl (fun K hK => ?_)
                          go_simp
                          exact hK _ _ ⟨rfl, HJ.out⟩
                        · obtain rfl := Option.some.inj ho.symm
                          clear ho
                          have d7 : fr0.tmps[(73 : Nat)]? = some (.bool true) := hv ⟨7, .data⟩ (by simp) rfl
                          have d9 : fr0.tmps[(75 : Nat)]? = some (.bool false) := hv ⟨9, .data⟩ (by simp) rfl
                          have d3 : fr0.tmps[(69 : Nat)]? = some (.bool false) := hv ⟨3, .guard⟩ (by simp) rfl
                          clear hv hx
                          refine wpOp_step rfl (fun K hK => ?_)
                          go_simp
                          exact hK _ _ ⟨rfl, HJ.out⟩
                        · obtain rfl := Option.some.inj ho.symm
                          clear ho
                          have d3 : fr0.tmps[(69 : Nat)]? = some (.bool false) := hv ⟨3, .data⟩ (by simp) rfl
                          have d10 : fr0.tmps[(76 : Nat)]? = some (.bool false) := hv ⟨10, .data⟩ (by simp) rfl
                          clear hv hx
                          refine wpOp_step rfl (fun K hK => ?_)
                          go_simp
                          exact hK _ _ ⟨rfl, HJ.out⟩
                        · obtain rfl := Option.some.inj ho.symm
                          clear ho
                          have d11 : fr0.tmps[(77 : Nat)]? = some (.bool false) := hv ⟨11, .data⟩ (by simp) rfl
                          clear hv hx
                          refine wpOp_step rfl (fun K hK => ?_)
                          go_simp
                          exact hK _ _ ⟨rfl, HJ.out⟩
                        · obtain rfl := Option.some.inj ho.symm
                          clear ho
                          have d12 : fr0.tmps[(78 : Nat)]? = some (.bool false) := hv ⟨12, .guard⟩ (by simp) rfl
                          have x6 : fr0.tmps[(6 : Nat)]? = some (.int .i64 C) := hx 6 (by decide)
                          clear hv hx
                          refine wpOp_step rfl (fun K hK => ?_)
                          go_simp
                          exact hK _ _ ⟨rfl, HJ.out⟩
                        · obtain rfl := Option.some.inj ho.symm
                          clear ho
                          have d12 : fr0.tmps[(78 : Nat)]? = some (.bool false) := hv ⟨12, .guard⟩ (by simp) rfl
                          have x1 : fr0.tmps[(1 : Nat)]? = some (.pointer (some ⟨X, 0, none⟩)) := hx 1 (by decide)
                          clear hv hx
                          refine wpOp_step rfl (fun K hK => ?_)
                          go_simp
                          exact hK _ _ ⟨rfl, HJ.out⟩
                        · obtain rfl := Option.some.inj ho.symm
                          clear ho
                          have d14 : fr0.tmps[(80 : Nat)]? = some (.pointer (some ⟨X, 2, none⟩)) := hv ⟨14, .data⟩ (by simp) rfl
                          have d12 : fr0.tmps[(78 : Nat)]? = some (.bool false) := hv ⟨12, .guard⟩ (by simp) rfl
                          clear hv hx
                          refine wpOp_step rfl (fun K hK => ?_)
                          go_simp
                          exact hK _ _ ⟨rfl, HJ.out⟩
                        · obtain rfl := Option.some.inj ho.symm
                          clear ho
                          have d12 : fr0.tmps[(78 : Nat)]? = some (.bool false) := hv ⟨12, .guard⟩ (by simp) rfl
                          have x5 : fr0.tmps[(5 : Nat)]? = some (.int .i64 (j : Int)) := hx 5 (by decide)
                          clear hv hx
                          refine wpOp_step rfl (fun K hK => ?_)
                          go_simp
                          exact hK _ _ ⟨rfl, HJ.out⟩
                        · obtain rfl := Option.some.inj ho.symm
                          clear ho
                          have d16 : fr0.tmps[(82 : Nat)]? = some (.int .i64 (j : Int)) := hv ⟨16, .data⟩ (by simp) rfl
                          have d12 : fr0.tmps[(78 : Nat)]? = some (.bool false) := hv ⟨12, .guard⟩ (by simp) rfl
                          clear hv hx
                          refine wpOp_step rfl (fun K hK => ?_)
                          go_simp
                          go_at_call 37
                          refine (HAJ.out _).mono ?_
                          rintro e w2 ⟨rfl, rfl⟩
                          exact hK _ _ ⟨rfl, HJ.out⟩
                        · obtain rfl := Option.some.inj ho.symm
                          clear ho
                          have d12 : fr0.tmps[(78 : Nat)]? = some (.bool false) := hv ⟨12, .guard⟩ (by simp) rfl
                          have x3 : fr0.tmps[(3 : Nat)]? = some (.int .i64 (K : Int)) := hx 3 (by decide)
                          clear hv hx
                          refine wpOp_step rfl (fun K hK => ?_)
                          go_simp
                          exact hK _ _ ⟨rfl, HJ.out⟩
                        · obtain rfl := Option.some.inj ho.symm
                          clear ho
                          have d17 : fr0.tmps[(83 : Nat)]? = some (.int .i64 (J : Int)) := hv ⟨17, .data⟩ (by simp) rfl
                          have d18 : fr0.tmps[(84 : Nat)]? = some (.int .i64 (K : Int)) := hv ⟨18, .data⟩ (by simp) rfl
                          have d12 : fr0.tmps[(78 : Nat)]? = some (.bool false) := hv ⟨12, .guard⟩ (by simp) rfl
                          clear hv hx
                          refine wpOp_step rfl (fun K hK => ?_)
                          go_simp
                          exact hK _ _ ⟨rfl, HJ.out⟩
                        · obtain rfl := Option.some.inj ho.symm
                          clear ho
                          have d12 : fr0.tmps[(78 : Nat)]? = some (.bool false) := hv ⟨12, .guard⟩ (by simp) rfl
                          have x4 : fr0.tmps[(4 : Nat)]? = some (.int .i64 (i : Int)) := hx 4 (by decide)
                          clear hv hx
                          refine wpOp_step rfl (fun K hK => ?_)
                          go_simp
                          exact hK _ _ ⟨rfl, HJ.out⟩
                        · obtain rfl := Option.some.inj ho.symm
                          clear ho
                          have d20 : fr0.tmps[(86 : Nat)]? = some (.int .i64 (i : Int)) := hv ⟨20, .data⟩ (by simp) rfl
                          have d12 : fr0.tmps[(78 : Nat)]? = some (.bool false) := hv ⟨12, .guard⟩ (by simp) rfl
                          clear hv hx
                          refine wpOp_step rfl (fun K hK => ?_)
                          go_simp
                          go_at_call 37
                          refine (HAI.out _).mono ?_
                          rintro e w2 ⟨rfl, rfl⟩
                          exact hK _ _ ⟨rfl, HJ.out⟩
                        · obtain rfl := Option.some.inj ho.symm
                          clear ho
                          have d19 : fr0.tmps[(85 : Nat)]? = some (.int .i64 (Q : Int)) := hv ⟨19, .data⟩ (by simp) rfl
                          have d21 : fr0.tmps[(87 : Nat)]? = some (.int .i64 (I : Int)) := hv ⟨21, .data⟩ (by simp) rfl
                          have d12 : fr0.tmps[(78 : Nat)]? = some (.bool false) := hv ⟨12, .guard⟩ (by simp) rfl
                          clear hv hx
                          refine wpOp_step rfl (fun K hK => ?_)
                          go_simp
                          exact hK _ _ ⟨rfl, HJ.out⟩
                        · obtain rfl := Option.some.inj ho.symm
                          clear ho
                          have d15 : fr0.tmps[(81 : Nat)]? = some (.slice (some ⟨b, ob, none⟩) L c) := hv ⟨15, .data⟩ (by simp) rfl
                          have d22 : fr0.tmps[(88 : Nat)]? = some (.int .i64 (R : Int)) := hv ⟨22, .data⟩ (by simp) rfl
                          have d12 : fr0.tmps[(78 : Nat)]? = some (.bool false) := hv ⟨12, .guard⟩ (by simp) rfl
                          clear hv hx
                          refine wpOp_step rfl (fun K hK => ?_)
                          go_simp
                          exact hK _ _ ⟨rfl, HJ.out⟩
                        · obtain rfl := Option.some.inj ho.symm
                          clear ho
                          have d23 : fr0.tmps[(89 : Nat)]? = some (.pointer (some ⟨b, ob + R, none⟩)) := hv ⟨23, .data⟩ (by simp) rfl
                          have d12 : fr0.tmps[(78 : Nat)]? = some (.bool false) := hv ⟨12, .guard⟩ (by simp) rfl
                          clear hv hx
                          refine wpOp_step rfl (fun K hK => ?_)
                          go_simp
                          exact hK _ _ ⟨rfl, HJ.out⟩
                        · obtain rfl := Option.some.inj ho.symm
                          clear ho
                          have d13 : fr0.tmps[(79 : Nat)]? = some (.int .i64 C) := hv ⟨13, .data⟩ (by simp) rfl
                          have d24 : fr0.tmps[(90 : Nat)]? = some (.int .i64 D) := hv ⟨24, .data⟩ (by simp) rfl
                          have d12 : fr0.tmps[(78 : Nat)]? = some (.bool false) := hv ⟨12, .guard⟩ (by simp) rfl
                          clear hv hx
                          refine wpOp_step rfl (fun K hK => ?_)
                          go_simp
                          exact hK _ _ ⟨rfl, HJ.out⟩
                        · obtain rfl := Option.some.inj ho.symm
                          clear ho
                          have d12 : fr0.tmps[(78 : Nat)]? = some (.bool false) := hv ⟨12, .data⟩ (by simp) rfl
                          have d25 : fr0.tmps[(91 : Nat)]? = some (.bool false) := hv ⟨25, .data⟩ (by simp) rfl
                          clear hv hx
                          refine wpOp_step rfl (fun K hK => ?_)
                          go_simp
                          exact hK _ _ ⟨rfl, HJ.out⟩
                      case he =>
                        intro w' hJ
                        simp only [putF, valsAt, Nat.reduceAdd, Nat.zero_add, List.getD_cons_zero, List.getD_cons_succ, Act.put, List.setIfInBounds_toArray, List.set_cons_succ, List.set_cons_zero]
                        rw [hJ]
                        clear hJ
                        go_wp2_with fail
                        go_roundw
                        case rel => exact ⟨j + 1, by go_num, by omega, HNX.out, HJR.out.drew⟩
                        case measure => simp [intOf]; omega
                    · have k9 : (C != D) = true := by simpa using kd2
                      rw [decide_eq_false kd2] at HRR
                      have hRb : R0 = 121 := by rw [← HRR.out.1, okM_false HDJ.out.2.2.2 HDJ.out.2.2.1 (by rw [HRR.out.2]; rfl)]; rfl
                      have HR0 := Lib.hid hRb
                      clear kb kd2 hRb kij kd kc
                      refine wp_region_any (by kernel_rfl) ?_
                      refine wpAny_vals [66, 67, 68, 69, 70, 71, 72, 73, 74, 75, 76, 77, 78, 79, 80, 81, 82, 83, 84, 85, 86, 87, 88, 89, 90, 91, 92] [.int .i64 C, .bool true, .bool false, .bool false, .int .i64 (i : Int), .int .i64 (j : Int), .bool true, .bool true, .int .i64 C, .bool false, .bool false, .bool false, .bool false, .int .i64 C, .pointer (some ⟨X, 2, none⟩), .slice (some ⟨b, ob, none⟩) L c, .int .i64 (j : Int), .int .i64 (J : Int), .int .i64 (K : Int), .int .i64 (Q : Int), .int .i64 (i : Int), .int .i64 (I : Int), .int .i64 (R : Int), .pointer (some ⟨b, ob + R, none⟩), .int .i64 D, .bool true, .bool true] (fun w' => w' = wr.drew) rfl (by kernel_rfl) (by decide) (by kernel_rfl) ?hs ?he ?hj
                      case hj => exact rfl
                      case hs =>
                        intro qi qo ho fr0 hv hx w' hJ
                        have hi : qi < 27 := (Array.getElem?_eq_some_iff.1 ho).1
                        have c2 : w'.cell? ⟨X, 2, none⟩ = some (.slice (some ⟨b, ob, none⟩) L c) := by rw [hJ]; exact HX2.out
                        have cR : w'.cell? ⟨b, ob + R, none⟩ = some (.int .i64 D) := by rw [hJ]; exact HCR.out
                        have HJ := Lib.hid hJ
                        clear hJ
                        have hcase : qi = 0 ∨ qi = 1 ∨ qi = 2 ∨ qi = 3 ∨ qi = 4 ∨ qi = 5 ∨ qi = 6 ∨ qi = 7 ∨ qi = 8 ∨ qi = 9 ∨ qi = 10 ∨ qi = 11 ∨ qi = 12 ∨ qi = 13 ∨ qi = 14 ∨ qi = 15 ∨ qi = 16 ∨ qi = 17 ∨ qi = 18 ∨ qi = 19 ∨ qi = 20 ∨ qi = 21 ∨ qi = 22 ∨ qi = 23 ∨ qi = 24 ∨ qi = 25 ∨ qi = 26 := by omega
                        clear hi
                        rcases hcase with rfl | rfl | rfl | rfl | rfl | rfl | rfl | rfl | rfl | rfl | rfl | rfl | rfl | rfl | rfl | rfl | rfl | rfl | rfl | rfl | rfl | rfl | rfl | rfl | rfl | rfl | rfl
                        · obtain rfl := Option.some.inj ho.symm
                          clear ho
                          have x6 : fr0.tmps[(6 : Nat)]? = some (.int .i64 C) := hx 6 (by decide)
                          clear hv hx
                          refine wpOp_step rfl (fun K hK => ?_)
                          go_simp
                          exact hK _ _ ⟨rfl, HJ.out⟩
                        · obtain rfl := Option.some.inj ho.symm
                          clear ho
                          have d0 : fr0.tmps[(66 : Nat)]? = some (.int .i64 C) := hv ⟨0, .data⟩ (by simp) rfl
                          clear hv hx
                          refine wpOp_step rfl (fun K hK => ?_)
                          go_simp
                          go_at_call 36
                          refine (HIS.out _).mono ?_
                          rintro e w2 ⟨rfl, rfl⟩
                          exact hK _ _ ⟨rfl, HJ.out⟩
                        · obtain rfl := Option.some.inj ho.symm
                          clear ho
                          have d1 : fr0.tmps[(67 : Nat)]? = some (.bool true) := hv ⟨1, .data⟩ (by simp) rfl
                          clear hv hx
                          refine wpOp_step rfl (fun K hK => ?_)
                          go_simp
                          exact hK _ _ ⟨rfl, HJ.out⟩
                        · obtain rfl := Option.some.inj ho.symm
                          clear ho
                          have d2 : fr0.tmps[(68 : Nat)]? = some (.bool false) := hv ⟨2, .data⟩ (by simp) rfl
                          clear hv hx
                          refine wpOp_step rfl (fun K hK => ?_)
                          go_simp
                          exact hK _ _ ⟨rfl, HJ.out⟩
                        · obtain rfl := Option.some.inj ho.symm
                          clear ho
                          have d3 : fr0.tmps[(69 : Nat)]? = some (.bool false) := hv ⟨3, .guard⟩ (by simp) rfl
                          have x4 : fr0.tmps[(4 : Nat)]? = some (.int .i64 (i : Int)) := hx 4 (by decide)
                          clear hv hx
                          refine wpOp_step rfl (fun K hK => ?_)
                          go_simp
                          exact hK _ _ ⟨rfl, HJ.out⟩
                        · obtain rfl := Option.some.inj ho.symm
                          clear ho
                          have d3 : fr0.tmps[(69 : Nat)]? = some (.bool false) := hv ⟨3, .guard⟩ (by simp) rfl
                          have x5 : fr0.tmps[(5 : Nat)]? = some (.int .i64 (j : Int)) := hx 5 (by decide)
                          clear hv hx
                          refine wpOp_step rfl (fun K hK => ?_)
                          go_simp
                          exact hK _ _ ⟨rfl, HJ.out⟩
                        · obtain rfl := Option.some.inj ho.symm
                          clear ho
                          have d4 : fr0.tmps[(70 : Nat)]? = some (.int .i64 (i : Int)) := hv ⟨4, .data⟩ (by simp) rfl
                          have d5 : fr0.tmps[(71 : Nat)]? = some (.int .i64 (j : Int)) := hv ⟨5, .data⟩ (by simp) rfl
                          have d3 : fr0.tmps[(69 : Nat)]? = some (.bool false) := hv ⟨3, .guard⟩ (by simp) rfl
                          clear hv hx
                          refine wpOp_step rfl (fun K hK => ?_)
                          go_simp
                          exact hK _ _ ⟨rfl, HJ.out⟩
                        · obtain rfl := Option.some.inj ho.symm
                          clear ho
                          have d6 : fr0.tmps[(72 : Nat)]? = some (.bool true) := hv ⟨6, .data⟩ (by simp) rfl
                          have d3 : fr0.tmps[(69 : Nat)]? = some (.bool false) := hv ⟨3, .guard⟩ (by simp) rfl
                          clear hv hx
                          refine wpOp_step rfl (fun K hK => ?_)
                          go_simp
                          exact hK _ _ ⟨rfl, HJ.out⟩
                        · obtain rfl := Option.some.inj ho.symm
                          clear ho
                          have d7 : fr0.tmps[(73 : Nat)]? = some (.bool true) := hv ⟨7, .guard⟩ (by simp) rfl
                          have x6 : fr0.tmps[(6 : Nat)]? = some (.int .i64 C) := hx 6 (by decide)
                          clear hv hx
                          refine wpOp_step rfl (fun K hK => ?_)
                          go_simp
                          exact hK _ _ ⟨rfl, HJ.out⟩
                        · obtain rfl := Option.some.inj ho.symm
                          clear ho
                          have d8 : fr0.tmps[(74 : Nat)]? = some (.int .i64 C) := hv ⟨8, .data⟩ (by simp) rfl
                          have d7 : fr0.tmps[(73 : Nat)]? = some (.bool true) := hv ⟨7, .guard⟩ (by simp) rfl
                          clear hv hx
                          refine wpOp_step rfl (fun K hK => ?_)
                          go_simp
                          exact hK _ _ ⟨rfl, HJ.out⟩
                        · obtain rfl := Option.some.inj ho.symm
                          clear ho
                          have d7 : fr0.tmps[(73 : Nat)]? = some (.bool true) := hv ⟨7, .data⟩ (by simp) rfl
                          have d9 : fr0.tmps[(75 : Nat)]? = some (.bool false) := hv ⟨9, .data⟩ (by simp) rfl
                          have d3 : fr0.tmps[(69 : Nat)]? = some (.bool false) := hv ⟨3, .guard⟩ (by simp) rfl
                          clear hv hx
                          refine wpOp_step rfl (fun K hK => ?_)
                          go_simp
                          exact hK _ _ ⟨rfl, HJ.out⟩
                        · obtain rfl := Option.some.inj ho.symm
                          clear ho
                          have d3 : fr0.tmps[(69 : Nat)]? = some (.bool false) := hv ⟨3, .data⟩ (by simp) rfl
                          have d10 : fr0.tmps[(76 : Nat)]? = some (.bool false) := hv ⟨10, .data⟩ (by simp) rfl
                          clear hv hx
                          refine wpOp_step rfl (fun K hK => ?_)
                          go_simp
                          exact hK _ _ ⟨rfl, HJ.out⟩
                        · obtain rfl := Option.some.inj ho.symm
                          clear ho
                          have d11 : fr0.tmps[(77 : Nat)]? = some (.bool false) := hv ⟨11, .data⟩ (by simp) rfl
                          clear hv hx
                          refine wpOp_step rfl (fun K hK => ?_)
                          go_simp
                          exact hK _ _ ⟨rfl, HJ.out⟩
                        · obtain rfl := Option.some.inj ho.symm
                          clear ho
                          have d12 : fr0.tmps[(78 : Nat)]? = some (.bool false) := hv ⟨12, .guard⟩ (by simp) rfl
                          have x6 : fr0.tmps[(6 : Nat)]? = some (.int .i64 C) := hx 6 (by decide)
                          clear hv hx
                          refine wpOp_step rfl (fun K hK => ?_)
                          go_simp
                          exact hK _ _ ⟨rfl, HJ.out⟩
                        · obtain rfl := Option.some.inj ho.symm
                          clear ho
                          have d12 : fr0.tmps[(78 : Nat)]? = some (.bool false) := hv ⟨12, .guard⟩ (by simp) rfl
                          have x1 : fr0.tmps[(1 : Nat)]? = some (.pointer (some ⟨X, 0, none⟩)) := hx 1 (by decide)
                          clear hv hx
                          refine wpOp_step rfl (fun K hK => ?_)
                          go_simp
                          exact hK _ _ ⟨rfl, HJ.out⟩
                        · obtain rfl := Option.some.inj ho.symm
                          clear ho
                          have d14 : fr0.tmps[(80 : Nat)]? = some (.pointer (some ⟨X, 2, none⟩)) := hv ⟨14, .data⟩ (by simp) rfl
                          have d12 : fr0.tmps[(78 : Nat)]? = some (.bool false) := hv ⟨12, .guard⟩ (by simp) rfl
                          clear hv hx
                          refine wpOp_step rfl (fun K hK => ?_)
                          go_simp
                          exact hK _ _ ⟨rfl, HJ.out⟩
                        · obtain rfl := Option.some.inj ho.symm
                          clear ho
                          have d12 : fr0.tmps[(78 : Nat)]? = some (.bool false) := hv ⟨12, .guard⟩ (by simp) rfl
                          have x5 : fr0.tmps[(5 : Nat)]? = some (.int .i64 (j : Int)) := hx 5 (by decide)
                          clear hv hx
                          refine wpOp_step rfl (fun K hK => ?_)
                          go_simp
                          exact hK _ _ ⟨rfl, HJ.out⟩
                        · obtain rfl := Option.some.inj ho.symm
                          clear ho
                          have d16 : fr0.tmps[(82 : Nat)]? = some (.int .i64 (j : Int)) := hv ⟨16, .data⟩ (by simp) rfl
                          have d12 : fr0.tmps[(78 : Nat)]? = some (.bool false) := hv ⟨12, .guard⟩ (by simp) rfl
                          clear hv hx
                          refine wpOp_step rfl (fun K hK => ?_)
                          go_simp
                          go_at_call 37
                          refine (HAJ.out _).mono ?_
                          rintro e w2 ⟨rfl, rfl⟩
                          exact hK _ _ ⟨rfl, HJ.out⟩
                        · obtain rfl := Option.some.inj ho.symm
                          clear ho
                          have d12 : fr0.tmps[(78 : Nat)]? = some (.bool false) := hv ⟨12, .guard⟩ (by simp) rfl
                          have x3 : fr0.tmps[(3 : Nat)]? = some (.int .i64 (K : Int)) := hx 3 (by decide)
                          clear hv hx
                          refine wpOp_step rfl (fun K hK => ?_)
                          go_simp
                          exact hK _ _ ⟨rfl, HJ.out⟩
                        · obtain rfl := Option.some.inj ho.symm
                          clear ho
                          have d17 : fr0.tmps[(83 : Nat)]? = some (.int .i64 (J : Int)) := hv ⟨17, .data⟩ (by simp) rfl
                          have d18 : fr0.tmps[(84 : Nat)]? = some (.int .i64 (K : Int)) := hv ⟨18, .data⟩ (by simp) rfl
                          have d12 : fr0.tmps[(78 : Nat)]? = some (.bool false) := hv ⟨12, .guard⟩ (by simp) rfl
                          clear hv hx
                          refine wpOp_step rfl (fun K hK => ?_)
                          go_simp
                          exact hK _ _ ⟨rfl, HJ.out⟩
                        · obtain rfl := Option.some.inj ho.symm
                          clear ho
                          have d12 : fr0.tmps[(78 : Nat)]? = some (.bool false) := hv ⟨12, .guard⟩ (by simp) rfl
                          have x4 : fr0.tmps[(4 : Nat)]? = some (.int .i64 (i : Int)) := hx 4 (by decide)
                          clear hv hx
                          refine wpOp_step rfl (fun K hK => ?_)
                          go_simp
                          exact hK _ _ ⟨rfl, HJ.out⟩
                        · obtain rfl := Option.some.inj ho.symm
                          clear ho
                          have d20 : fr0.tmps[(86 : Nat)]? = some (.int .i64 (i : Int)) := hv ⟨20, .data⟩ (by simp) rfl
                          have d12 : fr0.tmps[(78 : Nat)]? = some (.bool false) := hv ⟨12, .guard⟩ (by simp) rfl
                          clear hv hx
                          refine wpOp_step rfl (fun K hK => ?_)
                          go_simp
                          go_at_call 37
                          refine (HAI.out _).mono ?_
                          rintro e w2 ⟨rfl, rfl⟩
                          exact hK _ _ ⟨rfl, HJ.out⟩
                        · obtain rfl := Option.some.inj ho.symm
                          clear ho
                          have d19 : fr0.tmps[(85 : Nat)]? = some (.int .i64 (Q : Int)) := hv ⟨19, .data⟩ (by simp) rfl
                          have d21 : fr0.tmps[(87 : Nat)]? = some (.int .i64 (I : Int)) := hv ⟨21, .data⟩ (by simp) rfl
                          have d12 : fr0.tmps[(78 : Nat)]? = some (.bool false) := hv ⟨12, .guard⟩ (by simp) rfl
                          clear hv hx
                          refine wpOp_step rfl (fun K hK => ?_)
                          go_simp
                          exact hK _ _ ⟨rfl, HJ.out⟩
                        · obtain rfl := Option.some.inj ho.symm
                          clear ho
                          have d15 : fr0.tmps[(81 : Nat)]? = some (.slice (some ⟨b, ob, none⟩) L c) := hv ⟨15, .data⟩ (by simp) rfl
                          have d22 : fr0.tmps[(88 : Nat)]? = some (.int .i64 (R : Int)) := hv ⟨22, .data⟩ (by simp) rfl
                          have d12 : fr0.tmps[(78 : Nat)]? = some (.bool false) := hv ⟨12, .guard⟩ (by simp) rfl
                          clear hv hx
                          refine wpOp_step rfl (fun K hK => ?_)
                          go_simp
                          exact hK _ _ ⟨rfl, HJ.out⟩
                        · obtain rfl := Option.some.inj ho.symm
                          clear ho
                          have d23 : fr0.tmps[(89 : Nat)]? = some (.pointer (some ⟨b, ob + R, none⟩)) := hv ⟨23, .data⟩ (by simp) rfl
                          have d12 : fr0.tmps[(78 : Nat)]? = some (.bool false) := hv ⟨12, .guard⟩ (by simp) rfl
                          clear hv hx
                          refine wpOp_step rfl (fun K hK => ?_)
                          go_simp
                          exact hK _ _ ⟨rfl, HJ.out⟩
                        · obtain rfl := Option.some.inj ho.symm
                          clear ho
                          have d13 : fr0.tmps[(79 : Nat)]? = some (.int .i64 C) := hv ⟨13, .data⟩ (by simp) rfl
                          have d24 : fr0.tmps[(90 : Nat)]? = some (.int .i64 D) := hv ⟨24, .data⟩ (by simp) rfl
                          have d12 : fr0.tmps[(78 : Nat)]? = some (.bool false) := hv ⟨12, .guard⟩ (by simp) rfl
                          clear hv hx
                          refine wpOp_step rfl (fun K hK => ?_)
                          go_simp
                          exact hK _ _ ⟨rfl, HJ.out⟩
                        · obtain rfl := Option.some.inj ho.symm
                          clear ho
                          have d12 : fr0.tmps[(78 : Nat)]? = some (.bool false) := hv ⟨12, .data⟩ (by simp) rfl
                          have d25 : fr0.tmps[(91 : Nat)]? = some (.bool true) := hv ⟨25, .data⟩ (by simp) rfl
                          clear hv hx
                          refine wpOp_step rfl (fun K hK => ?_)
                          go_simp
                          exact hK _ _ ⟨rfl, HJ.out⟩
                      case he =>
                        intro w' hJ
                        simp only [putF, valsAt, Nat.reduceAdd, Nat.zero_add, List.getD_cons_zero, List.getD_cons_succ, Act.put, List.setIfInBounds_toArray, List.set_cons_succ, List.set_cons_zero]
                        rw [hJ]
                        clear hJ
                        go_wp2_with fail
                        go_ret
                        exact ⟨by rw [HR0.out]; rfl, HB1.out.trans (HJR.out.drew.mono HB1.out.size)⟩
                  · have k2 : (C != 0) = true := by simpa using kc
                    rw [decide_eq_false kc] at HRR
                    have hRb : R0 = 121 := by rw [← HRR.out.1, okM_false HDJ.out.2.2.2 HDJ.out.2.2.1 (by rw [HRR.out.2]; rfl)]; rfl
                    have HR0 := Lib.hid hRb
                    clear kb kij kc hRb kd
                    refine wp_region_any (by kernel_rfl) ?_
                    refine wpAny_vals [66, 67, 68, 69, 70, 71, 72, 73, 74, 75, 76, 77, 78, 79, 80, 81, 82, 83, 84, 85, 86, 87, 88, 89, 90, 91, 92] [.int .i64 C, .bool true, .bool false, .bool false, .int .i64 (i : Int), .int .i64 (j : Int), .bool true, .bool true, .int .i64 C, .bool true, .bool true, .bool true, .bool true, undef, undef, undef, undef, undef, undef, undef, undef, undef, undef, undef, undef, undef, .bool true] (fun w' => w' = wr.drew) rfl (by kernel_rfl) (by decide) (by kernel_rfl) ?hs ?he ?hj
                    case hj => exact rfl
                    case hs =>
                      intro qi qo ho fr0 hv hx w' hJ
                      have hi : qi < 27 := (Array.getElem?_eq_some_iff.1 ho).1
                      have c2 : w'.cell? ⟨X, 2, none⟩ = some (.slice (some ⟨b, ob, none⟩) L c) := by rw [hJ]; exact HX2.out
                      have cR : w'.cell? ⟨b, ob + R, none⟩ = some (.int .i64 D) := by rw [hJ]; exact HCR.out
                      have HJ := Lib.hid hJ
                      clear hJ
                      have hcase : qi = 0 ∨ qi = 1 ∨ qi = 2 ∨ qi = 3 ∨ qi = 4 ∨ qi = 5 ∨ qi = 6 ∨ qi = 7 ∨ qi = 8 ∨ qi = 9 ∨ qi = 10 ∨ qi = 11 ∨ qi = 12 ∨ qi = 13 ∨ qi = 14 ∨ qi = 15 ∨ qi = 16 ∨ qi = 17 ∨ qi = 18 ∨ qi = 19 ∨ qi = 20 ∨ qi = 21 ∨ qi = 22 ∨ qi = 23 ∨ qi = 24 ∨ qi = 25 ∨ qi = 26 := by omega
                      clear hi
                      rcases hcase with rfl | rfl | rfl | rfl | rfl | rfl | rfl | rfl | rfl | rfl | rfl | rfl | rfl | rfl | rfl | rfl | rfl | rfl | rfl | rfl | rfl | rfl | rfl | rfl | rfl | rfl | rfl
                      · obtain rfl := Option.some.inj ho.symm
                        clear ho
                        have x6 : fr0.tmps[(6 : Nat)]? = some (.int .i64 C) := hx 6 (by decide)
                        clear hv hx
                        refine wpOp_step rfl (fun K hK => ?_)
                        go_simp
                        exact hK _ _ ⟨rfl, HJ.out⟩
                      · obtain rfl := Option.some.inj ho.symm
                        clear ho
                        have d0 : fr0.tmps[(66 : Nat)]? = some (.int .i64 C) := hv ⟨0, .data⟩ (by simp) rfl
                        clear hv hx
                        refine wpOp_step rfl (fun K hK => ?_)
                        go_simp
                        go_at_call 36
                        refine (HIS.out _).mono ?_
                        rintro e w2 ⟨rfl, rfl⟩
                        exact hK _ _ ⟨rfl, HJ.out⟩
                      · obtain rfl := Option.some.inj ho.symm
                        clear ho
                        have d1 : fr0.tmps[(67 : Nat)]? = some (.bool true) := hv ⟨1, .data⟩ (by simp) rfl
                        clear hv hx
                        refine wpOp_step rfl (fun K hK => ?_)
                        go_simp
                        exact hK _ _ ⟨rfl, HJ.out⟩
                      · obtain rfl := Option.some.inj ho.symm
                        clear ho
                        have d2 : fr0.tmps[(68 : Nat)]? = some (.bool false) := hv ⟨2, .data⟩ (by simp) rfl
                        clear hv hx
                        refine wpOp_step rfl (fun K hK => ?_)
                        go_simp
                        exact hK _ _ ⟨rfl, HJ.out⟩
                      · obtain rfl := Option.some.inj ho.symm
                        clear ho
                        have d3 : fr0.tmps[(69 : Nat)]? = some (.bool false) := hv ⟨3, .guard⟩ (by simp) rfl
                        have x4 : fr0.tmps[(4 : Nat)]? = some (.int .i64 (i : Int)) := hx 4 (by decide)
                        clear hv hx
                        refine wpOp_step rfl (fun K hK => ?_)
                        go_simp
                        exact hK _ _ ⟨rfl, HJ.out⟩
                      · obtain rfl := Option.some.inj ho.symm
                        clear ho
                        have d3 : fr0.tmps[(69 : Nat)]? = some (.bool false) := hv ⟨3, .guard⟩ (by simp) rfl
                        have x5 : fr0.tmps[(5 : Nat)]? = some (.int .i64 (j : Int)) := hx 5 (by decide)
                        clear hv hx
                        refine wpOp_step rfl (fun K hK => ?_)
                        go_simp
                        exact hK _ _ ⟨rfl, HJ.out⟩
                      · obtain rfl := Option.some.inj ho.symm
                        clear ho
                        have d4 : fr0.tmps[(70 : Nat)]? = some (.int .i64 (i : Int)) := hv ⟨4, .data⟩ (by simp) rfl
                        have d5 : fr0.tmps[(71 : Nat)]? = some (.int .i64 (j : Int)) := hv ⟨5, .data⟩ (by simp) rfl
                        have d3 : fr0.tmps[(69 : Nat)]? = some (.bool false) := hv ⟨3, .guard⟩ (by simp) rfl
                        clear hv hx
                        refine wpOp_step rfl (fun K hK => ?_)
                        go_simp
                        exact hK _ _ ⟨rfl, HJ.out⟩
                      · obtain rfl := Option.some.inj ho.symm
                        clear ho
                        have d6 : fr0.tmps[(72 : Nat)]? = some (.bool true) := hv ⟨6, .data⟩ (by simp) rfl
                        have d3 : fr0.tmps[(69 : Nat)]? = some (.bool false) := hv ⟨3, .guard⟩ (by simp) rfl
                        clear hv hx
                        refine wpOp_step rfl (fun K hK => ?_)
                        go_simp
                        exact hK _ _ ⟨rfl, HJ.out⟩
                      · obtain rfl := Option.some.inj ho.symm
                        clear ho
                        have d7 : fr0.tmps[(73 : Nat)]? = some (.bool true) := hv ⟨7, .guard⟩ (by simp) rfl
                        have x6 : fr0.tmps[(6 : Nat)]? = some (.int .i64 C) := hx 6 (by decide)
                        clear hv hx
                        refine wpOp_step rfl (fun K hK => ?_)
                        go_simp
                        exact hK _ _ ⟨rfl, HJ.out⟩
                      · obtain rfl := Option.some.inj ho.symm
                        clear ho
                        have d8 : fr0.tmps[(74 : Nat)]? = some (.int .i64 C) := hv ⟨8, .data⟩ (by simp) rfl
                        have d7 : fr0.tmps[(73 : Nat)]? = some (.bool true) := hv ⟨7, .guard⟩ (by simp) rfl
                        clear hv hx
                        refine wpOp_step rfl (fun K hK => ?_)
                        go_simp
                        exact hK _ _ ⟨rfl, HJ.out⟩
                      · obtain rfl := Option.some.inj ho.symm
                        clear ho
                        have d7 : fr0.tmps[(73 : Nat)]? = some (.bool true) := hv ⟨7, .data⟩ (by simp) rfl
                        have d9 : fr0.tmps[(75 : Nat)]? = some (.bool true) := hv ⟨9, .data⟩ (by simp) rfl
                        have d3 : fr0.tmps[(69 : Nat)]? = some (.bool false) := hv ⟨3, .guard⟩ (by simp) rfl
                        clear hv hx
                        refine wpOp_step rfl (fun K hK => ?_)
                        go_simp
                        exact hK _ _ ⟨rfl, HJ.out⟩
                      · obtain rfl := Option.some.inj ho.symm
                        clear ho
                        have d3 : fr0.tmps[(69 : Nat)]? = some (.bool false) := hv ⟨3, .data⟩ (by simp) rfl
                        have d10 : fr0.tmps[(76 : Nat)]? = some (.bool true) := hv ⟨10, .data⟩ (by simp) rfl
                        clear hv hx
                        refine wpOp_step rfl (fun K hK => ?_)
                        go_simp
                        exact hK _ _ ⟨rfl, HJ.out⟩
                      · obtain rfl := Option.some.inj ho.symm
                        clear ho
                        have d11 : fr0.tmps[(77 : Nat)]? = some (.bool true) := hv ⟨11, .data⟩ (by simp) rfl
                        clear hv hx
                        refine wpOp_step rfl (fun K hK => ?_)
                        go_simp
                        exact hK _ _ ⟨rfl, HJ.out⟩
                      · obtain rfl := Option.some.inj ho.symm
                        clear ho
                        have d12 : fr0.tmps[(78 : Nat)]? = some (.bool true) := hv ⟨12, .guard⟩ (by simp) rfl
                        have x6 : fr0.tmps[(6 : Nat)]? = some (.int .i64 C) := hx 6 (by decide)
                        clear hv hx
                        refine wpOp_step rfl (fun K hK => ?_)
                        go_simp
                        exact hK _ _ ⟨rfl, HJ.out⟩
                      · obtain rfl := Option.some.inj ho.symm
                        clear ho
                        have d12 : fr0.tmps[(78 : Nat)]? = some (.bool true) := hv ⟨12, .guard⟩ (by simp) rfl
                        have x1 : fr0.tmps[(1 : Nat)]? = some (.pointer (some ⟨X, 0, none⟩)) := hx 1 (by decide)
                        clear hv hx
                        refine wpOp_step rfl (fun K hK => ?_)
                        go_simp
                        exact hK _ _ ⟨rfl, HJ.out⟩
                      · obtain rfl := Option.some.inj ho.symm
                        clear ho
                        have d14 : fr0.tmps[(80 : Nat)]? = some (undef) := hv ⟨14, .data⟩ (by simp) rfl
                        have d12 : fr0.tmps[(78 : Nat)]? = some (.bool true) := hv ⟨12, .guard⟩ (by simp) rfl
                        clear hv hx
                        refine wpOp_step rfl (fun K hK => ?_)
                        go_simp
                        exact hK _ _ ⟨rfl, HJ.out⟩
                      · obtain rfl := Option.some.inj ho.symm
                        clear ho
                        have d12 : fr0.tmps[(78 : Nat)]? = some (.bool true) := hv ⟨12, .guard⟩ (by simp) rfl
                        have x5 : fr0.tmps[(5 : Nat)]? = some (.int .i64 (j : Int)) := hx 5 (by decide)
                        clear hv hx
                        refine wpOp_step rfl (fun K hK => ?_)
                        go_simp
                        exact hK _ _ ⟨rfl, HJ.out⟩
                      · obtain rfl := Option.some.inj ho.symm
                        clear ho
                        have d16 : fr0.tmps[(82 : Nat)]? = some (undef) := hv ⟨16, .data⟩ (by simp) rfl
                        have d12 : fr0.tmps[(78 : Nat)]? = some (.bool true) := hv ⟨12, .guard⟩ (by simp) rfl
                        clear hv hx
                        refine wpOp_step rfl (fun K hK => ?_)
                        go_simp
                        exact hK _ _ ⟨rfl, HJ.out⟩
                      · obtain rfl := Option.some.inj ho.symm
                        clear ho
                        have d12 : fr0.tmps[(78 : Nat)]? = some (.bool true) := hv ⟨12, .guard⟩ (by simp) rfl
                        have x3 : fr0.tmps[(3 : Nat)]? = some (.int .i64 (K : Int)) := hx 3 (by decide)
                        clear hv hx
                        refine wpOp_step rfl (fun K hK => ?_)
                        go_simp
                        exact hK _ _ ⟨rfl, HJ.out⟩
                      · obtain rfl := Option.some.inj ho.symm
                        clear ho
                        have d17 : fr0.tmps[(83 : Nat)]? = some (undef) := hv ⟨17, .data⟩ (by simp) rfl
                        have d18 : fr0.tmps[(84 : Nat)]? = some (undef) := hv ⟨18, .data⟩ (by simp) rfl
                        have d12 : fr0.tmps[(78 : Nat)]? = some (.bool true) := hv ⟨12, .guard⟩ (by simp) rfl
                        clear hv hx
                        refine wpOp_step rfl (fun K hK => ?_)
                        go_simp
                        exact hK _ _ ⟨rfl, HJ.out⟩
                      · obtain rfl := Option.some.inj ho.symm
                        clear ho
                        have d12 : fr0.tmps[(78 : Nat)]? = some (.bool true) := hv ⟨12, .guard⟩ (by simp) rfl
                        have x4 : fr0.tmps[(4 : Nat)]? = some (.int .i64 (i : Int)) := hx 4 (by decide)
                        clear hv hx
                        refine wpOp_step rfl (fun K hK => ?_)
                        go_simp
                        exact hK _ _ ⟨rfl, HJ.out⟩
                      · obtain rfl := Option.some.inj ho.symm
                        clear ho
                        have d20 : fr0.tmps[(86 : Nat)]? = some (undef) := hv ⟨20, .data⟩ (by simp) rfl
                        have d12 : fr0.tmps[(78 : Nat)]? = some (.bool true) := hv ⟨12, .guard⟩ (by simp) rfl
                        clear hv hx
                        refine wpOp_step rfl (fun K hK => ?_)
                        go_simp
                        exact hK _ _ ⟨rfl, HJ.out⟩
                      · obtain rfl := Option.some.inj ho.symm
                        clear ho
                        have d19 : fr0.tmps[(85 : Nat)]? = some (undef) := hv ⟨19, .data⟩ (by simp) rfl
                        have d21 : fr0.tmps[(87 : Nat)]? = some (undef) := hv ⟨21, .data⟩ (by simp) rfl
                        have d12 : fr0.tmps[(78 : Nat)]? = some (.bool true) := hv ⟨12, .guard⟩ (by simp) rfl
                        clear hv hx
                        refine wpOp_step rfl (fun K hK => ?_)
                        go_simp
                        exact hK _ _ ⟨rfl, HJ.out⟩
                      · obtain rfl := Option.some.inj ho.symm
                        clear ho
                        have d15 : fr0.tmps[(81 : Nat)]? = some (undef) := hv ⟨15, .data⟩ (by simp) rfl
                        have d22 : fr0.tmps[(88 : Nat)]? = some (undef) := hv ⟨22, .data⟩ (by simp) rfl
                        have d12 : fr0.tmps[(78 : Nat)]? = some (.bool true) := hv ⟨12, .guard⟩ (by simp) rfl
                        clear hv hx
                        refine wpOp_step rfl (fun K hK => ?_)
                        go_simp
                        exact hK _ _ ⟨rfl, HJ.out⟩
                      · obtain rfl := Option.some.inj ho.symm
                        clear ho
                        have d23 : fr0.tmps[(89 : Nat)]? = some (undef) := hv ⟨23, .data⟩ (by simp) rfl
                        have d12 : fr0.tmps[(78 : Nat)]? = some (.bool true) := hv ⟨12, .guard⟩ (by simp) rfl
                        clear hv hx
                        refine wpOp_step rfl (fun K hK => ?_)
                        go_simp
                        exact hK _ _ ⟨rfl, HJ.out⟩
                      · obtain rfl := Option.some.inj ho.symm
                        clear ho
                        have d13 : fr0.tmps[(79 : Nat)]? = some (undef) := hv ⟨13, .data⟩ (by simp) rfl
                        have d24 : fr0.tmps[(90 : Nat)]? = some (undef) := hv ⟨24, .data⟩ (by simp) rfl
                        have d12 : fr0.tmps[(78 : Nat)]? = some (.bool true) := hv ⟨12, .guard⟩ (by simp) rfl
                        clear hv hx
                        refine wpOp_step rfl (fun K hK => ?_)
                        go_simp
                        exact hK _ _ ⟨rfl, HJ.out⟩
                      · obtain rfl := Option.some.inj ho.symm
                        clear ho
                        have d12 : fr0.tmps[(78 : Nat)]? = some (.bool true) := hv ⟨12, .data⟩ (by simp) rfl
                        have d25 : fr0.tmps[(91 : Nat)]? = some (undef) := hv ⟨25, .data⟩ (by simp) rfl
                        clear hv hx
                        refine wpOp_step rfl (fun K hK => ?_)
                        go_simp
                        exact hK _ _ ⟨rfl, HJ.out⟩
                    case he =>
                      intro w' hJ
                      simp only [putF, valsAt, Nat.reduceAdd, Nat.zero_add, List.getD_cons_zero, List.getD_cons_succ, Act.put, List.setIfInBounds_toArray, List.set_cons_succ, List.set_cons_zero]
                      rw [hJ]
                      clear hJ
                      go_wp2_with fail
                      go_ret
                      exact ⟨by rw [HR0.out]; rfl, HB1.out.trans (HJR.out.drew.mono HB1.out.size)⟩
                · have k1 : ((i : Int) == (j : Int)) = false := by simp; omega
                  have kd : decide (i ≠ j) = true := by simpa using kij
                  rw [kd] at HRR
                  by_cases kd2 : C = D
                  · have k9 : (C != D) = false := by simp [kd2]
                    rw [decide_eq_true kd2] at HRR
                    have hnx : ∀ q, q < j + 1 → okC K m i q = true := fun q hq => by
                      rcases Nat.lt_or_ge q j with h | h
                      · exact HDJ.out.1 q h
                      · obtain rfl : q = j := by omega
                        rw [HRR.out.2]; rfl
                    have HNX := Lib.hid hnx
                    clear kb kd2 hnx kij kd
                    refine wp_region_any (by kernel_rfl) ?_
                    refine wpAny_vals [66, 67, 68, 69, 70, 71, 72, 73, 74, 75, 76, 77, 78, 79, 80, 81, 82, 83, 84, 85, 86, 87, 88, 89, 90, 91, 92] [.int .i64 C, .bool true, .bool false, .bool false, .int .i64 (i : Int), .int .i64 (j : Int), .bool false, .bool false, undef, undef, .bool false, .bool false, .bool false, .int .i64 C, .pointer (some ⟨X, 2, none⟩), .slice (some ⟨b, ob, none⟩) L c, .int .i64 (j : Int), .int .i64 (J : Int), .int .i64 (K : Int), .int .i64 (Q : Int), .int .i64 (i : Int), .int .i64 (I : Int), .int .i64 (R : Int), .pointer (some ⟨b, ob + R, none⟩), .int .i64 D, .bool false, .bool false] (fun w' => w' = wr.drew) rfl (by kernel_rfl) (by decide) (by kernel_rfl) ?hs ?he ?hj
                    case hj => exact rfl
                    case hs =>
                      intro qi qo ho fr0 hv hx w' hJ
                      have hi : qi < 27 := (Array.getElem?_eq_some_iff.1 ho).1
                      have c2 : w'.cell? ⟨X, 2, none⟩ = some (.slice (some ⟨b, ob, none⟩) L c) := by rw [hJ]; exact HX2.out
                      have cR : w'.cell? ⟨b, ob + R, none⟩ = some (.int .i64 D) := by rw [hJ]; exact HCR.out
                      have HJ := Lib.hid hJ
                      clear hJ
                      have hcase : qi = 0 ∨ qi = 1 ∨ qi = 2 ∨ qi = 3 ∨ qi = 4 ∨ qi = 5 ∨ qi = 6 ∨ qi = 7 ∨ qi = 8 ∨ qi = 9 ∨ qi = 10 ∨ qi = 11 ∨ qi = 12 ∨ qi = 13 ∨ qi = 14 ∨ qi = 15 ∨ qi = 16 ∨ qi = 17 ∨ qi = 18 ∨ qi = 19 ∨ qi = 20 ∨ qi = 21 ∨ qi = 22 ∨ qi = 23 ∨ qi = 24 ∨ qi = 25 ∨ qi = 26 := by omega
                      clear hi
                      rcases hcase with rfl | rfl | rfl | rfl | rfl | rfl | rfl | rfl | rfl | rfl | rfl | rfl | rfl | rfl | rfl | rfl | rfl | rfl | rfl | rfl | rfl | rfl | rfl | rfl | rfl | rfl | rfl
                      · obtain rfl := Option.some.inj ho.symm
                        clear ho
                        have x6 : fr0.tmps[(6 : Nat)]? = some (.int .i64 C) := hx 6 (by decide)
                        clear hv hx
                        refine wpOp_step rfl (fun K hK => ?_)
                        go_simp
                        exact hK _ _ ⟨rfl, HJ.out⟩
                      · obtain rfl := Option.some.inj ho.symm
                        clear ho
                        have d0 : fr0.tmps[(66 : Nat)]? = some (.int .i64 C) := hv ⟨0, .data⟩ (by simp) rfl
                        clear hv hx
                        refine wpOp_step rfl (fun K hK => ?_)
                        go_simp
                        go_at_call 36
                        refine (HIS.out _).mono ?_
                        rintro e w2 ⟨rfl, rfl⟩
                        exact hK _ _ ⟨rfl, HJ.out⟩
                      · obtain rfl := Option.some.inj ho.symm
                        clear ho
                        have d1 : fr0.tmps[(67 : Nat)]? = some (.bool true) := hv ⟨1, .data⟩ (by simp) rfl
                        clear hv hx
                        refine wpOp_step rfl (fun K hK => ?_)
                        go_simp
                        exact hK _ _ ⟨rfl, HJ.out⟩
                      · obtain rfl := Option.some.inj ho.symm
                        clear ho
                        have d2 : fr0.tmps[(68 : Nat)]? = some (.bool false) := hv ⟨2, .data⟩ (by simp) rfl
                        clear hv hx
                        refine wpOp_step rfl (fun K hK => ?_)
                        go_simp
                        exact hK _ _ ⟨rfl, HJ.out⟩
                      · obtain rfl := Option.some.inj ho.symm
                        clear ho
                        have d3 : fr0.tmps[(69 : Nat)]? = some (.bool false) := hv ⟨3, .guard⟩ (by simp) rfl
                        have x4 : fr0.tmps[(4 : Nat)]? = some (.int .i64 (i : Int)) := hx 4 (by decide)
                        clear hv hx
                        refine wpOp_step rfl (fun K hK => ?_)
                        go_simp
                        exact hK _ _ ⟨rfl, HJ.out⟩
                      · obtain rfl := Option.some.inj ho.symm
                        clear ho
                        have d3 : fr0.tmps[(69 : Nat)]? = some (.bool false) := hv ⟨3, .guard⟩ (by simp) rfl
                        have x5 : fr0.tmps[(5 : Nat)]? = some (.int .i64 (j : Int)) := hx 5 (by decide)
                        clear hv hx
                        refine wpOp_step rfl (fun K hK => ?_)
                        go_simp
                        exact hK _ _ ⟨rfl, HJ.out⟩
                      · obtain rfl := Option.some.inj ho.symm
                        clear ho
                        have d4 : fr0.tmps[(70 : Nat)]? = some (.int .i64 (i : Int)) := hv ⟨4, .data⟩ (by simp) rfl
                        have d5 : fr0.tmps[(71 : Nat)]? = some (.int .i64 (j : Int)) := hv ⟨5, .data⟩ (by simp) rfl
                        have d3 : fr0.tmps[(69 : Nat)]? = some (.bool false) := hv ⟨3, .guard⟩ (by simp) rfl
                        clear hv hx
                        refine wpOp_step rfl (fun K hK => ?_)
                        go_simp
                        exact hK _ _ ⟨rfl, HJ.out⟩
                      · obtain rfl := Option.some.inj ho.symm
                        clear ho
                        have d6 : fr0.tmps[(72 : Nat)]? = some (.bool false) := hv ⟨6, .data⟩ (by simp) rfl
                        have d3 : fr0.tmps[(69 : Nat)]? = some (.bool false) := hv ⟨3, .guard⟩ (by simp) rfl
                        clear hv hx
                        refine wpOp_step rfl (fun K hK => ?_)
                        go_simp
                        exact hK _ _ ⟨rfl, HJ.out⟩
                      · obtain rfl := Option.some.inj ho.symm
                        clear ho
                        have d7 : fr0.tmps[(73 : Nat)]? = some (.bool false) := hv ⟨7, .guard⟩ (by simp) rfl
                        have x6 : fr0.tmps[(6 : Nat)]? = some (.int .i64 C) := hx 6 (by decide)
                        clear hv hx
                        refine wpOp_step rfl (fun K hK => ?_)
                        go_simp
                        exact hK _ _ ⟨rfl, HJ.out⟩
                      · obtain rfl := Option.some.inj ho.symm
                        clear ho
                        have d8 : fr0.tmps[(74 : Nat)]? = some (undef) := hv ⟨8, .data⟩ (by simp) rfl
                        have d7 : fr0.tmps[(73 : Nat)]? = some (.bool false) := hv ⟨7, .guard⟩ (by simp) rfl
                        clear hv hx
                        refine wpOp_step rfl (fun K hK => ?_)
                        go_simp
                        exact hK _ _ ⟨rfl, HJ.out⟩
                      · obtain rfl := Option.some.inj ho.symm
                        clear ho
                        have d7 : fr0.tmps[(73 : Nat)]? = some (.bool false) := hv ⟨7, .data⟩ (by simp) rfl
                        have d9 : fr0.tmps[(75 : Nat)]? = some (undef) := hv ⟨9, .data⟩ (by simp) rfl
                        have d3 : fr0.tmps[(69 : Nat)]? = some (.bool false) := hv ⟨3, .guard⟩ (by simp) rfl
                        clear hv hx
                        refine wpOp_step rfl (fun K hK => ?_)
                        go_simp
                        exact hK _ _ ⟨rfl, HJ.out⟩
                      · obtain rfl := Option.some.inj ho.symm
                        clear ho
                        have d3 : fr0.tmps[(69 : Nat)]? = some (.bool false) := hv ⟨3, .data⟩ (by simp) rfl
                        have d10 : fr0.tmps[(76 : Nat)]? = some (.bool false) := hv ⟨10, .data⟩ (by simp) rfl
                        clear hv hx
                        refine wpOp_step rfl (fun K hK => ?_)
                        go_simp
                        exact hK _ _ ⟨rfl, HJ.out⟩
                      · obtain rfl := Option.some.inj ho.symm
                        clear ho
                        have d11 : fr0.tmps[(77 : Nat)]? = some (.bool false) := hv ⟨11, .data⟩ (by simp) rfl
                        clear hv hx
                        refine wpOp_step rfl (fun K hK => ?_)
                        go_simp
                        exact hK _ _ ⟨rfl, HJ.out⟩
                      · obtain rfl := Option.some.inj ho.symm
                        clear ho
                        have d12 : fr0.tmps[(78 : Nat)]? = some (.bool false) := hv ⟨12, .guard⟩ (by simp) rfl
                        have x6 : fr0.tmps[(6 : Nat)]? = some (.int .i64 C) := hx 6 (by decide)
                        clear hv hx
                        refine wpOp_step rfl (fun K hK => ?_)
                        go_simp
                        exact hK _ _ ⟨rfl, HJ.out⟩
                      · obtain rfl := Option.some.inj ho.symm
                        clear ho
                        have d12 : fr0.tmps[(78 : Nat)]? = some (.bool false) := hv ⟨12, .guard⟩ (by simp) rfl
                        have x1 : fr0.tmps[(1 : Nat)]? = some (.pointer (some ⟨X, 0, none⟩)) := hx 1 (by decide)
                        clear hv hx
                        refine wpOp_step rfl (fun K hK => ?_)
                        go_simp
                        exact hK _ _ ⟨rfl, HJ.out⟩
                      · obtain rfl := Option.some.inj ho.symm
                        clear ho
                        have d14 : fr0.tmps[(80 : Nat)]? = some (.pointer (some ⟨X, 2, none⟩)) := hv ⟨14, .data⟩ (by simp) rfl
                        have d12 : fr0.tmps[(78 : Nat)]? = some (.bool false) := hv ⟨12, .guard⟩ (by simp) rfl
                        clear hv hx
                        refine wpOp_step rfl (fun K hK => ?_)
                        go_simp
                        exact hK _ _ ⟨rfl, HJ.out⟩
                      · obtain rfl := Option.some.inj ho.symm
                        clear ho
                        have d12 : fr0.tmps[(78 : Nat)]? = some (.bool false) := hv ⟨12, .guard⟩ (by simp) rfl
                        have x5 : fr0.tmps[(5 : Nat)]? = some (.int .i64 (j : Int)) := hx 5 (by decide)
                        clear hv hx
                        refine wpOp_step rfl (fun K hK => ?_)
                        go_simp
                        exact hK _ _ ⟨rfl, HJ.out⟩
                      · obtain rfl := Option.some.inj ho.symm
                        clear ho
                        have d16 : fr0.tmps[(82 : Nat)]? = some (.int .i64 (j : Int)) := hv ⟨16, .data⟩ (by simp) rfl
                        have d12 : fr0.tmps[(78 : Nat)]? = some (.bool false) := hv ⟨12, .guard⟩ (by simp) rfl
                        clear hv hx
                        refine wpOp_step rfl (fun K hK => ?_)
                        go_simp
                        go_at_call 37
                        refine (HAJ.out _).mono ?_
                        rintro e w2 ⟨rfl, rfl⟩
                        exact hK _ _ ⟨rfl, HJ.out⟩
                      · obtain rfl := Option.some.inj ho.symm
                        clear ho
                        have d12 : fr0.tmps[(78 : Nat)]? = some (.bool false) := hv ⟨12, .guard⟩ (by simp) rfl
                        have x3 : fr0.tmps[(3 : Nat)]? = some (.int .i64 (K : Int)) := hx 3 (by decide)
                        clear hv hx
                        refine wpOp_step rfl (fun K hK => ?_)
                        go_simp
                        exact hK _ _ ⟨rfl, HJ.out⟩
                      · obtain rfl := Option.some.inj ho.symm
                        clear ho
                        have d17 : fr0.tmps[(83 : Nat)]? = some (.int .i64 (J : Int)) := hv ⟨17, .data⟩ (by simp) rfl
                        have d18 : fr0.tmps[(84 : Nat)]? = some (.int .i64 (K : Int)) := hv ⟨18, .data⟩ (by simp) rfl
                        have d12 : fr0.tmps[(78 : Nat)]? = some (.bool false) := hv ⟨12, .guard⟩ (by simp) rfl
                        clear hv hx
                        refine wpOp_step rfl (fun K hK => ?_)
                        go_simp
                        exact hK _ _ ⟨rfl, HJ.out⟩
                      · obtain rfl := Option.some.inj ho.symm
                        clear ho
                        have d12 : fr0.tmps[(78 : Nat)]? = some (.bool false) := hv ⟨12, .guard⟩ (by simp) rfl
                        have x4 : fr0.tmps[(4 : Nat)]? = some (.int .i64 (i : Int)) := hx 4 (by decide)
                        clear hv hx
                        refine wpOp_step rfl (fun K hK => ?_)
                        go_simp
                        exact hK _ _ ⟨rfl, HJ.out⟩
                      · obtain rfl := Option.some.inj ho.symm
                        clear ho
                        have d20 : fr0.tmps[(86 : Nat)]? = some (.int .i64 (i : Int)) := hv ⟨20, .data⟩ (by simp) rfl
                        have d12 : fr0.tmps[(78 : Nat)]? = some (.bool false) := hv ⟨12, .guard⟩ (by simp) rfl
                        clear hv hx
                        refine wpOp_step rfl (fun K hK => ?_)
                        go_simp
                        go_at_call 37
                        refine (HAI.out _).mono ?_
                        rintro e w2 ⟨rfl, rfl⟩
                        exact hK _ _ ⟨rfl, HJ.out⟩
                      · obtain rfl := Option.some.inj ho.symm
                        clear ho
                        have d19 : fr0.tmps[(85 : Nat)]? = some (.int .i64 (Q : Int)) := hv ⟨19, .data⟩ (by simp) rfl
                        have d21 : fr0.tmps[(87 : Nat)]? = some (.int .i64 (I : Int)) := hv ⟨21, .data⟩ (by simp) rfl
                        have d12 : fr0.tmps[(78 : Nat)]? = some (.bool false) := hv ⟨12, .guard⟩ (by simp) rfl
                        clear hv hx
                        refine wpOp_step rfl (fun K hK => ?_)
                        go_simp
                        exact hK _ _ ⟨rfl, HJ.out⟩
                      · obtain rfl := Option.some.inj ho.symm
                        clear ho
                        have d15 : fr0.tmps[(81 : Nat)]? = some (.slice (some ⟨b, ob, none⟩) L c) := hv ⟨15, .data⟩ (by simp) rfl
                        have d22 : fr0.tmps[(88 : Nat)]? = some (.int .i64 (R : Int)) := hv ⟨22, .data⟩ (by simp) rfl
                        have d12 : fr0.tmps[(78 : Nat)]? = some (.bool false) := hv ⟨12, .guard⟩ (by simp) rfl
                        clear hv hx
                        refine wpOp_step rfl (fun K hK => ?_)
                        go_simp
                        exact hK _ _ ⟨rfl, HJ.out⟩
                      · obtain rfl := Option.some.inj ho.symm
                        clear ho
                        have d23 : fr0.tmps[(89 : Nat)]? = some (.pointer (some ⟨b, ob + R, none⟩)) := hv ⟨23, .data⟩ (by simp) rfl
                        have d12 : fr0.tmps[(78 : Nat)]? = some (.bool false) := hv ⟨12, .guard⟩ (by simp) rfl
                        clear hv hx
                        refine wpOp_step rfl (fun K hK => ?_)
                        go_simp
                        exact hK _ _ ⟨rfl, HJ.out⟩
                      · obtain rfl := Option.some.inj ho.symm
                        clear ho
                        have d13 : fr0.tmps[(79 : Nat)]? = some (.int .i64 C) := hv ⟨13, .data⟩ (by simp) rfl
                        have d24 : fr0.tmps[(90 : Nat)]? = some (.int .i64 D) := hv ⟨24, .data⟩ (by simp) rfl
                        have d12 : fr0.tmps[(78 : Nat)]? = some (.bool false) := hv ⟨12, .guard⟩ (by simp) rfl
                        clear hv hx
                        refine wpOp_step rfl (fun K hK => ?_)
                        go_simp
                        exact hK _ _ ⟨rfl, HJ.out⟩
                      · obtain rfl := Option.some.inj ho.symm
                        clear ho
                        have d12 : fr0.tmps[(78 : Nat)]? = some (.bool false) := hv ⟨12, .data⟩ (by simp) rfl
                        have d25 : fr0.tmps[(91 : Nat)]? = some (.bool false) := hv ⟨25, .data⟩ (by simp) rfl
                        clear hv hx
                        refine wpOp_step rfl (fun K hK => ?_)
                        go_simp
                        exact hK _ _ ⟨rfl, HJ.out⟩
                    case he =>
                      intro w' hJ
                      simp only [putF, valsAt, Nat.reduceAdd, Nat.zero_add, List.getD_cons_zero, List.getD_cons_succ, Act.put, List.setIfInBounds_toArray, List.set_cons_succ, List.set_cons_zero]
                      rw [hJ]
                      clear hJ
                      go_wp2_with fail
                      go_roundw
                      case rel => exact ⟨j + 1, by go_num, by omega, HNX.out, HJR.out.drew⟩
                      case measure => simp [intOf]; omega
                  · have k9 : (C != D) = true := by simpa using kd2
                    rw [decide_eq_false kd2] at HRR
                    have hRb : R0 = 121 := by rw [← HRR.out.1, okM_false HDJ.out.2.2.2 HDJ.out.2.2.1 (by rw [HRR.out.2]; rfl)]; rfl
                    have HR0 := Lib.hid hRb
                    clear kb kd2 hRb kij kd
                    refine wp_region_any (by kernel_rfl) ?_
                    refine wpAny_vals [66, 67, 68, 69, 70, 71, 72, 73, 74, 75, 76, 77, 78, 79, 80, 81, 82, 83, 84, 85, 86, 87, 88, 89, 90, 91, 92] [.int .i64 C, .bool true, .bool false, .bool false, .int .i64 (i : Int), .int .i64 (j : Int), .bool false, .bool false, undef, undef, .bool false, .bool false, .bool false, .int .i64 C, .pointer (some ⟨X, 2, none⟩), .slice (some ⟨b, ob, none⟩) L c, .int .i64 (j : Int), .int .i64 (J : Int), .int .i64 (K : Int), .int .i64 (Q : Int), .int .i64 (i : Int), .int .i64 (I : Int), .int .i64 (R : Int), .pointer (some ⟨b, ob + R, none⟩), .int .i64 D, .bool true, .bool true] (fun w' => w' = wr.drew) rfl (by kernel_rfl) (by decide) (by kernel_rfl) ?hs ?he ?hj
                    case hj => exact rfl
                    case hs =>
                      intro qi qo ho fr0 hv hx w' hJ
                      have hi : qi < 27 := (Array.getElem?_eq_some_iff.1 ho).1
                      have c2 : w'.cell? ⟨X, 2, none⟩ = some (.slice (some ⟨b, ob, none⟩) L c) := by rw [hJ]; exact HX2.out
                      have cR : w'.cell? ⟨b, ob + R, none⟩ = some (.int .i64 D) := by rw [hJ]; exact HCR.out
                      have HJ := Lib.hid hJ
                      clear hJ
                      have hcase : qi = 0 ∨ qi = 1 ∨ qi = 2 ∨ qi = 3 ∨ qi = 4 ∨ qi = 5 ∨ qi = 6 ∨ qi = 7 ∨ qi = 8 ∨ qi = 9 ∨ qi = 10 ∨ qi = 11 ∨ qi = 12 ∨ qi = 13 ∨ qi = 14 ∨ qi = 15 ∨ qi = 16 ∨ qi = 17 ∨ qi = 18 ∨ qi = 19 ∨ qi = 20 ∨ qi = 21 ∨ qi = 22 ∨ qi = 23 ∨ qi = 24 ∨ qi = 25 ∨ qi = 26 := by omega
                      clear hi
                      rcases hcase with rfl | rfl | rfl | rfl | rfl | rfl | rfl | rfl | rfl | rfl | rfl | rfl | rfl | rfl | rfl | rfl | rfl | rfl | rfl | rfl | rfl | rfl | rfl | rfl | rfl | rfl | rfl
                      · obtain rfl := Option.some.inj ho.symm
                        clear ho
                        have x6 : fr0.tmps[(6 : Nat)]? = some (.int .i64 C) := hx 6 (by decide)
                        clear hv hx
                        refine wpOp_step rfl (fun K hK => ?_)
                        go_simp
                        exact hK _ _ ⟨rfl, HJ.out⟩
                      · obtain rfl := Option.some.inj ho.symm
                        clear ho
                        have d0 : fr0.tmps[(66 : Nat)]? = some (.int .i64 C) := hv ⟨0, .data⟩ (by simp) rfl
                        clear hv hx
                        refine wpOp_step rfl (fun K hK => ?_)
                        go_simp
                        go_at_call 36
                        refine (HIS.out _).mono ?_
                        rintro e w2 ⟨rfl, rfl⟩
                        exact hK _ _ ⟨rfl, HJ.out⟩
                      · obtain rfl := Option.some.inj ho.symm
                        clear ho
                        have d1 : fr0.tmps[(67 : Nat)]? = some (.bool true) := hv ⟨1, .data⟩ (by simp) rfl
                        clear hv hx
                        refine wpOp_step rfl (fun K hK => ?_)
                        go_simp
                        exact hK _ _ ⟨rfl, HJ.out⟩
                      · obtain rfl := Option.some.inj ho.symm
                        clear ho
                        have d2 : fr0.tmps[(68 : Nat)]? = some (.bool false) := hv ⟨2, .data⟩ (by simp) rfl
                        clear hv hx
                        refine wpOp_step rfl (fun K hK => ?_)
                        go_simp
                        exact hK _ _ ⟨rfl, HJ.out⟩
                      · obtain rfl := Option.some.inj ho.symm
                        clear ho
                        have d3 : fr0.tmps[(69 : Nat)]? = some (.bool false) := hv ⟨3, .guard⟩ (by simp) rfl
                        have x4 : fr0.tmps[(4 : Nat)]? = some (.int .i64 (i : Int)) := hx 4 (by decide)
                        clear hv hx
                        refine wpOp_step rfl (fun K hK => ?_)
                        go_simp
                        exact hK _ _ ⟨rfl, HJ.out⟩
                      · obtain rfl := Option.some.inj ho.symm
                        clear ho
                        have d3 : fr0.tmps[(69 : Nat)]? = some (.bool false) := hv ⟨3, .guard⟩ (by simp) rfl
                        have x5 : fr0.tmps[(5 : Nat)]? = some (.int .i64 (j : Int)) := hx 5 (by decide)
                        clear hv hx
                        refine wpOp_step rfl (fun K hK => ?_)
                        go_simp
                        exact hK _ _ ⟨rfl, HJ.out⟩
                      · obtain rfl := Option.some.inj ho.symm
                        clear ho
                        have d4 : fr0.tmps[(70 : Nat)]? = some (.int .i64 (i : Int)) := hv ⟨4, .data⟩ (by simp) rfl
                        have d5 : fr0.tmps[(71 : Nat)]? = some (.int .i64 (j : Int)) := hv ⟨5, .data⟩ (by simp) rfl
                        have d3 : fr0.tmps[(69 : Nat)]? = some (.bool false) := hv ⟨3, .guard⟩ (by simp) rfl
                        clear hv hx
                        refine wpOp_step rfl (fun K hK => ?_)
                        go_simp
                        exact hK _ _ ⟨rfl, HJ.out⟩
                      · obtain rfl := Option.some.inj ho.symm
                        clear ho
                        have d6 : fr0.tmps[(72 : Nat)]? = some (.bool false) := hv ⟨6, .data⟩ (by simp) rfl
                        have d3 : fr0.tmps[(69 : Nat)]? = some (.bool false) := hv ⟨3, .guard⟩ (by simp) rfl
                        clear hv hx
                        refine wpOp_step rfl (fun K hK => ?_)
                        go_simp
                        exact hK _ _ ⟨rfl, HJ.out⟩
                      · obtain rfl := Option.some.inj ho.symm
                        clear ho
                        have d7 : fr0.tmps[(73 : Nat)]? = some (.bool false) := hv ⟨7, .guard⟩ (by simp) rfl
                        have x6 : fr0.tmps[(6 : Nat)]? = some (.int .i64 C) := hx 6 (by decide)
                        clear hv hx
                        refine wpOp_step rfl (fun K hK => ?_)
                        go_simp
                        exact hK _ _ ⟨rfl, HJ.out⟩
                      · obtain rfl := Option.some.inj ho.symm
                        clear ho
                        have d8 : fr0.tmps[(74 : Nat)]? = some (undef) := hv ⟨8, .data⟩ (by simp) rfl
                        have d7 : fr0.tmps[(73 : Nat)]? = some (.bool false) := hv ⟨7, .guard⟩ (by simp) rfl
                        clear hv hx
                        refine wpOp_step rfl (fun K hK => ?_)
                        go_simp
                        exact hK _ _ ⟨rfl, HJ.out⟩
                      · obtain rfl := Option.some.inj ho.symm
                        clear ho
                        have d7 : fr0.tmps[(73 : Nat)]? = some (.bool false) := hv ⟨7, .data⟩ (by simp) rfl
                        have d9 : fr0.tmps[(75 : Nat)]? = some (undef) := hv ⟨9, .data⟩ (by simp) rfl
                        have d3 : fr0.tmps[(69 : Nat)]? = some (.bool false) := hv ⟨3, .guard⟩ (by simp) rfl
                        clear hv hx
                        refine wpOp_step rfl (fun K hK => ?_)
                        go_simp
                        exact hK _ _ ⟨rfl, HJ.out⟩
                      · obtain rfl := Option.some.inj ho.symm
                        clear ho
                        have d3 : fr0.tmps[(69 : Nat)]? = some (.bool false) := hv ⟨3, .data⟩ (by simp) rfl
                        have d10 : fr0.tmps[(76 : Nat)]? = some (.bool false) := hv ⟨10, .data⟩ (by simp) rfl
                        clear hv hx
                        refine wpOp_step rfl (fun K hK => ?_)
                        go_simp
                        exact hK _ _ ⟨rfl, HJ.out⟩
                      · obtain rfl := Option.some.inj ho.symm
                        clear ho
                        have d11 : fr0.tmps[(77 : Nat)]? = some (.bool false) := hv ⟨11, .data⟩ (by simp) rfl
                        clear hv hx
                        refine wpOp_step rfl (fun K hK => ?_)
                        go_simp
                        exact hK _ _ ⟨rfl, HJ.out⟩
                      · obtain rfl := Option.some.inj ho.symm
                        clear ho
                        have d12 : fr0.tmps[(78 : Nat)]? = some (.bool false) := hv ⟨12, .guard⟩ (by simp) rfl
                        have x6 : fr0.tmps[(6 : Nat)]? = some (.int .i64 C) := hx 6 (by decide)
                        clear hv hx
                        refine wpOp_step rfl (fun K hK => ?_)
                        go_simp
                        exact hK _ _ ⟨rfl, HJ.out⟩
                      · obtain rfl := Option.some.inj ho.symm
                        clear ho
                        have d12 : fr0.tmps[(78 : Nat)]? = some (.bool false) := hv ⟨12, .guard⟩ (by simp) rfl
                        have x1 : fr0.tmps[(1 : Nat)]? = some (.pointer (some ⟨X, 0, none⟩)) := hx 1 (by decide)
                        clear hv hx
                        refine wpOp_step rfl (fun K hK => ?_)
                        go_simp
                        exact hK _ _ ⟨rfl, HJ.out⟩
                      · obtain rfl := Option.some.inj ho.symm
                        clear ho
                        have d14 : fr0.tmps[(80 : Nat)]? = some (.pointer (some ⟨X, 2, none⟩)) := hv ⟨14, .data⟩ (by simp) rfl
                        have d12 : fr0.tmps[(78 : Nat)]? = some (.bool false) := hv ⟨12, .guard⟩ (by simp) rfl
                        clear hv hx
                        refine wpOp_step rfl (fun K hK => ?_)
                        go_simp
                        exact hK _ _ ⟨rfl, HJ.out⟩
                      · obtain rfl := Option.some.inj ho.symm
                        clear ho
                        have d12 : fr0.tmps[(78 : Nat)]? = some (.bool false) := hv ⟨12, .guard⟩ (by simp) rfl
                        have x5 : fr0.tmps[(5 : Nat)]? = some (.int .i64 (j : Int)) := hx 5 (by decide)
                        clear hv hx
                        refine wpOp_step rfl (fun K hK => ?_)
                        go_simp
                        exact hK _ _ ⟨rfl, HJ.out⟩
                      · obtain rfl := Option.some.inj ho.symm
                        clear ho
                        have d16 : fr0.tmps[(82 : Nat)]? = some (.int .i64 (j : Int)) := hv ⟨16, .data⟩ (by simp) rfl
                        have d12 : fr0.tmps[(78 : Nat)]? = some (.bool false) := hv ⟨12, .guard⟩ (by simp) rfl
                        clear hv hx
                        refine wpOp_step rfl (fun K hK => ?_)
                        go_simp
                        go_at_call 37
                        refine (HAJ.out _).mono ?_
                        rintro e w2 ⟨rfl, rfl⟩
                        exact hK _ _ ⟨rfl, HJ.out⟩
                      · obtain rfl := Option.some.inj ho.symm
                        clear ho
                        have d12 : fr0.tmps[(78 : Nat)]? = some (.bool false) := hv ⟨12, .guard⟩ (by simp) rfl
                        have x3 : fr0.tmps[(3 : Nat)]? = some (.int .i64 (K : Int)) := hx 3 (by decide)
                        clear hv hx
                        refine wpOp_step rfl (fun K hK => ?_)
                        go_simp
                        exact hK _ _ ⟨rfl, HJ.out⟩
                      · obtain rfl := Option.some.inj ho.symm
                        clear ho
                        have d17 : fr0.tmps[(83 : Nat)]? = some (.int .i64 (J : Int)) := hv ⟨17, .data⟩ (by simp) rfl
                        have d18 : fr0.tmps[(84 : Nat)]? = some (.int .i64 (K : Int)) := hv ⟨18, .data⟩ (by simp) rfl
                        have d12 : fr0.tmps[(78 : Nat)]? = some (.bool false) := hv ⟨12, .guard⟩ (by simp) rfl
                        clear hv hx
                        refine wpOp_step rfl (fun K hK => ?_)
                        go_simp
                        exact hK _ _ ⟨rfl, HJ.out⟩
                      · obtain rfl := Option.some.inj ho.symm
                        clear ho
                        have d12 : fr0.tmps[(78 : Nat)]? = some (.bool false) := hv ⟨12, .guard⟩ (by simp) rfl
                        have x4 : fr0.tmps[(4 : Nat)]? = some (.int .i64 (i : Int)) := hx 4 (by decide)
                        clear hv hx
                        refine wpOp_step rfl (fun K hK => ?_)
                        go_simp
                        exact hK _ _ ⟨rfl, HJ.out⟩
                      · obtain rfl := Option.some.inj ho.symm
                        clear ho
                        have d20 : fr0.tmps[(86 : Nat)]? = some (.int .i64 (i : Int)) := hv ⟨20, .data⟩ (by simp) rfl
                        have d12 : fr0.tmps[(78 : Nat)]? = some (.bool false) := hv ⟨12, .guard⟩ (by simp) rfl
                        clear hv hx
                        refine wpOp_step rfl (fun K hK => ?_)
                        go_simp
                        go_at_call 37
                        refine (HAI.out _).mono ?_
                        rintro e w2 ⟨rfl, rfl⟩
                        exact hK _ _ ⟨rfl, HJ.out⟩
                      · obtain rfl := Option.some.inj ho.symm
                        clear ho
                        have d19 : fr0.tmps[(85 : Nat)]? = some (.int .i64 (Q : Int)) := hv ⟨19, .data⟩ (by simp) rfl
                        have d21 : fr0.tmps[(87 : Nat)]? = some (.int .i64 (I : Int)) := hv ⟨21, .data⟩ (by simp) rfl
                        have d12 : fr0.tmps[(78 : Nat)]? = some (.bool false) := hv ⟨12, .guard⟩ (by simp) rfl
                        clear hv hx
                        refine wpOp_step rfl (fun K hK => ?_)
                        go_simp
                        exact hK _ _ ⟨rfl, HJ.out⟩
                      · obtain rfl := Option.some.inj ho.symm
                        clear ho
                        have d15 : fr0.tmps[(81 : Nat)]? = some (.slice (some ⟨b, ob, none⟩) L c) := hv ⟨15, .data⟩ (by simp) rfl
                        have d22 : fr0.tmps[(88 : Nat)]? = some (.int .i64 (R : Int)) := hv ⟨22, .data⟩ (by simp) rfl
                        have d12 : fr0.tmps[(78 : Nat)]? = some (.bool false) := hv ⟨12, .guard⟩ (by simp) rfl
                        clear hv hx
                        refine wpOp_step rfl (fun K hK => ?_)
                        go_simp
                        exact hK _ _ ⟨rfl, HJ.out⟩
                      · obtain rfl := Option.some.inj ho.symm
                        clear ho
                        have d23 : fr0.tmps[(89 : Nat)]? = some (.pointer (some ⟨b, ob + R, none⟩)) := hv ⟨23, .data⟩ (by simp) rfl
                        have d12 : fr0.tmps[(78 : Nat)]? = some (.bool false) := hv ⟨12, .guard⟩ (by simp) rfl
                        clear hv hx
                        refine wpOp_step rfl (fun K hK => ?_)
                        go_simp
                        exact hK _ _ ⟨rfl, HJ.out⟩
                      · obtain rfl := Option.some.inj ho.symm
                        clear ho
                        have d13 : fr0.tmps[(79 : Nat)]? = some (.int .i64 C) := hv ⟨13, .data⟩ (by simp) rfl
                        have d24 : fr0.tmps[(90 : Nat)]? = some (.int .i64 D) := hv ⟨24, .data⟩ (by simp) rfl
                        have d12 : fr0.tmps[(78 : Nat)]? = some (.bool false) := hv ⟨12, .guard⟩ (by simp) rfl
                        clear hv hx
                        refine wpOp_step rfl (fun K hK => ?_)
                        go_simp
                        exact hK _ _ ⟨rfl, HJ.out⟩
                      · obtain rfl := Option.some.inj ho.symm
                        clear ho
                        have d12 : fr0.tmps[(78 : Nat)]? = some (.bool false) := hv ⟨12, .data⟩ (by simp) rfl
                        have d25 : fr0.tmps[(91 : Nat)]? = some (.bool true) := hv ⟨25, .data⟩ (by simp) rfl
                        clear hv hx
                        refine wpOp_step rfl (fun K hK => ?_)
                        go_simp
                        exact hK _ _ ⟨rfl, HJ.out⟩
                    case he =>
                      intro w' hJ
                      simp only [putF, valsAt, Nat.reduceAdd, Nat.zero_add, List.getD_cons_zero, List.getD_cons_succ, Act.put, List.setIfInBounds_toArray, List.set_cons_succ, List.set_cons_zero]
                      rw [hJ]
                      clear hJ
                      go_wp2_with fail
                      go_ret
                      exact ⟨by rw [HR0.out]; rfl, HB1.out.trans (HJR.out.drew.mono HB1.out.size)⟩
              · rw [decide_eq_false kb] at HIS HRR
                have hRb : R0 = 121 := by rw [← HRR.out.1, okM_false HDJ.out.2.2.2 HDJ.out.2.2.1 (by rw [HRR.out.2]; rfl)]; rfl
                have HR0 := Lib.hid hRb
                clear kb hRb
                refine wp_region_any (by kernel_rfl) ?_
                refine wpAny_vals [66, 67, 68, 69, 70, 71, 72, 73, 74, 75, 76, 77, 78, 79, 80, 81, 82, 83, 84, 85, 86, 87, 88, 89, 90, 91, 92] [.int .i64 C, .bool false, .bool true, .bool true, undef, undef, undef, undef, undef, undef, undef, .bool true, .bool true, undef, undef, undef, undef, undef, undef, undef, undef, undef, undef, undef, undef, undef, .bool true] (fun w' => w' = wr.drew) rfl (by kernel_rfl) (by decide) (by kernel_rfl) ?hs ?he ?hj
                case hj => exact rfl
                case hs =>
                  intro qi qo ho fr0 hv hx w' hJ
                  have hi : qi < 27 := (Array.getElem?_eq_some_iff.1 ho).1
                  have c2 : w'.cell? ⟨X, 2, none⟩ = some (.slice (some ⟨b, ob, none⟩) L c) := by rw [hJ]; exact HX2.out
                  have cR : w'.cell? ⟨b, ob + R, none⟩ = some (.int .i64 D) := by rw [hJ]; exact HCR.out
                  have HJ := Lib.hid hJ
                  clear hJ
                  have hcase : qi = 0 ∨ qi = 1 ∨ qi = 2 ∨ qi = 3 ∨ qi = 4 ∨ qi = 5 ∨ qi = 6 ∨ qi = 7 ∨ qi = 8 ∨ qi = 9 ∨ qi = 10 ∨ qi = 11 ∨ qi = 12 ∨ qi = 13 ∨ qi = 14 ∨ qi = 15 ∨ qi = 16 ∨ qi = 17 ∨ qi = 18 ∨ qi = 19 ∨ qi = 20 ∨ qi = 21 ∨ qi = 22 ∨ qi = 23 ∨ qi = 24 ∨ qi = 25 ∨ qi = 26 := by omega
                  clear hi
                  rcases hcase with rfl | rfl | rfl | rfl | rfl | rfl | rfl | rfl | rfl | rfl | rfl | rfl | rfl | rfl | rfl | rfl | rfl | rfl | rfl | rfl | rfl | rfl | rfl | rfl | rfl | rfl | rfl
                  · obtain rfl := Option.some.inj ho.symm
                    clear ho
                    have x6 : fr0.tmps[(6 : Nat)]? = some (.int .i64 C) := hx 6 (by decide)
                    clear hv hx
                    refine wpOp_step rfl (fun K hK => ?_)
                    go_simp
                    exact hK _ _ ⟨rfl, HJ.out⟩
                  · obtain rfl := Option.some.inj ho.symm
                    clear ho
                    have d0 : fr0.tmps[(66 : Nat)]? = some (.int .i64 C) := hv ⟨0, .data⟩ (by simp) rfl
                    clear hv hx
                    refine wpOp_step rfl (fun K hK => ?_)
                    go_simp
                    go_at_call 36
                    refine (HIS.out _).mono ?_
                    rintro e w2 ⟨rfl, rfl⟩
                    exact hK _ _ ⟨rfl, HJ.out⟩
                  · obtain rfl := Option.some.inj ho.symm
                    clear ho
                    have d1 : fr0.tmps[(67 : Nat)]? = some (.bool false) := hv ⟨1, .data⟩ (by simp) rfl
                    clear hv hx
                    refine wpOp_step rfl (fun K hK => ?_)
                    go_simp
                    exact hK _ _ ⟨rfl, HJ.out⟩
                  · obtain rfl := Option.some.inj ho.symm
                    clear ho
                    have d2 : fr0.tmps[(68 : Nat)]? = some (.bool true) := hv ⟨2, .data⟩ (by simp) rfl
                    clear hv hx
                    refine wpOp_step rfl (fun K hK => ?_)
                    go_simp
                    exact hK _ _ ⟨rfl, HJ.out⟩
                  · obtain rfl := Option.some.inj ho.symm
                    clear ho
                    have d3 : fr0.tmps[(69 : Nat)]? = some (.bool true) := hv ⟨3, .guard⟩ (by simp) rfl
                    have x4 : fr0.tmps[(4 : Nat)]? = some (.int .i64 (i : Int)) := hx 4 (by decide)
                    clear hv hx
                    refine wpOp_step rfl (fun K hK => ?_)
                    go_simp
                    exact hK _ _ ⟨rfl, HJ.out⟩
                  · obtain rfl := Option.some.inj ho.symm
                    clear ho
                    have d3 : fr0.tmps[(69 : Nat)]? = some (.bool true) := hv ⟨3, .guard⟩ (by simp) rfl
                    have x5 : fr0.tmps[(5 : Nat)]? = some (.int .i64 (j : Int)) := hx 5 (by decide)
                    clear hv hx
                    refine wpOp_step rfl (fun K hK => ?_)
                    go_simp
                    exact hK _ _ ⟨rfl, HJ.out⟩
                  · obtain rfl := Option.some.inj ho.symm
                    clear ho
                    have d4 : fr0.tmps[(70 : Nat)]? = some (undef) := hv ⟨4, .data⟩ (by simp) rfl
                    have d5 : fr0.tmps[(71 : Nat)]? = some (undef) := hv ⟨5, .data⟩ (by simp) rfl
                    have d3 : fr0.tmps[(69 : Nat)]? = some (.bool true) := hv ⟨3, .guard⟩ (by simp) rfl
                    clear hv hx
                    refine wpOp_step rfl (fun K hK => ?_)
                    go_simp
                    exact hK _ _ ⟨rfl, HJ.out⟩
                  · obtain rfl := Option.some.inj ho.symm
                    clear ho
                    have d6 : fr0.tmps[(72 : Nat)]? = some (undef) := hv ⟨6, .data⟩ (by simp) rfl
                    have d3 : fr0.tmps[(69 : Nat)]? = some (.bool true) := hv ⟨3, .guard⟩ (by simp) rfl
                    clear hv hx
                    refine wpOp_step rfl (fun K hK => ?_)
                    go_simp
                    exact hK _ _ ⟨rfl, HJ.out⟩
                  · obtain rfl := Option.some.inj ho.symm
                    clear ho
                    have d7 : fr0.tmps[(73 : Nat)]? = some (undef) := hv ⟨7, .guard⟩ (by simp) rfl
                    have x6 : fr0.tmps[(6 : Nat)]? = some (.int .i64 C) := hx 6 (by decide)
                    clear hv hx
                    refine wpOp_step rfl (fun K hK => ?_)
                    go_simp
                    exact hK _ _ ⟨rfl, HJ.out⟩
                  · obtain rfl := Option.some.inj ho.symm
                    clear ho
                    have d8 : fr0.tmps[(74 : Nat)]? = some (undef) := hv ⟨8, .data⟩ (by simp) rfl
                    have d7 : fr0.tmps[(73 : Nat)]? = some (undef) := hv ⟨7, .guard⟩ (by simp) rfl
                    clear hv hx
                    refine wpOp_step rfl (fun K hK => ?_)
                    go_simp
                    exact hK _ _ ⟨rfl, HJ.out⟩
                  · obtain rfl := Option.some.inj ho.symm
                    clear ho
                    have d7 : fr0.tmps[(73 : Nat)]? = some (undef) := hv ⟨7, .data⟩ (by simp) rfl
                    have d9 : fr0.tmps[(75 : Nat)]? = some (undef) := hv ⟨9, .data⟩ (by simp) rfl
                    have d3 : fr0.tmps[(69 : Nat)]? = some (.bool true) := hv ⟨3, .guard⟩ (by simp) rfl
                    clear hv hx
                    refine wpOp_step rfl (fun K hK => ?_)
                    go_simp
                    exact hK _ _ ⟨rfl, HJ.out⟩
                  · obtain rfl := Option.some.inj ho.symm
                    clear ho
                    have d3 : fr0.tmps[(69 : Nat)]? = some (.bool true) := hv ⟨3, .data⟩ (by simp) rfl
                    have d10 : fr0.tmps[(76 : Nat)]? = some (undef) := hv ⟨10, .data⟩ (by simp) rfl
                    clear hv hx
                    refine wpOp_step rfl (fun K hK => ?_)
                    go_simp
                    exact hK _ _ ⟨rfl, HJ.out⟩
                  · obtain rfl := Option.some.inj ho.symm
                    clear ho
                    have d11 : fr0.tmps[(77 : Nat)]? = some (.bool true) := hv ⟨11, .data⟩ (by simp) rfl
                    clear hv hx
                    refine wpOp_step rfl (fun K hK => ?_)
                    go_simp
                    exact hK _ _ ⟨rfl, HJ.out⟩
                  · obtain rfl := Option.some.inj ho.symm
                    clear ho
                    have d12 : fr0.tmps[(78 : Nat)]? = some (.bool true) := hv ⟨12, .guard⟩ (by simp) rfl
                    have x6 : fr0.tmps[(6 : Nat)]? = some (.int .i64 C) := hx 6 (by decide)
                    clear hv hx
                    refine wpOp_step rfl (fun K hK => ?_)
                    go_simp
                    exact hK _ _ ⟨rfl, HJ.out⟩
                  · obtain rfl := Option.some.inj ho.symm
                    clear ho
                    have d12 : fr0.tmps[(78 : Nat)]? = some (.bool true) := hv ⟨12, .guard⟩ (by simp) rfl
                    have x1 : fr0.tmps[(1 : Nat)]? = some (.pointer (some ⟨X, 0, none⟩)) := hx 1 (by decide)
                    clear hv hx
                    refine wpOp_step rfl (fun K hK => ?_)
                    go_simp
                    exact hK _ _ ⟨rfl, HJ.out⟩
                  · obtain rfl := Option.some.inj ho.symm
                    clear ho
                    have d14 : fr0.tmps[(80 : Nat)]? = some (undef) := hv ⟨14, .data⟩ (by simp) rfl
                    have d12 : fr0.tmps[(78 : Nat)]? = some (.bool true) := hv ⟨12, .guard⟩ (by simp) rfl
                    clear hv hx
                    refine wpOp_step rfl (fun K hK => ?_)
                    go_simp
                    exact hK _ _ ⟨rfl, HJ.out⟩
                  · obtain rfl := Option.some.inj ho.symm
                    clear ho
                    have d12 : fr0.tmps[(78 : Nat)]? = some (.bool true) := hv ⟨12, .guard⟩ (by simp) rfl
                    have x5 : fr0.tmps[(5 : Nat)]? = some (.int .i64 (j : Int)) := hx 5 (by decide)
                    clear hv hx
                    refine wpOp_step rfl (fun K hK => ?_)
                    go_simp
                    exact hK _ _ ⟨rfl, HJ.out⟩
                  · obtain rfl := Option.some.inj ho.symm
                    clear ho
                    have d16 : fr0.tmps[(82 : Nat)]? = some (undef) := hv ⟨16, .data⟩ (by simp) rfl
                    have d12 : fr0.tmps[(78 : Nat)]? = some (.bool true) := hv ⟨12, .guard⟩ (by simp) rfl
                    clear hv hx
                    refine wpOp_step rfl (fun K hK => ?_)
                    go_simp
                    exact hK _ _ ⟨rfl, HJ.out⟩
                  · obtain rfl := Option.some.inj ho.symm
                    clear ho
                    have d12 : fr0.tmps[(78 : Nat)]? = some (.bool true) := hv ⟨12, .guard⟩ (by simp) rfl
                    have x3 : fr0.tmps[(3 : Nat)]? = some (.int .i64 (K : Int)) := hx 3 (by decide)
                    clear hv hx
                    refine wpOp_step rfl (fun K hK => ?_)
                    go_simp
                    exact hK _ _ ⟨rfl, HJ.out⟩
                  · obtain rfl := Option.some.inj ho.symm
                    clear ho
                    have d17 : fr0.tmps[(83 : Nat)]? = some (undef) := hv ⟨17, .data⟩ (by simp) rfl
                    have d18 : fr0.tmps[(84 : Nat)]? = some (undef) := hv ⟨18, .data⟩ (by simp) rfl
                    have d12 : fr0.tmps[(78 : Nat)]? = some (.bool true) := hv ⟨12, .guard⟩ (by simp) rfl
                    clear hv hx
                    refine wpOp_step rfl (fun K hK => ?_)
                    go_simp
                    exact hK _ _ ⟨rfl, HJ.out⟩
                  · obtain rfl := Option.some.inj ho.symm
                    clear ho
                    have d12 : fr0.tmps[(78 : Nat)]? = some (.bool true) := hv ⟨12, .guard⟩ (by simp) rfl
                    have x4 : fr0.tmps[(4 : Nat)]? = some (.int .i64 (i : Int)) := hx 4 (by decide)
                    clear hv hx
                    refine wpOp_step rfl (fun K hK => ?_)
                    go_simp
                    exact hK _ _ ⟨rfl, HJ.out⟩
                  · obtain rfl := Option.some.inj ho.symm
                    clear ho
                    have d20 : fr0.tmps[(86 : Nat)]? = some (undef) := hv ⟨20, .data⟩ (by simp) rfl
                    have d12 : fr0.tmps[(78 : Nat)]? = some (.bool true) := hv ⟨12, .guard⟩ (by simp) rfl
                    clear hv hx
                    refine wpOp_step rfl (fun K hK => ?_)
                    go_simp
                    exact hK _ _ ⟨rfl, HJ.out⟩
                  · obtain rfl := Option.some.inj ho.symm
                    clear ho
                    have d19 : fr0.tmps[(85 : Nat)]? = some (undef) := hv ⟨19, .data⟩ (by simp) rfl
                    have d21 : fr0.tmps[(87 : Nat)]? = some (undef) := hv ⟨21, .data⟩ (by simp) rfl
                    have d12 : fr0.tmps[(78 : Nat)]? = some (.bool true) := hv ⟨12, .guard⟩ (by simp) rfl
                    clear hv hx
                    refine wpOp_step rfl (fun K hK => ?_)
                    go_simp
                    exact hK _ _ ⟨rfl, HJ.out⟩
                  · obtain rfl := Option.some.inj ho.symm
                    clear ho
                    have d15 : fr0.tmps[(81 : Nat)]? = some (undef) := hv ⟨15, .data⟩ (by simp) rfl
                    have d22 : fr0.tmps[(88 : Nat)]? = some (undef) := hv ⟨22, .data⟩ (by simp) rfl
                    have d12 : fr0.tmps[(78 : Nat)]? = some (.bool true) := hv ⟨12, .guard⟩ (by simp) rfl
                    clear hv hx
                    refine wpOp_step rfl (fun K hK => ?_)
                    go_simp
                    exact hK _ _ ⟨rfl, HJ.out⟩
                  · obtain rfl := Option.some.inj ho.symm
                    clear ho
                    have d23 : fr0.tmps[(89 : Nat)]? = some (undef) := hv ⟨23, .data⟩ (by simp) rfl
                    have d12 : fr0.tmps[(78 : Nat)]? = some (.bool true) := hv ⟨12, .guard⟩ (by simp) rfl
                    clear hv hx
                    refine wpOp_step rfl (fun K hK => ?_)
                    go_simp
                    exact hK _ _ ⟨rfl, HJ.out⟩
                  · obtain rfl := Option.some.inj ho.symm
                    clear ho
                    have d13 : fr0.tmps[(79 : Nat)]? = some (undef) := hv ⟨13, .data⟩ (by simp) rfl
                    have d24 : fr0.tmps[(90 : Nat)]? = some (undef) := hv ⟨24, .data⟩ (by simp) rfl
                    have d12 : fr0.tmps[(78 : Nat)]? = some (.bool true) := hv ⟨12, .guard⟩ (by simp) rfl
                    clear hv hx
                    refine wpOp_step rfl (fun K hK => ?_)
                    go_simp
                    exact hK _ _ ⟨rfl, HJ.out⟩
                  · obtain rfl := Option.some.inj ho.symm
                    clear ho
                    have d12 : fr0.tmps[(78 : Nat)]? = some (.bool true) := hv ⟨12, .data⟩ (by simp) rfl
                    have d25 : fr0.tmps[(91 : Nat)]? = some (undef) := hv ⟨25, .data⟩ (by simp) rfl
                    clear hv hx
                    refine wpOp_step rfl (fun K hK => ?_)
                    go_simp
                    exact hK _ _ ⟨rfl, HJ.out⟩
                case he =>
                  intro w' hJ
                  simp only [putF, valsAt, Nat.reduceAdd, Nat.zero_add, List.getD_cons_zero, List.getD_cons_succ, Act.put, List.setIfInBounds_toArray, List.set_cons_succ, List.set_cons_zero]
                  rw [hJ]
                  clear hJ
                  go_wp2_with fail
                  go_ret
                  exact ⟨by rw [HR0.out]; rfl, HB1.out.trans (HJR.out.drew.mono HB1.out.size)⟩
            · obtain rfl : j = K := by omega
              have HJR := Lib.hid hbr
              have hnx : ∀ p, p < i + 1 → ∀ q, q < j → okC j m p q = true := fun p hp q hq => by
                rcases Nat.lt_or_ge p i with h | h
                · exact HD.out p h q hq
                · obtain rfl : p = i := by omega
                  exact hd q hq
              have HNX := Lib.hid hnx
              have hbi : (i : Int) + 1 ≤ 9223372036854775807 := by have := HK.out.2.2.2.2.2.1; omega
              clear hd hbr hnx
              go_wp2_with fail
              go_roundw
              case rel => exact ⟨i + 1, by go_num, by omega, HNX.out, HJR.out⟩
              case measure => simp [intOf]; omega
        · obtain rfl : i = K := by omega
          have hR1 : R0 = 0 := by rw [← HK.out.2.2.2.2.1, okM_true hd]; rfl
          have HR0 := Lib.hid hR1
          have HJR := Lib.hid hbr
          clear hd hbr hR1
          go_wp2_with fail
          go_ret
          exact ⟨by rw [HR0.out]; rfl, HB1.out.trans (HJR.out.mono HB1.out.size)⟩
    · rw [if_pos (.inr (.inr (.inr ⟨rfl, by omega⟩)))] at hR0
      subst hR0
      have k3 : ((L : Int) != (S : Int)) = true := by simp; omega
      clear hX hW1 hx1 hb1 hm1 hm hL hN64 hNN hq hqq hS hS4
      go_enter Try.func11, Try.ntmps11
      go_upto_region 1 with fail
      rw [HX.out.1, HX.out.2]
      go_wp2_with fail
      go_ret
      exact ⟨rfl, HB1.out⟩
end Go.Proofs.Ythnefcafhpioaaa
