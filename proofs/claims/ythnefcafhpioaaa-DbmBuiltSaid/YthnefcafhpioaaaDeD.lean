/-
  The document's Has.
-/
import Derived.Test.YthnefcafhpioaaaDeC
import Derived.Test.YthnefcafhpioaaaDdC
namespace Go.Proofs.Ythnefcafhpioaaa
open Go Go.RowKit Go.Shelf

theorem apV_inf (p : List Int) (i j : Nat) : apV p i j ≤ 9223372036854775807 := by unfold apV nearV; split <;> (try split) <;> omega
theorem diff_cases (p : List Int) (i j : Nat) (C : Int) (h1 : -4611686018427387904 ≤ C) (h2 : C ≤ 4611686018427387904) : (diffV p i j = (0, 1) ∧ C < apV p i j) ∨ (diffV p i j = (0, -1) ∧ apV p i j ≤ C) ∨ (∃ d, diffV p i j = (d, 0) ∧ (apV p i j ≤ C ↔ d ≤ C)) := by
  unfold diffV apV nearV
  obtain ⟨D, hD⟩ : ∃ D, vS p i - vS p j = D := ⟨_, rfl⟩
  rw [hD]
  by_cases k1 : 4611686018427387904 < D
  · rw [if_pos k1]
    refine .inl ⟨rfl, ?_⟩
    split <;> (try split) <;> omega
  · rw [if_neg k1]
    by_cases k2 : D < -4611686018427387904
    · rw [if_pos k2]
      refine .inr (.inl ⟨rfl, ?_⟩)
      split <;> (try split) <;> omega
    · rw [if_neg k2]
      refine .inr (.inr ⟨D, rfl, ?_⟩)
      split <;> (try split) <;> omega
set_option maxRecDepth 100000 in
set_option maxHeartbeats 8000000 in
theorem rhas_any (x : Oc) (a : Option Addr) (c : Nat) (p : List Int) (ap : Option Addr) (cp : Nat) (w : World) (hm : MAt w x.m a) (hp : MAt w p ap) (hpi : ∀ v ∈ p, isI v) :
    Calls Try.prog 26 #[ocV x a c, .slice ap p.length cp] w fun e w' => e = .returned (.bool (hasV x p)) ∧ Below w.heap.size w w' := by
  obtain ⟨n, em, m⟩ := x
  simp only at hm
  show Calls Try.prog 26 #[.agg #[.int .i64 n, .bool em, .slice a m.length c], .slice ap p.length cp] w _
  obtain ⟨X, hX⟩ : ∃ X, w.heap.size = X := ⟨_, rfl⟩
  obtain ⟨W1, hW1⟩ : ∃ W, w.alloc (.cells #[.int .i64 n, .bool em, .slice a m.length c] 24) = W := ⟨_, rfl⟩
  have hx1 : Blk W1 X #[.int .i64 n, .bool em, .slice a m.length c] 24 := by rw [← hW1, ← hX]; exact Blk.new w _ _
  have hb1 : Below w.heap.size w W1 := by rw [← hW1]; exact (Below.refl _ w).alloc (Nat.le_refl _) _
  have hm1 : MAt W1 m a := hm.next hb1
  have hp1 : MAt W1 p ap := hp.next hb1
  have HC : Hid (Calls Try.prog 11 #[.agg #[.int .i64 n, .bool em, .slice a m.length c]] W1 fun e w' => e = .returned (.int .i64 (chkO ⟨n, em, m⟩)) ∧ Below W1.heap.size W1 w') := Lib.hid (rchk_any ⟨n, em, m⟩ a c W1 hm1)
  have HW := Lib.hid (And.intro hX hW1)
  have x0 : W1.cell? ⟨X, 0, none⟩ = some (.int .i64 n) := hx1.cell 0
  have x1 : W1.cell? ⟨X, 1, none⟩ = some (.bool em) := hx1.cell 1
  have x2 : W1.cell? ⟨X, 2, none⟩ = some (.slice a m.length c) := hx1.cell 2
  have HKP : Hid (∀ ww : World, Below W1.heap.size W1 ww → Blk ww X #[.int .i64 n, .bool em, .slice a m.length c] 24 ∧ MAt ww m a ∧ MAt ww p ap ∧ Below w.heap.size w ww) := Lib.hid fun ww hb => ⟨hx1.below hb hx1.lt, hm1.next hb, hp1.next hb, hb1.trans (hb.mono hb1.size)⟩
  obtain ⟨L, hL⟩ : ∃ L, m.length = L := ⟨_, rfl⟩
  obtain ⟨NP, hNP⟩ : ∃ L, p.length = L := ⟨_, rfl⟩
  obtain ⟨F, hF⟩ : ∃ F, chkO ⟨n, em, m⟩ = F := ⟨_, rfl⟩
  rw [hF] at HC
  by_cases h0 : F = 0
  · cases em with
    | true =>
      have e : hasV ⟨n, true, m⟩ p = false := by unfold hasV; rw [if_pos (.inr (.inl rfl))]
      have k0 : (F != 0) = false := by simp [h0]
      rw [e]
      rw [hL] at x2 HW HC HKP ⊢
      rw [hNP]
      clear hW1 hX hm1 hx1 hb1 hm hp hp1 hF e hL hNP hpi h0
      go_enter Try.func26, Try.ntmps26
      go_upto_region 1 with fail
      rw [HW.out.1, HW.out.2]
      go_wp2_with (first | (go_at_call 11; ((with_reducible refine HC.out.mono ?_); rintro e w2 ⟨rfl, hb2⟩; have HK2 := Lib.hid (HKP.out _ hb2); have y0 := HK2.out.1.cell 0; have y1 := HK2.out.1.cell 1)) | fail)
      go_ret
      exact ⟨rfl, HK2.out.2.2.2⟩
    | false =>
      by_cases hnp : (NP : Int) = n
      · obtain ⟨N, hN, hn, hem, hok⟩ := chk_zero (hF.trans h0)
        simp only at hn hem hok
        subst hn
        have hnpn : NP = N := by omega
        subst hnpn
        obtain ⟨hlen, hokm⟩ := hok (by simp)
        have e : hasV ⟨NP, false, m⟩ p = hasM (2 * NP) m p := by unfold hasV; rw [if_neg (by simp [hF, h0, hNP])]; rfl
        rw [e]
        subst h0
        obtain ⟨K, hK⟩ : ∃ K, 2 * NP = K := ⟨_, rfl⟩
        have eK : IntKind.i64.wrap (2 * (NP : Int)) = (K : Int) := by rw [isI_wrap (by unfold isI; omega)]; omega
        have eK' : wrap64 (2 * (NP : Int)) = (K : Int) := by rw [IntWalk.wrap64_in _ (by omega)]; omega
        have HDI : Hid (∀ (i j : Nat) (ww : World), i < K → j < K → MAt ww p ap → Calls Try.prog 31 #[.slice ap NP cp, .int .i64 i, .int .i64 j] ww fun e w' => e = .returned (.tuple #[.int .i64 (diffV p i j).1, .int .i64 (diffV p i j).2]) ∧ Below ww.heap.size ww w') := Lib.hid fun i j ww hi hj h => by
          have h2 := diff_any p hpi ap cp i j (by omega) (by omega) (by omega) ww h
          rw [hNP] at h2
          exact h2
        rw [hL] at hlen
        rw [hK] at hlen hokm ⊢
        have HZ := Lib.hid (And.intro hlen (And.intro hokm (And.intro hL (And.intro (show K ≤ 128 by omega) hK))))
        rw [hL] at x2 HW HC HKP ⊢
        rw [hNP]
        clear hW1 hX hm1 hx1 hb1 hm hp hp1 hF hem hok e hlen hL hNP hN hpi hnp hokm hK
        go_enter Try.func26, Try.ntmps26
        go_upto_region 1 with fail
        rw [HW.out.1, HW.out.2]
        go_upto_region 5 with (first | (go_at_call 11; ((with_reducible refine HC.out.mono ?_); rintro e w2 ⟨rfl, hb2⟩; have HK2 := Lib.hid hb2; have y0 := (HKP.out _ hb2).1.cell 0; have y1 := (HKP.out _ hb2).1.cell 1; clear hb2)) | fail)
        clear eK eK' x0 x1 x2 y0 y1 HC
        go_wp2_with fail
        go_loopw [6] (fun x wr => ∃ i : Nat, x = .int .i64 i ∧ i ≤ K ∧ (∀ s, s < i → ∀ t, t < K → apV p s t ≤ gM K m s t) ∧ Below W1.heap.size W1 wr) (fun x _ => K - (intOf x).toNat)
        case atStart => exact ⟨0, rfl, by omega, fun p hp => by omega, HK2.out⟩
        case round =>
          obtain ⟨i, rfl, hi, hd, hbr⟩ := hrel
          clear HK2
          have hKl := HZ.out.2.2.2.1
          by_cases hlt : i < K
          · have HD := Lib.hid hd
            obtain ⟨wo, hwo⟩ : ∃ x, x = wr := ⟨_, rfl⟩
            subst hwo
            have HBO := Lib.hid hbr
            clear hbr hd
            go_wp2_with fail
            go_loopw [7] (fun x wr => ∃ j : Nat, x = .int .i64 j ∧ j ≤ K ∧ (∀ t, t < j → apV p i t ≤ gM K m i t) ∧ Below W1.heap.size W1 wr) (fun x _ => K - (intOf x).toNat)
            case atStart => exact ⟨0, rfl, by omega, fun p hp => by omega, HBO.out⟩
            case round =>
              obtain ⟨j, rfl, hj, hd, hbr⟩ := hrel
              by_cases hjt : j < K
              · have hbj : (j : Int) + 1 ≤ 9223372036854775807 := by omega
                obtain ⟨hxr, hmr, hpr, -⟩ := HKP.out _ hbr
                have hT := cell_lt hlt hjt
                rw [← HZ.out.1] at hT
                obtain ⟨b, ob, rfl, hc⟩ := hmr.resolve_left (by have := HZ.out.2.2.1; omega)
                have hbd := (okM_at HZ.out.2.1 hlt hjt)
                have cT : wr.cell? ⟨b, ob + (i * K + j), none⟩ = some (.int .i64 (gM K m i j)) := gM_at hmr (HZ.out.2.2.1.trans HZ.out.1) hlt hjt
                have hnx : apV p i j ≤ gM K m i j → ∀ t, t < j + 1 → apV p i t ≤ gM K m i t := fun h t ht => by
                  rcases Nat.lt_or_ge t j with h' | h'
                  · exact hd t h'
                  · obtain rfl : t = j := by omega
                    exact h
                have hno : gM K m i j < apV p i j → hasM K m p = false := hasM_false hlt hjt
                obtain ⟨C, hC⟩ : ∃ C, gM K m i j = C := ⟨_, rfl⟩
                rw [hC] at cT hbd hnx hno
                have hdc := diff_cases p i j C
                have hdi := HDI.out i j
                obtain ⟨P, hP⟩ : ∃ P, i * K = P := ⟨_, rfl⟩
                obtain ⟨T, hTe⟩ : ∃ T, P + j = T := ⟨_, rfl⟩
                rw [hP, hTe] at cT hT
                have tl : (T : Int) < (L : Int) := by omega
                obtain ⟨e1, e1', e2, e2'⟩ := ixw (K := K) hKl hlt hjt hP hTe
                have x2r := hxr.cell 2
                have HJR := Lib.hid hbr
                have HIB := Lib.hid (show apV p i j ≤ inf from apV_inf p i j)
                have HPR := Lib.hid hpr
                have HLT := Lib.hid (And.intro hlt hjt)
                clear hxr hmr hc hd hbr hC hT hP hTe hpr
                by_cases kinf : C = inf
                · have HNX := Lib.hid (hnx (by rw [kinf]; exact HIB.out))
                  have k1 : (C == 9223372036854775807) = true := by simpa using kinf
                  clear hnx hno hbd hdc hdi kinf
                  go_upto_region 11 with fail
                  clear e1 e2 e1' e2' cT x2r
                  go_wp2_with fail
                  go_roundw
                  case rel => exact ⟨j + 1, by go_num, by omega, HNX.out, HJR.out⟩
                  case measure => simp [intOf]; omega
                · have k1 : (C == 9223372036854775807) = false := by simpa using kinf
                  by_cases kij : i = j
                  · have k2 : ((i : Int) == (j : Int)) = true := by simp [kij]
                    have HNX := Lib.hid (hnx (by rw [hbd.2.1 kij, kij]; unfold apV; rw [Int.sub_self]; decide))
                    clear hnx hno hbd hdc hdi kinf kij
                    go_upto_region 11 with fail
                    clear e1 e2 e1' e2' cT x2r
                    go_wp2_with fail
                    go_roundw
                    case rel => exact ⟨j + 1, by go_num, by omega, HNX.out, HJR.out⟩
                    case measure => simp [intOf]; omega
                  · have k2 : ((i : Int) == (j : Int)) = false := by simp; omega
                    have hb := hbd.1
                    unfold isBound at hb
                    have kinf2 : C ≠ 9223372036854775807 := kinf
                    have hdc2 := hdc (by omega) (by omega)
                    clear kinf2
                    have hsz := HJR.out.size
                    clear hbd hdc hb
                    go_upto_region 11 with fail
                    clear e1 e2 e1' e2' cT x2r
                    rcases hdc2 with ⟨hdv, hap⟩ | ⟨hdv, hap⟩ | ⟨d, hdv, hap⟩
                    · have HNO := Lib.hid (hno hap)
                      rw [hdv] at hdi
                      have HDV := Lib.hid hdi
                      clear hnx hno hdi hdv kij kinf hap
                      go_wp2_with (first | (go_at_call 31; ((with_reducible refine (HDV.out _ HLT.out.1 HLT.out.2 HPR.out).mono ?_); rintro e w5 ⟨rfl, hb5⟩)) | fail)
                      go_ret
                      exact ⟨by rw [HNO.out]; rfl, (HKP.out _ (HJR.out.trans (hb5.mono hsz))).2.2.2⟩
                    · have HNX := Lib.hid (hnx hap)
                      rw [hdv] at hdi
                      have HDV := Lib.hid hdi
                      clear hnx hno hdi hdv kij kinf hap
                      go_wp2_with (first | (go_at_call 31; ((with_reducible refine (HDV.out _ HLT.out.1 HLT.out.2 HPR.out).mono ?_); rintro e w5 ⟨rfl, hb5⟩)) | fail)
                      go_roundw
                      case rel => exact ⟨j + 1, by go_num, by omega, HNX.out, HJR.out.trans (hb5.mono hsz)⟩
                      case measure => simp [intOf]; omega
                    · rw [hdv] at hdi
                      have HDV := Lib.hid hdi
                      by_cases kd : d ≤ C
                      · have HNX := Lib.hid (hnx (hap.2 kd))
                        have kd2 : decide (C < d) = false := by simpa using kd
                        clear hnx hno hdi hdv kij kinf hap kd
                        go_wp2_with (first | (go_at_call 31; ((with_reducible refine (HDV.out _ HLT.out.1 HLT.out.2 HPR.out).mono ?_); rintro e w5 ⟨rfl, hb5⟩)) | fail)
                        go_roundw
                        case rel => exact ⟨j + 1, by go_num, by omega, HNX.out, HJR.out.trans (hb5.mono hsz)⟩
                        case measure => simp [intOf]; omega
                      · have HNO := Lib.hid (hno (by have := mt hap.1 kd; omega))
                        have kd2 : C < d := by omega
                        clear hnx hno hdi hdv kij kinf hap kd
                        go_wp2_with (first | (go_at_call 31; ((with_reducible refine (HDV.out _ HLT.out.1 HLT.out.2 HPR.out).mono ?_); rintro e w5 ⟨rfl, hb5⟩)) | fail)
                        go_ret
                        exact ⟨by rw [HNO.out]; rfl, (HKP.out _ (HJR.out.trans (hb5.mono hsz))).2.2.2⟩
              · obtain rfl : j = K := by omega
                have HJR := Lib.hid hbr
                have hnx : ∀ s, s < i + 1 → ∀ t, t < j → apV p s t ≤ gM j m s t := fun s hs t ht => by
                  rcases Nat.lt_or_ge s i with h | h
                  · exact HD.out s h t ht
                  · obtain rfl : s = i := by omega
                    exact hd t ht
                have HNX := Lib.hid hnx
                have hbi : (i : Int) + 1 ≤ 9223372036854775807 := by omega
                clear hd hbr hnx
                go_wp2_with fail
                go_roundw
                case rel => exact ⟨i + 1, by go_num, by omega, HNX.out, HJR.out⟩
                case measure => simp [intOf]; omega
          · obtain rfl : i = K := by omega
            have hR1 : hasM i m p = true := hasM_iff.2 fun s t hs ht => hd s hs t ht
            have HR0 := Lib.hid hR1
            have HJR := Lib.hid hbr
            clear hd hbr hR1
            go_wp2_with fail
            go_ret
            exact ⟨by rw [HR0.out]; rfl, (HKP.out _ HJR.out).2.2.2⟩
      · have e : hasV ⟨n, false, m⟩ p = false := by unfold hasV; rw [if_pos (.inr (.inr (by rw [hNP]; exact hnp)))]
        have k0 : (F != 0) = false := by simp [h0]
        have k1 : ((NP : Int) != n) = true := by simpa using hnp
        rw [e]
        rw [hL] at x2 HW HC HKP ⊢
        rw [hNP]
        clear hW1 hX hm1 hx1 hb1 hm hp hp1 hF e hL hNP hpi h0
        go_enter Try.func26, Try.ntmps26
        go_upto_region 1 with fail
        rw [HW.out.1, HW.out.2]
        go_wp2_with (first | (go_at_call 11; ((with_reducible refine HC.out.mono ?_); rintro e w2 ⟨rfl, hb2⟩; have HK2 := Lib.hid (HKP.out _ hb2); have y0 := HK2.out.1.cell 0; have y1 := HK2.out.1.cell 1)) | fail)
        go_ret
        exact ⟨rfl, HK2.out.2.2.2⟩
  · have e : hasV ⟨n, em, m⟩ p = false := by unfold hasV; rw [if_pos (.inl (by rw [hF]; exact h0))]
    have k0 : (F != 0) = true := by simpa using h0
    rw [e]
    rw [hL] at x2 HW HC HKP ⊢
    rw [hNP]
    clear hW1 hX hm1 hx1 hb1 hm hp hp1 hF e hL hNP hpi h0
    go_enter Try.func26, Try.ntmps26
    go_upto_region 1 with fail
    rw [HW.out.1, HW.out.2]
    go_wp2_with (first | (go_at_call 11; ((with_reducible refine HC.out.mono ?_); rintro e w2 ⟨rfl, hb2⟩; have HK2 := Lib.hid (HKP.out _ hb2); have y0 := HK2.out.1.cell 0; have y1 := HK2.out.1.cell 1)) | fail)
    go_ret
    exact ⟨rfl, HK2.out.2.2.2⟩
end Go.Proofs.Ythnefcafhpioaaa
