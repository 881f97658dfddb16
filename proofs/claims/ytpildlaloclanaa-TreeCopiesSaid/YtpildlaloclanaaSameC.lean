/-
  The document's sameness of conditions (gnomonref3's SameCond): proved is that it answers whether two trees in memory are the same, and that it turns nothing that lay.
-/
import Derived.Test.YtpildlaloclanaaSameE
namespace Go.Proofs.Ytpildlaloclanaa
open Go Go.RowKit

set_option maxRecDepth 100000 in
set_option maxHeartbeats 8000000 in
theorem sameC_any (w0 : World) : ∀ (N : Nat) (x y : Nd), SizeOf.sizeOf x ≤ N → x.ty = .C → y.ty = .C → SameOf 66 w0 x y := by
  intro N
  induction N with
  | zero =>
    intro x y hN
    obtain ⟨ty, k, n, nm, xs, cs, ts, es⟩ := x
    simp only [Nd.mk.sizeOf_spec] at hN
    omega
  | succ N ih =>
    intro x y hN hx hy us vs w hin hjn hw
    have hmem := fun y h => Nd.mem_size (x := x) (y := y) h
    obtain ⟨ty, k, n, nm, xs, cs, ts, es⟩ := x
    obtain ⟨ty2, k2, n2, nm2, xs2, cs2, ts2, es2⟩ := y
    simp only [Nd.ty] at hx hy
    subst hx hy
    simp only [Nd.xs, Nd.cs, Nd.ts, Nd.es] at hmem
    unfold NdIn at hin hjn
    obtain ⟨⟨rfl, rfl, rfl⟩, -, -, -, vx, vc, vt, ve, rfl, hxs, hcs, -, -⟩ := hin
    obtain ⟨⟨rfl, rfl, rfl⟩, -, -, -, vx2, vc2, vt2, ve2, rfl, hxs2, hcs2, -, -⟩ := hjn
    obtain ⟨a, c, rfl, hlc1, hcm1, hrow1⟩ := hxs
    obtain ⟨a2, c2, rfl, -, -, hrow1'⟩ := hxs2
    obtain ⟨b, d, rfl, hlc2, hcm2, hrow2⟩ := hcs
    obtain ⟨b2, d2, rfl, -, -, hrow2'⟩ := hcs2
    change Calls _ _ #[.agg #[.int .i64 k, .int .i64 n, .slice a xs.length c, .slice b cs.length d], .agg #[.int .i64 k2, .int .i64 n2, .slice a2 xs2.length c2, .slice b2 cs2.length d2]] w _
    have HIH1 := Lib.hid (fun i (h : i < xs.length) (j) (h2 : j < xs2.length) (h3 : (xs[i]).ty = .E) (h4 : (xs2[j]).ty = .E) => sameE_any w0 _ xs[i] xs2[j] (Nat.le_refl _) h3 h4)
    have HIH2 := Lib.hid (fun i (h : i < cs.length) (j) (h2 : j < cs2.length) (h3 : (cs[i]).ty = .C) (h4 : (cs2[j]).ty = .C) => ih cs[i] cs2[j] (by have := hmem _ (.inr (.inl (List.getElem_mem h))); omega) h3 h4)
    clear ih hmem hN
    have HROW1 := Lib.hid hrow1; clear hrow1
    have HROW1' := Lib.hid hrow1'; clear hrow1'
    have HROW2 := Lib.hid hrow2; clear hrow2
    have HROW2' := Lib.hid hrow2'; clear hrow2'
    have hres : sameN (.mk .C k n ⟨#[]⟩ xs cs [] []) (.mk .C k2 n2 ⟨#[]⟩ xs2 cs2 [] []) = ((k == k2) && (n == n2) && sameL xs xs2 && sameL cs cs2) := by
      unfold sameN
      simp [sameL]
    obtain ⟨Q, hQ⟩ : ∃ Q, sameN (.mk .C k n ⟨#[]⟩ xs cs [] []) (.mk .C k2 n2 ⟨#[]⟩ xs2 cs2 [] []) = Q := ⟨_, rfl⟩
    rw [hQ] at hres ⊢
    clear hQ
    have HQ := Lib.hid hres; clear hres
    have hal : Below w.heap.size w ((w.alloc (.cells #[.int .i64 k, .int .i64 n, .slice a xs.length c, .slice b cs.length d] 45)).alloc (.cells #[.int .i64 k2, .int .i64 n2, .slice a2 xs2.length c2, .slice b2 cs2.length d2] 45)) := ((Below.refl _ w).alloc (Nat.le_refl _) _).alloc (by simp) _
    have HAL := Lib.hid hal; clear hal
    cases h1 : (k != k2) with
    | true =>
      have e : Q = false := by
        rw [HQ.out]; rw [bne, Bool.not_eq_true'] at h1; rw [h1]; simp
      clear HIH1 HIH2 HROW1 HROW1' HROW2 HROW2' HQ
      subst e
      go_enter Try.func66, Try.ntmps66
      go_wp2_with fail
      go_ret
      exact ⟨rfl, HAL.out⟩
    | false =>
    cases h2 : (n != n2) with
    | true =>
      have e : Q = false := by
        rw [HQ.out]; rw [bne, Bool.not_eq_true'] at h2; rw [h2]; simp
      clear HIH1 HIH2 HROW1 HROW1' HROW2 HROW2' HQ
      subst e
      go_enter Try.func66, Try.ntmps66
      go_wp2_with fail
      go_ret
      exact ⟨rfl, HAL.out⟩
    | false =>
    cases h3 : ((xs.length : Int) != (xs2.length : Int)) with
    | true =>
      have e : Q = false := by
        rw [HQ.out]
        cases hs : sameL xs xs2 with
        | false => simp
        | true =>
          have := sameL_len hs
          simp [this] at h3
      clear HIH1 HIH2 HROW1 HROW1' HROW2 HROW2' HQ
      subst e
      go_enter Try.func66, Try.ntmps66
      go_wp2_with fail
      go_ret
      exact ⟨rfl, HAL.out⟩
    | false =>
    cases h4 : ((cs.length : Int) != (cs2.length : Int)) with
    | true =>
      have e : Q = false := by
        rw [HQ.out]
        cases hs : sameL cs cs2 with
        | false => simp
        | true =>
          have := sameL_len hs
          simp [this] at h4
      clear HIH1 HIH2 HROW1 HROW1' HROW2 HROW2' HQ
      subst e
      go_enter Try.func66, Try.ntmps66
      go_wp2_with fail
      go_ret
      exact ⟨rfl, HAL.out⟩
    | false =>
    have e : Q = (sameL xs xs2 && sameL cs cs2) := by
      rw [HQ.out]
      rw [bne, Bool.not_eq_false'] at h1 h2
      rw [h1, h2]
      rfl
    clear HQ
    have HQ := Lib.hid e; clear e
    have HLEN1 := Lib.hid (show xs.length = xs2.length by rw [bne, Bool.not_eq_false', beq_iff_eq] at h3; omega)
    have HLEN2 := Lib.hid (show cs.length = cs2.length by rw [bne, Bool.not_eq_false', beq_iff_eq] at h4; omega)
    obtain ⟨W1, hW1⟩ : ∃ W1, (w.alloc (.cells #[.int .i64 k, .int .i64 n, .slice a xs.length c, .slice b cs.length d] 45)).alloc (.cells #[.int .i64 k2, .int .i64 n2, .slice a2 xs2.length c2, .slice b2 cs2.length d2] 45) = W1 := ⟨_, rfl⟩
    rw [hW1] at HAL
    have hX1 : Blk W1 w.heap.size #[.int .i64 k, .int .i64 n, .slice a xs.length c, .slice b cs.length d] 45 := by rw [← hW1]; exact (Blk.new w _ _).alloc _
    have hX2 : Blk W1 (w.heap.size + 1) #[.int .i64 k2, .int .i64 n2, .slice a2 xs2.length c2, .slice b2 cs2.length d2] 45 := by
      have h := Blk.new (w.alloc (.cells #[.int .i64 k, .int .i64 n, .slice a xs.length c, .slice b cs.length d] 45)) #[.int .i64 k2, .int .i64 n2, .slice a2 xs2.length c2, .slice b2 cs2.length d2] 45
      rw [hW1, World.size_alloc] at h
      exact h
    have HX1 := Lib.hid hX1; clear hX1
    have HX2 := Lib.hid hX2; clear hX2
    have HW1 := Lib.hid hW1; clear hW1
    go_enter Try.func66, Try.ntmps66
    go_upto_region 3 with fail
    rw [HW1.out]
    clear HW1
    go_upto_block 0 with fail
    go_cut [5] (fun _ wx => Hid (sameL xs xs2 = true) ∧ Below W1.heap.size W1 wx)
    case first =>
      go_wp2_with fail
      go_loopw [5] (fun x wr => ∃ i : Nat, x = .int .i64 i ∧ i ≤ xs.length ∧ Hid (sameL xs xs2 = sameL (xs.drop i) (xs2.drop i)) ∧ Below W1.heap.size W1 wr) (fun x _ => xs.length - (intOf x).toNat)
      case atStart => exact ⟨0, rfl, by omega, Lib.hid rfl, Below.refl _ _⟩
      case round =>
        obtain ⟨i, rfl, hi, heq, hbr⟩ := hrel
        have hY1 := HX1.out.below hbr HX1.out.lt
        have hY2 := HX2.out.below hbr HX2.out.lt
        have e1 : wr.cell? ⟨w.heap.size, 2, none⟩ = some (.slice a xs.length c) := hY1.cell 2
        have e2 : wr.cell? ⟨w.heap.size + 1, 2, none⟩ = some (.slice a2 xs2.length c2) := hY2.cell 2
        have HBR := Lib.hid hbr; clear hbr hY1 hY2
        by_cases hlt : i < xs.length
        · have hlt2 : i < xs2.length := by have := HLEN1.out; omega
          have hbi : (i : Int) + 1 ≤ 9223372036854775807 := by unfold maxLen at hcm1; omega
          have hxl : ¬ xs.length = 0 := by omega
          have hxl2 : ¬ xs2.length = 0 := by omega
          obtain ⟨b, o, rfl, hrow⟩ := HROW1.out.resolve_left hxl
          obtain ⟨b', o', rfl, hrow2⟩ := HROW1'.out.resolve_left hxl2
          have hold : Below w0.heap.size w0 wr := hw.trans ((HAL.out.trans (HBR.out.mono HAL.out.size)).mono hw.size)
          obtain ⟨hty, u0, u1, u2, u3, m0, m1, m2, m3, hnd⟩ := SlIn.item4 rfl hrow i hlt
          obtain ⟨hty2, t0, t1, t2, t3, p0, p1, p2, p3, hnd2⟩ := SlIn.item4 rfl hrow2 i hlt2
          obtain ⟨n0, n1, n2, n3, n4, n5, rfl, rfl, rfl, rfl⟩ := NdIn.formE hty hnd
          obtain ⟨n0', n1', n2', n3', n4', n5', rfl, rfl, rfl, rfl⟩ := NdIn.formE hty2 hnd2
          have kk := keeps_below hold
          have g0 := kk _ _ _ m0
          have g1 := kk _ _ _ m1
          have g2 := kk _ _ _ m2
          have g3 := kk _ _ _ m3
          have q0 := kk _ _ _ p0
          have q1 := kk _ _ _ p1
          have q2 := kk _ _ _ p2
          have q3 := kk _ _ _ p3
          have HC := Lib.hid (HIH1.out i hlt i hlt2 hty hty2 _ _ wr.drew hnd hnd2 hold.drew)
          have HD := Lib.hid (heq.out.trans (sameL_drop hlt hlt2))
          obtain ⟨S, hS⟩ : ∃ S, sameN xs[i] xs2[i] = S := ⟨_, rfl⟩
          rw [hS] at HC HD
          clear hS m0 m1 m2 m3 p0 p1 p2 p3 kk hnd hnd2 hty hty2 hold hrow hrow2 heq
          obtain ⟨T, hT⟩ : ∃ T, (!S) = T := ⟨_, rfl⟩
          have HT := Lib.hid hT; clear hT
          go_upto_region 6 with fail
          go_cut [55] (fun s wx => s = .bool T ∧ Below W1.heap.size W1 wx)
          case first =>
            go_region_with (go_at_call 67; (with_reducible refine HC.out.mono ?_); rintro e w' ⟨rfl, hb⟩)
            all_goals
              go_wp2_with fail
              go_meet
              exact ⟨by rw [← HT.out], HBR.out.drew.trans (hb.mono HBR.out.size)⟩
          case rest =>
            obtain ⟨rfl, hb⟩ := hcut
            cases T with
            | true =>
              have hS : S = false := by simpa using HT.out
              have e : sameL xs xs2 = false := by rw [HD.out, hS]; rfl
              have e : Q = false := by rw [HQ.out, e]; simp
              clear HD HT hS HC HQ
              subst e
              go_wp2_with fail
              go_ret
              exact ⟨rfl, HAL.out.trans (hb.mono HAL.out.size)⟩
            | false =>
              have hS : S = true := by simpa using HT.out
              have e : sameL xs xs2 = sameL (xs.drop (i + 1)) (xs2.drop (i + 1)) := by rw [HD.out, hS]; rfl
              have HE2 := Lib.hid e; clear e HD HT hS HC
              go_wp2_with fail
              go_roundw
              case rel => exact ⟨i + 1, by go_num, by omega, HE2, hb⟩
              case measure => simp [intOf]; omega
        · obtain rfl : i = xs.length := by omega
          have e : sameL xs xs2 = true := heq.out.trans (sameL_end HLEN1.out)
          have HE3 := Lib.hid e; clear e heq
          go_wp2_with fail
          go_meet
          exact ⟨HE3, HBR.out⟩
    case rest =>
      obtain ⟨hE1, hb1⟩ := hcut
      have HB1 := Lib.hid hb1; clear hb1
      go_wp2_with fail
      go_loopw [6] (fun x wr => ∃ i : Nat, x = .int .i64 i ∧ i ≤ cs.length ∧ Hid (sameL cs cs2 = sameL (cs.drop i) (cs2.drop i)) ∧ Below W1.heap.size W1 wr) (fun x _ => cs.length - (intOf x).toNat)
      case atStart => exact ⟨0, rfl, by omega, Lib.hid rfl, HB1.out⟩
      case round =>
        obtain ⟨i, rfl, hi, heq, hbr⟩ := hrel
        have hY1 := HX1.out.below hbr HX1.out.lt
        have hY2 := HX2.out.below hbr HX2.out.lt
        have e1 : wr.cell? ⟨w.heap.size, 3, none⟩ = some (.slice b cs.length d) := hY1.cell 3
        have e2 : wr.cell? ⟨w.heap.size + 1, 3, none⟩ = some (.slice b2 cs2.length d2) := hY2.cell 3
        have HBR := Lib.hid hbr; clear hbr hY1 hY2
        by_cases hlt : i < cs.length
        · have hlt2 : i < cs2.length := by have := HLEN2.out; omega
          have hbi : (i : Int) + 1 ≤ 9223372036854775807 := by unfold maxLen at hcm2; omega
          have hxl : ¬ cs.length = 0 := by omega
          have hxl2 : ¬ cs2.length = 0 := by omega
          obtain ⟨b, o, rfl, hrow⟩ := HROW2.out.resolve_left hxl
          obtain ⟨b', o', rfl, hrow2⟩ := HROW2'.out.resolve_left hxl2
          have hold : Below w0.heap.size w0 wr := hw.trans ((HAL.out.trans (HBR.out.mono HAL.out.size)).mono hw.size)
          obtain ⟨hty, u0, u1, u2, u3, m0, m1, m2, m3, hnd⟩ := SlIn.item4 rfl hrow i hlt
          obtain ⟨hty2, t0, t1, t2, t3, p0, p1, p2, p3, hnd2⟩ := SlIn.item4 rfl hrow2 i hlt2
          obtain ⟨n0, n1, n2, n3, n4, n5, n6, n7, rfl, rfl, rfl, rfl⟩ := NdIn.formC hty hnd
          obtain ⟨n0', n1', n2', n3', n4', n5', n6', n7', rfl, rfl, rfl, rfl⟩ := NdIn.formC hty2 hnd2
          have kk := keeps_below hold
          have g0 := kk _ _ _ m0
          have g1 := kk _ _ _ m1
          have g2 := kk _ _ _ m2
          have g3 := kk _ _ _ m3
          have q0 := kk _ _ _ p0
          have q1 := kk _ _ _ p1
          have q2 := kk _ _ _ p2
          have q3 := kk _ _ _ p3
          have HC := Lib.hid (HIH2.out i hlt i hlt2 hty hty2 _ _ wr.drew hnd hnd2 hold.drew)
          have HD := Lib.hid (heq.out.trans (sameL_drop hlt hlt2))
          obtain ⟨S, hS⟩ : ∃ S, sameN cs[i] cs2[i] = S := ⟨_, rfl⟩
          rw [hS] at HC HD
          clear hS m0 m1 m2 m3 p0 p1 p2 p3 kk hnd hnd2 hty hty2 hold hrow hrow2 heq
          obtain ⟨T, hT⟩ : ∃ T, (!S) = T := ⟨_, rfl⟩
          have HT := Lib.hid hT; clear hT
          go_upto_region 11 with fail
          go_cut [74] (fun s wx => s = .bool T ∧ Below W1.heap.size W1 wx)
          case first =>
            go_region_with (go_at_call 66; (with_reducible refine HC.out.mono ?_); rintro e w' ⟨rfl, hb⟩)
            all_goals
              go_wp2_with fail
              go_meet
              exact ⟨by rw [← HT.out], HBR.out.drew.trans (hb.mono HBR.out.size)⟩
          case rest =>
            obtain ⟨rfl, hb⟩ := hcut
            cases T with
            | true =>
              have hS : S = false := by simpa using HT.out
              have e : sameL cs cs2 = false := by rw [HD.out, hS]; rfl
              have e : Q = false := by rw [HQ.out, e]; simp
              clear HD HT hS HC HQ
              subst e
              go_wp2_with fail
              go_ret
              exact ⟨rfl, HAL.out.trans (hb.mono HAL.out.size)⟩
            | false =>
              have hS : S = true := by simpa using HT.out
              have e : sameL cs cs2 = sameL (cs.drop (i + 1)) (cs2.drop (i + 1)) := by rw [HD.out, hS]; rfl
              have HE2 := Lib.hid e; clear e HD HT hS HC
              go_wp2_with fail
              go_roundw
              case rel => exact ⟨i + 1, by go_num, by omega, HE2, hb⟩
              case measure => simp [intOf]; omega
        · obtain rfl : i = cs.length := by omega
          have e : sameL cs cs2 = true := heq.out.trans (sameL_end HLEN2.out)
          have e : Q = true := by rw [HQ.out, e, hE1.out]; rfl
          clear heq HQ
          subst e
          go_wp2_with fail
          go_ret
          exact ⟨rfl, HAL.out.trans (HBR.out.mono HAL.out.size)⟩
end Go.Proofs.Ytpildlaloclanaa
