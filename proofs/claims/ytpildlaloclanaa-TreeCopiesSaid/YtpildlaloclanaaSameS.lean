/-
  The document's sameness of statements in a row (gnomonref3's sameStmts): proved is that it answers whether two rows of trees in memory are the same, and that it turns nothing that lay.
-/
import Derived.Test.YtpildlaloclanaaSameC
namespace Go.Proofs.Ytpildlaloclanaa
open Go Go.RowKit

theorem drewBlk {w : World} {b : Nat} {cs : Array Value} {t : TypeId} (h : Blk w b cs t) : Blk w.drew b cs t := h
theorem blk_second (w : World) (o : Obj) (cs : Array Value) (t : TypeId) : Blk ((w.alloc o).alloc (.cells cs t)) (w.heap.size + 1) cs t := by
  have h := Blk.new (w.alloc o) cs t
  rwa [World.size_alloc] at h

set_option maxRecDepth 100000 in
set_option maxHeartbeats 16000000 in
theorem sameS_any (w0 : World) : ∀ (N : Nat) (l m : List Nd) (v v' : Value) (w : World), SizeOf.sizeOf l ≤ N → SlIn w0 .S l v → SlIn w0 .S m v' → Below w0.heap.size w0 w →
    Calls Try.prog 44 #[v, v'] w (fun e w' => e = .returned (.bool (sameL l m)) ∧ Below w.heap.size w w') := by
  intro N
  induction N with
  | zero =>
    intro l m v v' w hN
    cases l <;> simp at hN
  | succ N ih =>
    intro l m v v' w hN hl hm hw
    obtain ⟨Q, hQ⟩ : ∃ Q, sameL l m = Q := ⟨_, rfl⟩
    rw [hQ]
    obtain ⟨A, C, rfl, hlC, hcmC, hROW⟩ := hl
    obtain ⟨A', C', rfl, -, -, hROW'⟩ := hm
    have HROW := Lib.hid hROW; clear hROW
    have HROW' := Lib.hid hROW'; clear hROW'
    cases hne : ((l.length : Int) != (m.length : Int)) with
    | true =>
      have e : Q = false := by
        rw [← hQ]
        cases hs : sameL l m with
        | false => rfl
        | true =>
          have := sameL_len hs
          simp [this] at hne
      clear hQ HROW HROW' ih
      subst e
      go_enter Try.func44, Try.ntmps44
      go_wp2_with fail
      go_ret
      exact ⟨rfl, Below.refl _ _⟩
    | false =>
    have HLEN := Lib.hid (show l.length = m.length by rw [bne, Bool.not_eq_false', beq_iff_eq] at hne; omega)
    have HQ := Lib.hid hQ.symm; clear hQ
    have HIH := Lib.hid ih; clear ih
    go_enter Try.func44, Try.ntmps44
    go_wp2_with fail
    go_loopw [5] (fun x wr => ∃ i : Nat, x = .int .i64 i ∧ i ≤ l.length ∧ Hid (Q = sameL (l.drop i) (m.drop i)) ∧ Below w.heap.size w wr) (fun x _ => l.length - (intOf x).toNat)
    case atStart => exact ⟨0, rfl, by omega, HQ, Below.refl _ _⟩
    case round =>
      obtain ⟨ii, rfl, hi, heq, hbr⟩ := hrel
      have HBO := Lib.hid hbr; clear hbr
      by_cases hlt : ii < l.length
      · have hlt2 : ii < m.length := by have := HLEN.out; omega
        have hbi : (ii : Int) + 1 ≤ 9223372036854775807 := by unfold maxLen at hcmC; omega
        have hxl : ¬ l.length = 0 := by omega
        have hxl2 : ¬ m.length = 0 := by omega
        obtain ⟨b, o, rfl, hrow⟩ := HROW.out.resolve_left hxl
        obtain ⟨b', o', rfl, hrow2⟩ := HROW'.out.resolve_left hxl2
        have hold : Below w0.heap.size w0 wr := hw.trans (HBO.out.mono hw.size)
        obtain ⟨hty, u0, u1, u2, u3, u4, u5, m0, m1, m2, m3, m4, m5, hnd⟩ := SlIn.item6 rfl hrow ii hlt
        obtain ⟨hty2, t0, t1, t2, t3, t4, t5, p0, p1, p2, p3, p4, p5, hnd2⟩ := SlIn.item6 rfl hrow2 ii hlt2
        have hsz := List.sizeOf_lt_of_mem (List.getElem_mem hlt)
        have kk := keeps_below hold
        have g0 := kk _ _ _ m0
        have g1 := kk _ _ _ m1
        have g2 := kk _ _ _ m2
        have g3 := kk _ _ _ m3
        have g4 := kk _ _ _ m4
        have g5 := kk _ _ _ m5
        have q0 := kk _ _ _ p0
        have q1 := kk _ _ _ p1
        have q2 := kk _ _ _ p2
        have q3 := kk _ _ _ p3
        have q4 := kk _ _ _ p4
        have q5 := kk _ _ _ p5
        have hlb : b < wr.heap.size := World.block_lt_of_cell? wr ⟨b, _, none⟩ g0
        have hlb2 : b' < wr.heap.size := World.block_lt_of_cell? wr ⟨b', _, none⟩ q0
        have hlx : b ≤ wr.heap.size := Nat.le_of_lt hlb
        have hlx2 : b' ≤ wr.heap.size := Nat.le_of_lt hlb2
        have HD := heq.out.trans (sameL_drop hlt hlt2)
        clear m0 m1 m2 m3 m4 m5 p0 p1 p2 p3 p4 p5 kk hrow hrow2 heq hold
        obtain ⟨X, hX⟩ : ∃ X, l[ii] = X := ⟨_, rfl⟩
        rw [hX] at hnd hty HD
        rw [hX] at hsz
        obtain ⟨X', hX'⟩ : ∃ X, m[ii] = X := ⟨_, rfl⟩
        rw [hX'] at hnd2 hty2 HD
        clear hX hX'
        obtain ⟨ty, k, n, nm, xs, cs, ts, es⟩ := X
        simp only [Nd.ty] at hty
        subst hty
        unfold NdIn at hnd
        obtain ⟨hz, -, -, -, vx, vc, vt, ve, hvs, hxs, hcs, hts, hes⟩ := hnd
        simp only [fits] at hz
        subst hz
        simp only [lay, List.cons.injEq, and_true] at hvs
        obtain ⟨rfl, rfl, rfl, rfl, rfl, rfl⟩ := hvs
        obtain ⟨ty', k', n', nm', xs', cs', ts', es'⟩ := X'
        simp only [Nd.ty] at hty2
        subst hty2
        unfold NdIn at hnd2
        obtain ⟨hz', -, -, -, vx', vc', vt', ve', hvs, hxs', hcs', hts', hes'⟩ := hnd2
        simp only [fits] at hz'
        subst hz'
        simp only [lay, List.cons.injEq, and_true] at hvs
        obtain ⟨rfl, rfl, rfl, rfl, rfl, rfl⟩ := hvs
        simp only [Nd.mk.sizeOf_spec] at hsz
        have hT := Lib.hid (fun w1 hb => HIH.out ts ts' _ _ w1 (by omega) hts hts' hb)
        have hE := Lib.hid (fun w1 hb => HIH.out es es' _ _ w1 (by omega) hes hes' hb)
        have HIH1 := Lib.hid (fun ii (h : ii < cs.length) (j) (h2 : j < cs'.length) (h3 : (cs[ii]).ty = .C) (h4 : (cs'[j]).ty = .C) => sameC_any w0 _ cs[ii] cs'[j] (Nat.le_refl _) h3 h4)
        have HIH2 := Lib.hid (fun ii (h : ii < xs.length) (j) (h2 : j < xs'.length) (h3 : (xs[ii]).ty = .E) (h4 : (xs'[j]).ty = .E) => sameE_any w0 _ xs[ii] xs'[j] (Nat.le_refl _) h3 h4)
        obtain ⟨a1, c1, rfl, hlc1, hcm1, hrow1⟩ := hcs
        obtain ⟨a1', c1', rfl, -, -, hrow1'⟩ := hcs'
        obtain ⟨a2, c2, rfl, hlc2, hcm2, hrow2⟩ := hxs
        obtain ⟨a2', c2', rfl, -, -, hrow2'⟩ := hxs'
        obtain ⟨a3, c3, rfl, -⟩ := hts
        obtain ⟨a3', c3', rfl, -⟩ := hts'
        obtain ⟨a4, c4, rfl, -⟩ := hes
        obtain ⟨a4', c4', rfl, -⟩ := hes'
        have HROW1 := Lib.hid hrow1; clear hrow1
        have HROW1' := Lib.hid hrow1'; clear hrow1'
        have HROW2 := Lib.hid hrow2; clear hrow2
        have HROW2' := Lib.hid hrow2'; clear hrow2'
        have hres : Q = ((k == k') && (nm.toList == nm'.toList) && sameL xs xs' && sameL cs cs' && sameL ts ts' && sameL es es' && sameL (l.drop (ii + 1)) (m.drop (ii + 1))) := by
          rw [HD]
          unfold sameN
          simp
        clear HD hsz
        have HQ2 := Lib.hid hres; clear hres
        obtain ⟨S5, hS5⟩ : ∃ S, sameL ts ts' = S := ⟨_, rfl⟩
        obtain ⟨S6, hS6⟩ : ∃ S, sameL es es' = S := ⟨_, rfl⟩
        rw [hS5] at hT HQ2
        rw [hS6] at hE HQ2
        clear hS5 hS6
        obtain ⟨R, hR⟩ : ∃ R, sameL (l.drop (ii + 1)) (m.drop (ii + 1)) = R := ⟨_, rfl⟩
        rw [hR] at HQ2
        have HR := Lib.hid hR; clear hR
        go_upto_region 6 with fail
        go_cut [6, 7] (fun s s2 wx => ∃ bx by2, s = .pointer (some ⟨bx, 0, none⟩) ∧ s2 = .pointer (some ⟨by2, 0, none⟩) ∧ Blk wx bx #[.int .i64 k, .string nm, .slice a2 xs.length c2, .slice a1 cs.length c1, .slice a3 ts.length c3, .slice a4 es.length c4] 67 ∧ Blk wx by2 #[.int .i64 k', .string nm', .slice a2' xs'.length c2', .slice a1' cs'.length c1', .slice a3' ts'.length c3', .slice a4' es'.length c4'] 67 ∧ Below w.heap.size w wx)
        case first =>
          go_region
          all_goals
            go_wp2_with fail
            go_meet
            first
              | exact ⟨_, _, rfl, rfl, drewBlk ((Blk.new wr _ _).alloc _), drewBlk (blk_second wr _ _ _), ((HBO.out.alloc HBO.out.size _).alloc (Nat.le_trans HBO.out.size (by simp)) _).drew⟩
              | exact ⟨_, _, rfl, rfl, drewBlk (blk_second wr _ _ _), drewBlk ((Blk.new wr _ _).alloc _), ((HBO.out.alloc HBO.out.size _).alloc (Nat.le_trans HBO.out.size (by simp)) _).drew⟩
        case rest =>
          obtain ⟨bx, by2, rfl, rfl, hX1, hX2, hal⟩ := hcut
          have x0 : wc.cell? ⟨bx, 0, none⟩ = some (.int .i64 k) := hX1.cell 0
          have x1 : wc.cell? ⟨bx, 1, none⟩ = some (.string nm) := hX1.cell 1
          have x2 : wc.cell? ⟨bx, 2, none⟩ = some (.slice a2 xs.length c2) := hX1.cell 2
          have x3 : wc.cell? ⟨bx, 3, none⟩ = some (.slice a1 cs.length c1) := hX1.cell 3
          have x4 : wc.cell? ⟨bx, 4, none⟩ = some (.slice a3 ts.length c3) := hX1.cell 4
          have x5 : wc.cell? ⟨bx, 5, none⟩ = some (.slice a4 es.length c4) := hX1.cell 5
          have y0 : wc.cell? ⟨by2, 0, none⟩ = some (.int .i64 k') := hX2.cell 0
          have y1 : wc.cell? ⟨by2, 1, none⟩ = some (.string nm') := hX2.cell 1
          have y2 : wc.cell? ⟨by2, 2, none⟩ = some (.slice a2' xs'.length c2') := hX2.cell 2
          have y3 : wc.cell? ⟨by2, 3, none⟩ = some (.slice a1' cs'.length c1') := hX2.cell 3
          have y4 : wc.cell? ⟨by2, 4, none⟩ = some (.slice a3' ts'.length c3') := hX2.cell 4
          have y5 : wc.cell? ⟨by2, 5, none⟩ = some (.slice a4' es'.length c4') := hX2.cell 5
          have HX1 := Lib.hid hX1; clear hX1
          have HX2 := Lib.hid hX2; clear hX2
          have HAL := Lib.hid hal; clear hal
          have hold1 := Lib.hid (hw.trans (HAL.out.mono hw.size))
          clear g0 q0 g1 q1 g2 q2 g3 q3 g4 q4 g5 q5 hlb hlb2 hlx hlx2 HBO HQ
          cases h1 : (k != k') with
          | true =>
            have e : Q = false := by rw [HQ2.out]; rw [bne, Bool.not_eq_true'] at h1; simp [h1]
            clear HQ2 HIH1 HIH2 HROW1 HROW1' HROW2 HROW2' hT hE
            subst e
            go_wp2_with fail
            go_ret
            exact ⟨rfl, HAL.out⟩
          | false =>
          cases h2 : (nm.toList == nm'.toList) with
          | false =>
            have e : Q = false := by rw [HQ2.out]; simp [h2]
            clear HQ2 HIH1 HIH2 HROW1 HROW1' HROW2 HROW2' hT hE
            subst e
            go_wp2_with fail
            go_ret
            exact ⟨rfl, HAL.out⟩
          | true =>
          cases h3 : ((cs.length : Int) != (cs'.length : Int)) with
          | true =>
            have e : Q = false := by
              rw [HQ2.out]
              cases hs : sameL cs cs' with
              | false => simp
              | true =>
                have := sameL_len hs
                simp [this] at h3
            clear HQ2 HIH1 HIH2 HROW1 HROW1' HROW2 HROW2' hT hE
            subst e
            go_wp2_with fail
            go_ret
            exact ⟨rfl, HAL.out⟩
          | false =>
          cases h4 : ((xs.length : Int) != (xs'.length : Int)) with
          | true =>
            have e : Q = false := by
              rw [HQ2.out]
              cases hs : sameL xs xs' with
              | false => simp
              | true =>
                have := sameL_len hs
                simp [this] at h4
            clear HQ2 HIH1 HIH2 HROW1 HROW1' HROW2 HROW2' hT hE
            subst e
            go_wp2_with fail
            go_ret
            exact ⟨rfl, HAL.out⟩
          | false =>
          have HT := Lib.hid (hT.out wc hold1.out); clear hT
          cases S5 with
          | false =>
            have e : Q = false := by rw [HQ2.out]; simp
            clear HQ2 HIH1 HIH2 HROW1 HROW1' HROW2 HROW2' hE
            subst e
            go_wp2_with (first | (go_at_call 44; (with_reducible refine HT.out.mono ?_); rintro e w2 ⟨rfl, hb2⟩) | fail)
            go_ret
            exact ⟨rfl, HAL.out.trans (hb2.mono HAL.out.size)⟩
          | true =>
          cases S6 with
          | false =>
            have e : Q = false := by rw [HQ2.out]; simp
            clear HQ2 HIH1 HIH2 HROW1 HROW1' HROW2 HROW2'
            subst e
            go_wp2_with (first | (go_at_call_of 44 (Value.slice a3 ts.length c3); (with_reducible refine HT.out.mono ?_); rintro e w2 ⟨rfl, hb2⟩; have j1 := (HX1.out.below hb2 HX1.out.lt).cell 5; have j2 := (HX2.out.below hb2 HX2.out.lt).cell 5; simp at j1 j2) | (go_at_call_of 44 (Value.slice a4 es.length c4); (with_reducible refine (hE.out _ (hold1.out.trans (hb2.mono hold1.out.size))).mono ?_); rintro e w3 ⟨rfl, hb3⟩) | fail)
            go_ret
            exact ⟨rfl, HAL.out.trans ((hb2.trans (hb3.mono hb2.size)).mono HAL.out.size)⟩
          | true =>
          have e : Q = (sameL xs xs' && sameL cs cs' && R) := by
            rw [HQ2.out]
            rw [bne, Bool.not_eq_false'] at h1
            simp [h1, h2]
          clear HQ2
          have HQ := Lib.hid e; clear e
          have HLEN1 := Lib.hid (show cs.length = cs'.length by rw [bne, Bool.not_eq_false', beq_iff_eq] at h3; omega)
          have HLEN2 := Lib.hid (show xs.length = xs'.length by rw [bne, Bool.not_eq_false', beq_iff_eq] at h4; omega)
          go_upto_region 9 with (first | (go_at_call_of 44 (Value.slice a3 ts.length c3); (with_reducible refine HT.out.mono ?_); rintro e w2 ⟨rfl, hb2⟩; have j1 := (HX1.out.below hb2 HX1.out.lt).cell 5; have j2 := (HX2.out.below hb2 HX2.out.lt).cell 5; simp at j1 j2) | (go_at_call_of 44 (Value.slice a4 es.length c4); (with_reducible refine (hE.out _ (hold1.out.trans (hb2.mono hold1.out.size))).mono ?_); rintro e w3 ⟨rfl, hb3⟩) | fail)
          have hb23 := hb2.trans (hb3.mono hb2.size)
          have HX3 := HX1; have HX4 := HX2; have HAL3 := HAL
          clear HX1 HX2 HAL j1 j2 HT hE
          have HX1 := Lib.hid (HX3.out.below hb23 HX3.out.lt)
          have HX2 := Lib.hid (HX4.out.below hb23 HX4.out.lt)
          have HAL := Lib.hid (HAL3.out.trans (hb23.mono HAL3.out.size))
          clear hb2 hb3 hb23 HX3 HX4 HAL3 x0 y0 x1 y1 x2 y2 x3 y3 x4 y4 x5 y5
          go_upto_block 2 with fail
          go_cut [8] (fun _ wx => Hid (sameL cs cs' = true) ∧ Below w3.heap.size w3 wx)
          case first =>
            go_wp2_with fail
            go_loopw [8] (fun x wr => ∃ i : Nat, x = .int .i64 i ∧ i ≤ cs.length ∧ Hid (sameL cs cs' = sameL (cs.drop i) (cs'.drop i)) ∧ Below w3.heap.size w3 wr) (fun x _ => cs.length - (intOf x).toNat)
            case atStart => exact ⟨0, rfl, by omega, Lib.hid rfl, Below.refl _ _⟩
            case round =>
              obtain ⟨i, rfl, hi, heq, hbr⟩ := hrel
              have hY1 := HX1.out.below hbr HX1.out.lt
              have hY2 := HX2.out.below hbr HX2.out.lt
              have e1 : wr.cell? ⟨bx, 3, none⟩ = some (.slice a1 cs.length c1) := hY1.cell 3
              have e2 : wr.cell? ⟨by2, 3, none⟩ = some (.slice a1' cs'.length c1') := hY2.cell 3
              have HBR := Lib.hid hbr; clear hbr hY1 hY2
              by_cases hlt : i < cs.length
              · have hlt2 : i < cs'.length := by have := HLEN1.out; omega
                have hbi : (i : Int) + 1 ≤ 9223372036854775807 := by unfold maxLen at hcm1; omega
                have hxl : ¬ cs.length = 0 := by omega
                have hxl2 : ¬ cs'.length = 0 := by omega
                obtain ⟨b, o, rfl, hrow⟩ := HROW1.out.resolve_left hxl
                obtain ⟨b', o', rfl, hrow2⟩ := HROW1'.out.resolve_left hxl2
                have hold : Below w0.heap.size w0 wr := hw.trans ((HAL.out.trans (HBR.out.mono HAL.out.size)).mono hw.size)
                obtain ⟨hty, u0, u1, u2, u3, m0, m1, m2, m3, hnd⟩ := SlIn.item4 rfl hrow i hlt
                obtain ⟨hty2, t0, t1, t2, t3, p0, p1, p2, p3, hnd2⟩ := SlIn.item4 rfl hrow2 i hlt2
                obtain ⟨n0, n1, n2, n3, n4, n5, n6, n7, rfl, rfl, rfl, rfl⟩ := NdIn.formC hty hnd
                obtain ⟨n0', n1', n2', n3', n4', n5', n6', n7', rfl, rfl, rfl, rfl⟩ := NdIn.formC hty2 hnd2
                have kk := keeps_below hold
                have g0 := kk _ _ _ m0
                have g1 := kk _ _ _ m1
                have g2 := kk _ _ _ m2
                have g3 := kk _ _ _ m3
                have q0 := kk _ _ _ p0
                have q1 := kk _ _ _ p1
                have q2 := kk _ _ _ p2
                have q3 := kk _ _ _ p3
                have HC := Lib.hid (HIH1.out i hlt i hlt2 hty hty2 _ _ wr.drew hnd hnd2 hold.drew)
                have HD := Lib.hid (heq.out.trans (sameL_drop hlt hlt2))
                obtain ⟨S, hS⟩ : ∃ S, sameN cs[i] cs'[i] = S := ⟨_, rfl⟩
                rw [hS] at HC HD
                clear hS m0 m1 m2 m3 p0 p1 p2 p3 kk hnd hnd2 hty hty2 hold hrow hrow2 heq
                obtain ⟨T, hT⟩ : ∃ T, (!S) = T := ⟨_, rfl⟩
                have HT := Lib.hid hT; clear hT
                go_upto_region 12 with fail
                go_cut [93] (fun s wx => s = .bool T ∧ Below w3.heap.size w3 wx)
                case first =>
                  go_region_with (go_at_call 66; (with_reducible refine HC.out.mono ?_); rintro e w' ⟨rfl, hb⟩)
                  all_goals
                    go_wp2_with fail
                    go_meet
                    exact ⟨by rw [← HT.out], HBR.out.drew.trans (hb.mono HBR.out.size)⟩
                case rest =>
                  obtain ⟨rfl, hb⟩ := hcut
                  cases T with
                  | true =>
                    have hS : S = false := by simpa using HT.out
                    have e : sameL cs cs' = false := by rw [HD.out, hS]; rfl
                    have e : Q = false := by rw [HQ.out, e]; simp
                    clear HD HT hS HC HQ
                    subst e
                    go_wp2_with fail
                    go_ret
                    exact ⟨rfl, HAL.out.trans (hb.mono HAL.out.size)⟩
                  | false =>
                    have hS : S = true := by simpa using HT.out
                    have e : sameL cs cs' = sameL (cs.drop (i + 1)) (cs'.drop (i + 1)) := by rw [HD.out, hS]; rfl
                    have HE2 := Lib.hid e; clear e HD HT hS HC
                    go_wp2_with fail
                    go_roundw
                    case rel => exact ⟨i + 1, by go_num, by omega, HE2, hb⟩
                    case measure => simp [intOf]; omega
              · obtain rfl : i = cs.length := by omega
                have e : sameL cs cs' = true := heq.out.trans (sameL_end HLEN1.out)
                have HE3 := Lib.hid e; clear e heq
                go_wp2_with fail
                go_meet
                exact ⟨HE3, HBR.out⟩
          case rest =>
            obtain ⟨hE1, hb1⟩ := hcut
            have HB1 := Lib.hid hb1; clear hb1
            go_wp2_with fail
            go_loopw [9] (fun x wr => ∃ i : Nat, x = .int .i64 i ∧ i ≤ xs.length ∧ Hid (sameL xs xs' = sameL (xs.drop i) (xs'.drop i)) ∧ Below w3.heap.size w3 wr) (fun x _ => xs.length - (intOf x).toNat)
            case atStart => exact ⟨0, rfl, by omega, Lib.hid rfl, HB1.out⟩
            case round =>
              obtain ⟨i, rfl, hi, heq, hbr⟩ := hrel
              have hY1 := HX1.out.below hbr HX1.out.lt
              have hY2 := HX2.out.below hbr HX2.out.lt
              have e1 : wr.cell? ⟨bx, 2, none⟩ = some (.slice a2 xs.length c2) := hY1.cell 2
              have e2 : wr.cell? ⟨by2, 2, none⟩ = some (.slice a2' xs'.length c2') := hY2.cell 2
              have HBR := Lib.hid hbr; clear hbr hY1 hY2
              by_cases hlt : i < xs.length
              · have hlt2 : i < xs'.length := by have := HLEN2.out; omega
                have hbi : (i : Int) + 1 ≤ 9223372036854775807 := by unfold maxLen at hcm2; omega
                have hxl : ¬ xs.length = 0 := by omega
                have hxl2 : ¬ xs'.length = 0 := by omega
                obtain ⟨b, o, rfl, hrow⟩ := HROW2.out.resolve_left hxl
                obtain ⟨b', o', rfl, hrow2⟩ := HROW2'.out.resolve_left hxl2
                have hold : Below w0.heap.size w0 wr := hw.trans ((HAL.out.trans (HBR.out.mono HAL.out.size)).mono hw.size)
                obtain ⟨hty, u0, u1, u2, u3, m0, m1, m2, m3, hnd⟩ := SlIn.item4 rfl hrow i hlt
                obtain ⟨hty2, t0, t1, t2, t3, p0, p1, p2, p3, hnd2⟩ := SlIn.item4 rfl hrow2 i hlt2
                obtain ⟨n0, n1, n2, n3, n4, n5, rfl, rfl, rfl, rfl⟩ := NdIn.formE hty hnd
                obtain ⟨n0', n1', n2', n3', n4', n5', rfl, rfl, rfl, rfl⟩ := NdIn.formE hty2 hnd2
                have kk := keeps_below hold
                have g0 := kk _ _ _ m0
                have g1 := kk _ _ _ m1
                have g2 := kk _ _ _ m2
                have g3 := kk _ _ _ m3
                have q0 := kk _ _ _ p0
                have q1 := kk _ _ _ p1
                have q2 := kk _ _ _ p2
                have q3 := kk _ _ _ p3
                have HC := Lib.hid (HIH2.out i hlt i hlt2 hty hty2 _ _ wr.drew hnd hnd2 hold.drew)
                have HD := Lib.hid (heq.out.trans (sameL_drop hlt hlt2))
                obtain ⟨S, hS⟩ : ∃ S, sameN xs[i] xs'[i] = S := ⟨_, rfl⟩
                rw [hS] at HC HD
                clear hS m0 m1 m2 m3 p0 p1 p2 p3 kk hnd hnd2 hty hty2 hold hrow hrow2 heq
                obtain ⟨T, hT⟩ : ∃ T, (!S) = T := ⟨_, rfl⟩
                have HT := Lib.hid hT; clear hT
                go_upto_region 17 with fail
                go_cut [112] (fun s wx => s = .bool T ∧ Below w3.heap.size w3 wx)
                case first =>
                  go_region_with (go_at_call 67; (with_reducible refine HC.out.mono ?_); rintro e w' ⟨rfl, hb⟩)
                  all_goals
                    go_wp2_with fail
                    go_meet
                    exact ⟨by rw [← HT.out], HBR.out.drew.trans (hb.mono HBR.out.size)⟩
                case rest =>
                  obtain ⟨rfl, hb⟩ := hcut
                  cases T with
                  | true =>
                    have hS : S = false := by simpa using HT.out
                    have e : sameL xs xs' = false := by rw [HD.out, hS]; rfl
                    have e : Q = false := by rw [HQ.out, e]; simp
                    clear HD HT hS HC HQ
                    subst e
                    go_wp2_with fail
                    go_ret
                    exact ⟨rfl, HAL.out.trans (hb.mono HAL.out.size)⟩
                  | false =>
                    have hS : S = true := by simpa using HT.out
                    have e : sameL xs xs' = sameL (xs.drop (i + 1)) (xs'.drop (i + 1)) := by rw [HD.out, hS]; rfl
                    have HE2 := Lib.hid e; clear e HD HT hS HC
                    go_wp2_with fail
                    go_roundw
                    case rel => exact ⟨i + 1, by go_num, by omega, HE2, hb⟩
                    case measure => simp [intOf]; omega
              · obtain rfl : i = xs.length := by omega
                have e : sameL xs xs' = true := heq.out.trans (sameL_end HLEN2.out)
                have e2 : Q = sameL (l.drop (ii + 1)) (m.drop (ii + 1)) := by rw [HQ.out, e, hE1.out, HR.out]; rfl
                have HE2 := Lib.hid e2; clear e e2 heq HQ
                go_wp2_with fail
                go_roundw
                case rel => exact ⟨ii + 1, by go_num, by omega, HE2, HAL.out.trans (HBR.out.mono HAL.out.size)⟩
                case measure => simp [intOf]; omega
      · obtain rfl : ii = l.length := by omega
        have e : Q = true := heq.out.trans (sameL_end HLEN.out)
        clear heq HQ
        subst e
        go_wp2_with fail
        go_ret
        exact ⟨rfl, HBO.out⟩
end Go.Proofs.Ytpildlaloclanaa
