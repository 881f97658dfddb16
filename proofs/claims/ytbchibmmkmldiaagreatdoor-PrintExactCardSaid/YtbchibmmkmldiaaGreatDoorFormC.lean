/-
  The document's form of a condition (gnomonref3's form.cond): proved is what it leaves in the form's two cells.
-/
import Derived.Test.YtbchibmmkmldiaaGreatDoorForm
namespace Go.Proofs.YtbchibmmkmldiaaGreatDoor
open Go Go.RowKit

set_option maxRecDepth 100000 in
set_option maxHeartbeats 16000000 in
theorem fcond_any (w0 : World) (B : Nat) (hB0 : w0.heap.size ≤ B) : ∀ (N : Nat) (x : Nd) (v0 v1 v2 v3 : Value) (f : Fm) (w : World), SizeOf.sizeOf x ≤ N → x.ty = .C → NdIn w0 x [v0, v1, v2, v3] → Below w0.heap.size w0 w → Blk w B f.cells 73 →
    Calls Tryz.prog 50 #[.pointer (some ⟨B, 0, none⟩), .agg #[v0, v1, v2, v3]] w (FormedTo w B (formN x f)) := by
  intro N
  induction N with
  | zero =>
    intro x v0 v1 v2 v3 f w hN
    obtain ⟨ty, k, n, nm, xs, cs, ts, es⟩ := x
    simp only [Nd.mk.sizeOf_spec] at hN
    omega
  | succ N ih =>
    intro x v0 v1 v2 v3 f w hN hty hin hw hB
    have hlt := hB.lt
    have hmem := fun y h => Nd.mem_size (x := x) (y := y) h
    obtain ⟨ty, k, n, nm, xs, cs, ts, es⟩ := x
    simp only [Nd.ty] at hty
    subst hty
    simp only [Nd.xs, Nd.cs, Nd.ts, Nd.es] at hmem
    unfold NdIn at hin
    obtain ⟨⟨rfl, rfl, rfl⟩, -, -, hnm, vx, vc, vt, ve, hvs, hx, hc, ht, he⟩ := hin
    simp only [lay, List.cons.injEq, and_true] at hvs
    obtain ⟨rfl, rfl, rfl, rfl⟩ := hvs
    obtain ⟨a, c, rfl, hnc1, hcm1, hrow1⟩ := hx
    obtain ⟨a2, c2, rfl, hnc2, hcm2, hrow2⟩ := hc
    have HFIN := Lib.hid (show formN (.mk .C k n ⟨#[]⟩ xs cs [] []) f = formL cs (formL xs (headC k n xs.length cs.length f)) by unfold formN; rfl)
    obtain ⟨R, hR⟩ : ∃ R, formN (.mk .C k n ⟨#[]⟩ xs cs [] []) f = R := ⟨_, rfl⟩
    rw [hR] at HFIN ⊢
    clear hR
    have HIH1 := Lib.hid (fun (i : Nat) (hi : i < xs.length) v0 v1 v2 v3 f w => fexpr_any w0 B hB0 _ xs[i] v0 v1 v2 v3 f w (Nat.le_refl _))
    have HIH2 := Lib.hid (fun (i : Nat) (hi : i < cs.length) v0 v1 v2 v3 f w => ih cs[i] v0 v1 v2 v3 f w (by have := hmem _ (.inr (.inl (List.getElem_mem hi))); omega))
    clear ih hmem
    have HROW1 := Lib.hid hrow1; clear hrow1
    have HROW2 := Lib.hid hrow2; clear hrow2
    have hne : w.heap.size ≠ B := by omega
    have HS := Lib.hid hnm; clear hnm
    obtain ⟨ok, names⟩ := f
    go_enter Tryz.func50, Tryz.ntmps50
    go_upto_block 0 with fail
    have hb1 := hB.alloc (.cells #[.int .i64 k, .int .i64 n, .slice a xs.length c, .slice a2 cs.length c2] 82)
    have he1 := Blk.new w #[.int .i64 k, .int .i64 n, .slice a xs.length c, .slice a2 cs.length c2] 82
    have ho1 := (Only.refl B w).alloc (.cells #[.int .i64 k, .int .i64 n, .slice a xs.length c, .slice a2 cs.length c2] 82)
    have c0 : (w.alloc (.cells #[.int .i64 k, .int .i64 n, .slice a xs.length c, .slice a2 cs.length c2] 82)).cell? ⟨B, 0, none⟩ = some (.bool ok) := hb1.cell 0
    have f0 := hb1.free 0
    have HBw := Lib.hid hB; clear hB
    have HB := Lib.hid hb1; clear hb1
    have HE := Lib.hid he1; clear he1
    have HO := Lib.hid ho1; clear ho1
    go_cut [4, 5] (fun s s2 wx => s = .int .i64 (exprsC k) ∧ s2 = .int .i64 (partsC k) ∧ Blk wx B (Fm.cells ⟨ok && kindC k, names⟩) 73 ∧ Blk wx w.heap.size #[.int .i64 k, .int .i64 n, .slice a xs.length c, .slice a2 cs.length c2] 82 ∧ Only B w wx)
    case first =>
      by_cases h1 : k = 1
      · subst h1
        go_wp2_with fail
        go_meet
        exact ⟨rfl, rfl, by simpa only [show kindC 1 = true from rfl, Bool.and_true] using HB.out, HE.out, HO.out⟩
      by_cases h2 : k = 2
      · subst h2
        go_wp2_with fail
        go_meet
        exact ⟨rfl, rfl, by simpa only [show kindC 2 = true from rfl, Bool.and_true] using HB.out, HE.out, HO.out⟩
      by_cases h3 : k = 3
      · subst h3
        go_wp2_with fail
        go_meet
        exact ⟨rfl, rfl, by simpa only [show kindC 3 = true from rfl, Bool.and_true] using HB.out, HE.out, HO.out⟩
      by_cases h4 : k = 4
      · subst h4
        go_wp2_with fail
        go_meet
        exact ⟨rfl, rfl, by simpa only [show kindC 4 = true from rfl, Bool.and_true] using HB.out, HE.out, HO.out⟩
      by_cases h5 : k = 5
      · subst h5
        go_wp2_with fail
        go_meet
        exact ⟨rfl, rfl, by simpa only [show kindC 5 = true from rfl, Bool.and_true] using HB.out, HE.out, HO.out⟩
      by_cases h6 : k = 6
      · subst h6
        go_wp2_with fail
        go_meet
        exact ⟨rfl, rfl, by simpa only [show kindC 6 = true from rfl, Bool.and_true] using HB.out, HE.out, HO.out⟩
      have hk : ¬ (1 ≤ k ∧ k ≤ 6) := by omega
      clear h1 h2 h3 h4 h5 h6
      have hkf : kindC k = false := by unfold kindC; simpa using hk
      have haf : exprsC k = 0 := by unfold exprsC; rw [if_neg (by omega)]
      have hpf : partsC k = 0 := by unfold partsC; rw [if_neg (by omega), if_neg (by omega)]
      have HKF := Lib.hid hkf; clear hkf
      have HAF := Lib.hid haf; clear haf
      have HPF := Lib.hid hpf; clear hpf
      have k1 : (k == 1) = false := by simp; omega
      have k2 : (k == 2) = false := by simp; omega
      have k3 : (k == 3) = false := by simp; omega
      have k4 : (k == 4) = false := by simp; omega
      have k5 : (k == 5) = false := by simp; omega
      have k6 : (k == 6) = false := by simp; omega
      clear hk
      go_wp2_with fail
      go_meet
      exact ⟨by rw [HAF.out], by rw [HPF.out], by rw [HKF.out, Bool.and_false]; exact (HBw.out.set 0 (.bool false)).alloc _, (by have h := Blk.new (w.setCell ⟨B, 0, none⟩ (.bool false)) #[.int .i64 k, .int .i64 n, .slice a xs.length c, .slice a2 cs.length c2] 82; rw [World.size_setCell] at h; exact h), ((Only.refl B w).setCell (by rfl) _).alloc _⟩
    case rest =>
      clear HB HE HO c0 f0 HBw
      obtain ⟨rfl, rfl, hB1, hE1, hO1⟩ := hcut
      have hfin := HFIN.out; clear HFIN
      simp only [headC] at hfin
      obtain ⟨gok, hok2⟩ : ∃ ok2, (ok && kindC k) = ok2 := ⟨_, rfl⟩
      rw [hok2] at hB1 hfin
      clear hok2
      have HFIN := Lib.hid hfin; clear hfin
      have hb0 : wc.cell? ⟨B, 0, none⟩ = some (.bool gok) := hB1.cell 0
      have hf0 := hB1.free 0
      have hk0 : wc.cell? ⟨w.heap.size, 0, none⟩ = some (.int .i64 k) := hE1.cell 0
      have hk1 : wc.cell? ⟨w.heap.size, 1, none⟩ = some (.int .i64 n) := hE1.cell 1
      have HB1 := Lib.hid hB1; clear hB1
      have HE1 := Lib.hid hE1; clear hE1
      have HO1 := Lib.hid hO1; clear hO1
      obtain ⟨A, hA⟩ : ∃ A, exprsC k = A := ⟨_, rfl⟩
      obtain ⟨A2, hA2⟩ : ∃ A, partsC k = A := ⟨_, rfl⟩
      rw [hA, hA2]
      have own : ownC k n xs.length cs.length = (opC k n && (((xs.length : Int) == A) && ((cs.length : Int) == A2))) := by unfold ownC; rw [hA, hA2]
      have OWN := Lib.hid own; clear own hA hA2
      obtain ⟨b3, hb3⟩ : ∃ b, (k == 3) = b := ⟨_, rfl⟩
      obtain ⟨bz, hbz⟩ : ∃ b, (n == 0) = b := ⟨_, rfl⟩
      have opc : opC k n = if b3 then (decide (1 ≤ n) && decide (n ≤ 6)) else bz := by
        unfold opC
        rw [← hb3, ← hbz]
        by_cases h : k = 3
        · rw [if_pos h, if_pos (by simpa using h)]; simp
        · rw [if_neg h, if_neg (by simpa using h)]
      have OPC := Lib.hid opc; clear opc
      go_upto_if 29 with fail
      go_cut [6] (fun s wx => s = .bool (opC k n) ∧ Blk wx B (Fm.cells ⟨gok, names⟩) 73 ∧ Blk wx w.heap.size #[.int .i64 k, .int .i64 n, .slice a xs.length c, .slice a2 cs.length c2] 82 ∧ Only B w wx)
      case first =>
        cases b3 with
        | false =>
          go_wp2_with fail
          go_meet
          exact ⟨by rw [OPC.out]; rfl, HB1.out, HE1.out, HO1.out⟩
        | true =>
          cases h1 : decide (1 ≤ n) with
          | false =>
            have e : opC k n = false := by rw [OPC.out, h1]; rfl
            have E := Lib.hid e; clear e OPC
            go_wp2_with fail
            go_meet
            exact ⟨by rw [E.out], HB1.out, HE1.out, HO1.out⟩
          | true =>
            cases h2 : decide (n ≤ 6) with
            | false =>
              have e : opC k n = false := by rw [OPC.out, h1, h2]; rfl
              have E := Lib.hid e; clear e OPC
              go_wp2_with fail
              go_meet
              exact ⟨by rw [E.out], HB1.out, HE1.out, HO1.out⟩
            | true =>
              have e : opC k n = true := by rw [OPC.out, h1, h2]; rfl
              have E := Lib.hid e; clear e OPC
              go_wp2_with fail
              go_meet
              exact ⟨by rw [E.out], HB1.out, HE1.out, HO1.out⟩
      case rest =>
        clear HB1 HE1 HO1 hk0 hk1 hb0 hf0 hb3 hbz OPC
        obtain ⟨rfl, hB1, hE1, hO1⟩ := hcut
        obtain ⟨q, hq⟩ : ∃ q, opC k n = q := ⟨_, rfl⟩
        rw [hq] at OWN ⊢
        clear hq
        have hb0 : wc.cell? ⟨B, 0, none⟩ = some (.bool gok) := hB1.cell 0
        have hf0 := hB1.free 0
        have hk2 : wc.cell? ⟨w.heap.size, 2, none⟩ = some (.slice a xs.length c) := hE1.cell 2
        have hk3 : wc.cell? ⟨w.heap.size, 3, none⟩ = some (.slice a2 cs.length c2) := hE1.cell 3
        have HB1 := Lib.hid hB1; clear hB1
        have HE1 := Lib.hid hE1; clear hE1
        have HO1 := Lib.hid hO1; clear hO1
        go_upto_region 16 with fail
        go_cut [59] (fun _ wx => Blk wx B (Fm.cells ⟨gok && ownC k n xs.length cs.length, names⟩) 73 ∧ Blk wx w.heap.size #[.int .i64 k, .int .i64 n, .slice a xs.length c, .slice a2 cs.length c2] 82 ∧ Only B w wx)
        case first =>
          cases gok with
          | false =>
            go_wp2_with fail
            go_meet
            exact ⟨by rw [Bool.false_and]; exact HB1.out.set 0 (.bool false), HE1.out.only ((Only.refl B _).setCell (by rfl) _) hne, HO1.out.setCell (by rfl) _⟩
          | true =>
            cases q with
            | false =>
              have e : ownC k n xs.length cs.length = false := by rw [OWN.out]; rfl
              have E := Lib.hid e; clear e OWN
              go_wp2_with fail
              go_meet
              exact ⟨by rw [E.out]; exact HB1.out.set 0 (.bool false), HE1.out.only ((Only.refl B _).setCell (by rfl) _) hne, HO1.out.setCell (by rfl) _⟩
            | true =>
              cases h1 : ((xs.length : Int) == A) with
              | false =>
                have e : ownC k n xs.length cs.length = false := by rw [OWN.out, h1]; rfl
                have E := Lib.hid e; clear e OWN
                go_wp2_with fail
                go_meet
                exact ⟨by rw [E.out]; exact HB1.out.set 0 (.bool false), HE1.out.only ((Only.refl B _).setCell (by rfl) _) hne, HO1.out.setCell (by rfl) _⟩
              | true =>
                cases h2 : ((cs.length : Int) == A2) with
                | false =>
                  have e : ownC k n xs.length cs.length = false := by rw [OWN.out, h1, h2]; rfl
                  have E := Lib.hid e; clear e OWN
                  go_wp2_with fail
                  go_meet
                  exact ⟨by rw [E.out]; exact HB1.out.set 0 (.bool false), HE1.out.only ((Only.refl B _).setCell (by rfl) _) hne, HO1.out.setCell (by rfl) _⟩
                | true =>
                  have e : ownC k n xs.length cs.length = true := by rw [OWN.out, h1, h2]; rfl
                  have E := Lib.hid e; clear e OWN
                  go_wp2_with fail
                  go_meet
                  exact ⟨by rw [E.out]; exact HB1.out.set 0 (.bool true), HE1.out.only ((Only.refl B _).setCell (by rfl) _) hne, HO1.out.setCell (by rfl) _⟩
        case rest =>
          clear HB1 HE1 HO1 hk2 hk3 hb0 hf0 OWN
          obtain ⟨hB1, hE1, hO1⟩ := hcut
          obtain ⟨S0, hS0⟩ : ∃ S0 : Fm, (⟨gok && ownC k n xs.length cs.length, names⟩ : Fm) = S0 := ⟨_, rfl⟩
          have hfin := HFIN.out; clear HFIN
          rw [hS0] at hB1 hfin
          clear hS0
          have HFIN := Lib.hid hfin; clear hfin
          have HB0 := Lib.hid hB1; clear hB1
          have HE0 := Lib.hid hE1; clear hE1
          have HO0 := Lib.hid hO1; clear hO1
          go_upto_block 1 with fail
          go_cut [7] (fun _ wx => Blk wx B (formL xs S0).cells 73 ∧ Blk wx w.heap.size #[.int .i64 k, .int .i64 n, .slice a xs.length c, .slice a2 cs.length c2] 82 ∧ Only B w wx)
          case first =>
            go_wp2_with fail
            go_loopw [7] (fun x wr => ∃ i : Nat, x = .int .i64 i ∧ i ≤ xs.length ∧ Blk wr B (formL (xs.take i) S0).cells 73 ∧ Blk wr w.heap.size #[.int .i64 k, .int .i64 n, .slice a xs.length c, .slice a2 cs.length c2] 82 ∧ Only B w wr) (fun x _ => xs.length - (intOf x).toNat)
            case atStart => exact ⟨0, rfl, by omega, by rw [List.take_zero, formL]; exact HB0.out, HE0.out, HO0.out⟩
            case round =>
              obtain ⟨i, rfl, hi, hBr, hEr, hOr⟩ := hrel
              clear HB0 HE0 HO0
              have e3 : wr.cell? ⟨w.heap.size, 2, none⟩ = some (.slice a xs.length c) := hEr.cell 2
              have b2 : wr.cell? ⟨B, 0, none⟩ = some (.bool (formL (xs.take i) S0).ok) := hBr.cell 0
              have hstop := formL_stop (l := xs) (i := i) (f := S0)
              have htk := fun h => formL_take (l := xs) (i := i) h S0
              have HE := Lib.hid hEr; clear hEr
              have HO := Lib.hid hOr; clear hOr
              by_cases hlt2 : i < xs.length
              · have hbi : (i : Int) + 1 ≤ 9223372036854775807 := by unfold maxLen at hcm1; omega
                obtain ⟨S, hS⟩ : ∃ S, formL (xs.take i) S0 = S := ⟨_, rfl⟩
                rw [hS] at hBr b2 hstop htk
                clear hS
                have HBr := Lib.hid hBr; clear hBr
                have hxl : ¬ xs.length = 0 := by omega
                obtain ⟨b, o, rfl, hrow⟩ := HROW1.out.resolve_left hxl
                cases hb : S.ok with
                | true =>
                  rw [hb] at b2
                  have hold : Below w0.heap.size w0 wr := hw.trans (HO.out.old hB0 hw.size)
                  obtain ⟨hty, u0, u1, u2, u3, m0, m1, m2, m3, hnd⟩ := SlIn.item4 rfl hrow i hlt2
                  have kk := keeps_below hold
                  have k0 := kk _ _ _ m0
                  have k1 := kk _ _ _ m1
                  have k2 := kk _ _ _ m2
                  have k3 := kk _ _ _ m3
                  have HC := Lib.hid (HIH1.out i hlt2 u0 u1 u2 u3 S wr hty hnd hold HBr.out)
                  have HTK := Lib.hid (htk hlt2 hb)
                  clear m0 m1 m2 m3 hnd hty hold kk hstop htk hrow hb
                  go_wp2_with fail
                  refine HC.out.mono ?_
                  rintro e w2 ⟨rfl, hB2, hO2⟩
                  rw [← HTK.out] at hB2
                  have hE2 := HE.out.only hO2 hne
                  have hO3 := HO.out.trans hO2
                  have HB2 := Lib.hid hB2; clear hB2
                  have HE2 := Lib.hid hE2; clear hE2
                  clear hO2
                  have HO3 := Lib.hid hO3; clear hO3
                  go_wp2
                  go_roundw
                  case rel => exact ⟨i + 1, by go_num, by omega, HB2.out, HE2.out, HO3.out⟩
                  case measure => simp [intOf]; omega
                | false =>
                  rw [hb] at b2
                  have HST := Lib.hid (hstop hb)
                  clear hstop htk hb
                  go_wp2
                  go_meet
                  exact ⟨by rw [HST.out]; exact HBr.out, HE.out, HO.out⟩
              · obtain rfl : i = xs.length := by omega
                rw [List.take_length] at hBr
                have HBr := Lib.hid hBr; clear hBr
                clear hstop htk b2
                go_wp2
                go_meet
                exact ⟨HBr.out, HE.out, HO.out⟩
          case rest =>
            clear HB0 HE0 HO0
            obtain ⟨hBr, hEr, hOr⟩ := hcut
            obtain ⟨S1, hSS⟩ : ∃ S, formL xs S0 = S := ⟨_, rfl⟩
            rw [hSS] at hBr HFIN
            clear hSS
            have HB1 := Lib.hid hBr; clear hBr
            have HE1 := Lib.hid hEr; clear hEr
            have HO1 := Lib.hid hOr; clear hOr
            go_wp2_with fail
            go_loopw [8] (fun x wr => ∃ i : Nat, x = .int .i64 i ∧ i ≤ cs.length ∧ Blk wr B (formL (cs.take i) S1).cells 73 ∧ Blk wr w.heap.size #[.int .i64 k, .int .i64 n, .slice a xs.length c, .slice a2 cs.length c2] 82 ∧ Only B w wr) (fun x _ => cs.length - (intOf x).toNat)
            case atStart => exact ⟨0, rfl, by omega, by rw [List.take_zero, formL]; exact HB1.out, HE1.out, HO1.out⟩
            case round =>
              obtain ⟨i, rfl, hi, hBr, hEr, hOr⟩ := hrel
              clear HB1 HE1 HO1
              have e3 : wr.cell? ⟨w.heap.size, 3, none⟩ = some (.slice a2 cs.length c2) := hEr.cell 3
              have b2 : wr.cell? ⟨B, 0, none⟩ = some (.bool (formL (cs.take i) S1).ok) := hBr.cell 0
              have hstop := formL_stop (l := cs) (i := i) (f := S1)
              have htk := fun h => formL_take (l := cs) (i := i) h S1
              have HE := Lib.hid hEr; clear hEr
              have HO := Lib.hid hOr; clear hOr
              by_cases hlt2 : i < cs.length
              · have hbi : (i : Int) + 1 ≤ 9223372036854775807 := by unfold maxLen at hcm2; omega
                obtain ⟨S, hS⟩ : ∃ S, formL (cs.take i) S1 = S := ⟨_, rfl⟩
                rw [hS] at hBr b2 hstop htk
                clear hS
                have HBr := Lib.hid hBr; clear hBr
                have hxl : ¬ cs.length = 0 := by omega
                obtain ⟨b, o, rfl, hrow⟩ := HROW2.out.resolve_left hxl
                cases hb : S.ok with
                | true =>
                  rw [hb] at b2
                  have hold : Below w0.heap.size w0 wr := hw.trans (HO.out.old hB0 hw.size)
                  obtain ⟨hty, u0, u1, u2, u3, m0, m1, m2, m3, hnd⟩ := SlIn.item4 rfl hrow i hlt2
                  have kk := keeps_below hold
                  have k0 := kk _ _ _ m0
                  have k1 := kk _ _ _ m1
                  have k2 := kk _ _ _ m2
                  have k3 := kk _ _ _ m3
                  have HC := Lib.hid (HIH2.out i hlt2 u0 u1 u2 u3 S wr hty hnd hold HBr.out)
                  have HTK := Lib.hid (htk hlt2 hb)
                  clear m0 m1 m2 m3 hnd hty hold kk hstop htk hrow hb
                  go_wp2_with fail
                  refine HC.out.mono ?_
                  rintro e w2 ⟨rfl, hB2, hO2⟩
                  rw [← HTK.out] at hB2
                  have hE2 := HE.out.only hO2 hne
                  have hO3 := HO.out.trans hO2
                  have HB2 := Lib.hid hB2; clear hB2
                  have HE2 := Lib.hid hE2; clear hE2
                  clear hO2
                  have HO3 := Lib.hid hO3; clear hO3
                  go_wp2
                  go_roundw
                  case rel => exact ⟨i + 1, by go_num, by omega, HB2.out, HE2.out, HO3.out⟩
                  case measure => simp [intOf]; omega
                | false =>
                  rw [hb] at b2
                  have HST := Lib.hid (hstop hb)
                  clear hstop htk hb
                  go_wp2
                  go_end0
                  exact ⟨rfl, by rw [HFIN.out, HST.out]; exact HBr.out, HO.out⟩
              · obtain rfl : i = cs.length := by omega
                rw [List.take_length] at hBr
                have HBr := Lib.hid hBr; clear hBr
                clear hstop htk b2
                go_wp2
                go_end0
                exact ⟨rfl, by rw [HFIN.out]; exact HBr.out, HO.out⟩
end Go.Proofs.YtbchibmmkmldiaaGreatDoor
