/-
  The project's Equal of two programs (tree's): proved is that it answers whether both are gone through to their end and their nodes have the same labels, and that it turns nothing that lay.
-/
import Derived.Test.YtbhbmoppipohjaaGreatDoorQFormD
import Derived.Test.YtbhbmoppipohjaaGreatDoorQPlainE
import Derived.Test.YtbhbmoppipohjaaGreatDoorQWellP
import Derived.BigQuiet
import Derived.Test.YtbhbmoppipohjaaGreatDoorQWellM
import Derived.Deep.RegionHeld3
/-
  The document's form of a statement (gnomonref3's form.stmt): proved is what it leaves in the form's two cells.
-/
namespace Go.Proofs.YtbhbmoppipohjaaGreatDoor
open Go Go.RowKit

set_option maxRecDepth 100000 in
set_option maxHeartbeats 16000000 in
theorem fstmt_any (w0 : World) (B : Nat) (hB0 : w0.heap.size ≤ B) : ∀ (N : Nat) (x : Nd) (v0 v1 v2 v3 v4 v5 : Value) (f : Fm) (w : World), SizeOf.sizeOf x ≤ N → x.ty = .S → NdIn w0 x [v0, v1, v2, v3, v4, v5] → Below w0.heap.size w0 w → Blk w B f.cells 131 →
    Calls Tryz.prog 73 #[.pointer (some ⟨B, 0, none⟩), .agg #[v0, v1, v2, v3, v4, v5]] w (FormedTo w B (formN x f)) := by
  intro N
  induction N with
  | zero =>
    intro x v0 v1 v2 v3 v4 v5 f w hN
    obtain ⟨ty, k, n, nm, xs, cs, ts, es⟩ := x
    simp only [Nd.mk.sizeOf_spec] at hN
    omega
  | succ N ih =>
    intro x v0 v1 v2 v3 v4 v5 f w hN hty hin hw hB
    have hlt := hB.lt
    have hmem := fun y h => Nd.mem_size (x := x) (y := y) h
    obtain ⟨ty, k, n, nm, xs, cs, ts, es⟩ := x
    simp only [Nd.ty] at hty
    subst hty
    simp only [Nd.xs, Nd.cs, Nd.ts, Nd.es] at hmem
    unfold NdIn at hin
    obtain ⟨-, -, -, hnm, vx, vc, vt, ve, hvs, hx, hc, ht, he⟩ := hin
    simp only [lay, List.cons.injEq, and_true] at hvs
    obtain ⟨rfl, rfl, rfl, rfl, rfl, rfl⟩ := hvs
    obtain ⟨a, c, rfl, hnc1, hcm1, hrow1⟩ := hc
    obtain ⟨a2, c2, rfl, hnc2, hcm2, hrow2⟩ := hx
    obtain ⟨a3, c3, rfl, hnc3, hcm3, hrow3⟩ := ht
    obtain ⟨a4, c4, rfl, hnc4, hcm4, hrow4⟩ := he
    have HFIN := Lib.hid (show formN (.mk .S k n nm xs cs ts es) f = formL es (formL ts (formL xs (formL cs (headS k nm xs.length cs.length ts.length es.length f)))) by unfold formN; rfl)
    obtain ⟨R, hR⟩ : ∃ R, formN (.mk .S k n nm xs cs ts es) f = R := ⟨_, rfl⟩
    rw [hR] at HFIN ⊢
    clear hR
    have HIH1 := Lib.hid (fun (i : Nat) (hi : i < cs.length) v0 v1 v2 v3 f w => fcond_any w0 B hB0 _ cs[i] v0 v1 v2 v3 f w (Nat.le_refl _))
    have HIH2 := Lib.hid (fun (i : Nat) (hi : i < xs.length) v0 v1 v2 v3 f w => fexpr_any w0 B hB0 _ xs[i] v0 v1 v2 v3 f w (Nat.le_refl _))
    have HIH3 := Lib.hid (fun (i : Nat) (hi : i < ts.length) v0 v1 v2 v3 v4 v5 f w => ih ts[i] v0 v1 v2 v3 v4 v5 f w (by have := hmem _ (.inr (.inr (.inl (List.getElem_mem hi)))); omega))
    have HIH4 := Lib.hid (fun (i : Nat) (hi : i < es.length) v0 v1 v2 v3 v4 v5 f w => ih es[i] v0 v1 v2 v3 v4 v5 f w (by have := hmem _ (.inr (.inr (.inr (List.getElem_mem hi)))); omega))
    clear ih hmem
    have HROW1 := Lib.hid hrow1; clear hrow1
    have HROW2 := Lib.hid hrow2; clear hrow2
    have HROW3 := Lib.hid hrow3; clear hrow3
    have HROW4 := Lib.hid hrow4; clear hrow4
    have hne : w.heap.size ≠ B := by omega
    have HS := Lib.hid hnm; clear hnm
    obtain ⟨ok, names⟩ := f
    go_enter Tryz.func73, Tryz.ntmps73
    go_upto_block 0 with fail
    have hb1 := hB.alloc (.cells #[.int .i64 k, .string nm, .slice a2 xs.length c2, .slice a cs.length c, .slice a3 ts.length c3, .slice a4 es.length c4] 60)
    have he1 := Blk.new w #[.int .i64 k, .string nm, .slice a2 xs.length c2, .slice a cs.length c, .slice a3 ts.length c3, .slice a4 es.length c4] 60
    have ho1 := (Only.refl B w).alloc (.cells #[.int .i64 k, .string nm, .slice a2 xs.length c2, .slice a cs.length c, .slice a3 ts.length c3, .slice a4 es.length c4] 60)
    have c0 : (w.alloc (.cells #[.int .i64 k, .string nm, .slice a2 xs.length c2, .slice a cs.length c, .slice a3 ts.length c3, .slice a4 es.length c4] 60)).cell? ⟨B, 0, none⟩ = some (.bool ok) := hb1.cell 0
    have f0 := hb1.free 0
    have HBw := Lib.hid hB; clear hB
    have HB := Lib.hid hb1; clear hb1
    have HE := Lib.hid he1; clear he1
    have HO := Lib.hid ho1; clear ho1
    go_cut [4, 5] (fun s s2 wx => s = .int .i64 (exprsS k) ∧ s2 = .int .i64 (condsS k) ∧ Blk wx B (Fm.cells ⟨ok && kindS k, names⟩) 131 ∧ Blk wx w.heap.size #[.int .i64 k, .string nm, .slice a2 xs.length c2, .slice a cs.length c, .slice a3 ts.length c3, .slice a4 es.length c4] 60 ∧ Only B w wx)
    case first =>
      by_cases h1 : k = 1
      · subst h1
        go_wp2_with fail
        go_meet
        exact ⟨rfl, rfl, by simpa only [show kindS 1 = true from rfl, Bool.and_true] using HB.out, HE.out, HO.out⟩
      by_cases h2 : k = 2
      · subst h2
        go_wp2_with fail
        go_meet
        exact ⟨rfl, rfl, by simpa only [show kindS 2 = true from rfl, Bool.and_true] using HB.out, HE.out, HO.out⟩
      by_cases h3 : k = 3
      · subst h3
        go_wp2_with fail
        go_meet
        exact ⟨rfl, rfl, by simpa only [show kindS 3 = true from rfl, Bool.and_true] using HB.out, HE.out, HO.out⟩
      by_cases h4 : k = 4
      · subst h4
        go_wp2_with fail
        go_meet
        exact ⟨rfl, rfl, by simpa only [show kindS 4 = true from rfl, Bool.and_true] using HB.out, HE.out, HO.out⟩
      by_cases h5 : k = 5
      · subst h5
        go_wp2_with fail
        go_meet
        exact ⟨rfl, rfl, by simpa only [show kindS 5 = true from rfl, Bool.and_true] using HB.out, HE.out, HO.out⟩
      by_cases h6 : k = 6
      · subst h6
        go_wp2_with fail
        go_meet
        exact ⟨rfl, rfl, by simpa only [show kindS 6 = true from rfl, Bool.and_true] using HB.out, HE.out, HO.out⟩
      by_cases h7 : k = 7
      · subst h7
        go_wp2_with fail
        go_meet
        exact ⟨rfl, rfl, by simpa only [show kindS 7 = true from rfl, Bool.and_true] using HB.out, HE.out, HO.out⟩
      have hk : ¬ (1 ≤ k ∧ k ≤ 7) := by omega
      clear h1 h2 h3 h4 h5 h6 h7
      have hkf : kindS k = false := by unfold kindS; simpa using hk
      have haf : exprsS k = 0 := by unfold exprsS; rw [if_neg (by omega), if_neg (by omega)]
      have hpf : condsS k = 0 := by unfold condsS; rw [if_neg (by omega)]
      have HKF := Lib.hid hkf; clear hkf
      have HAF := Lib.hid haf; clear haf
      have HPF := Lib.hid hpf; clear hpf
      have k1 : (k == 1) = false := by simp; omega
      have k2 : (k == 2) = false := by simp; omega
      have k3 : (k == 3) = false := by simp; omega
      have k4 : (k == 4) = false := by simp; omega
      have k5 : (k == 5) = false := by simp; omega
      have k6 : (k == 6) = false := by simp; omega
      have k7 : (k == 7) = false := by simp; omega
      clear hk
      go_wp2_with fail
      go_meet
      exact ⟨by rw [HAF.out], by rw [HPF.out], by rw [HKF.out, Bool.and_false]; exact (HBw.out.set 0 (.bool false)).alloc _, (by have h := Blk.new (w.setCell ⟨B, 0, none⟩ (.bool false)) #[.int .i64 k, .string nm, .slice a2 xs.length c2, .slice a cs.length c, .slice a3 ts.length c3, .slice a4 es.length c4] 60; rw [World.size_setCell] at h; exact h), ((Only.refl B w).setCell (by rfl) _).alloc _⟩
    case rest =>
      clear HB HE HO c0 f0 HBw
      obtain ⟨rfl, rfl, hB1, hE1, hO1⟩ := hcut
      have hfin := HFIN.out; clear HFIN
      simp only [headS] at hfin
      obtain ⟨ok2, hok2⟩ : ∃ ok2, (ok && kindS k) = ok2 := ⟨_, rfl⟩
      rw [hok2] at hB1 hfin
      clear hok2
      obtain ⟨b2, hb2⟩ : ∃ b, (k == 1) = b := ⟨_, rfl⟩
      obtain ⟨b4, hb4⟩ : ∃ b, (k == 2) = b := ⟨_, rfl⟩
      have hcall := fname_any nm (b2 || b4) ⟨ok2, names⟩ B wc HS.out hB1
      rw [hb2, hb4] at hfin
      obtain ⟨G, hG⟩ : ∃ G, nameF nm (b2 || b4) ⟨ok2, names⟩ = G := ⟨_, rfl⟩
      rw [hG] at hcall hfin
      clear hG
      obtain ⟨gok, gn⟩ := G
      simp only at hfin
      have HFIN := Lib.hid hfin; clear hfin
      have HCALL := Lib.hid hcall; clear hcall
      have hk0 : wc.cell? ⟨w.heap.size, 0, none⟩ = some (.int .i64 k) := hE1.cell 0
      have hk2 : wc.cell? ⟨w.heap.size, 1, none⟩ = some (.string nm) := hE1.cell 1
      have HB1 := Lib.hid hB1; clear hB1
      have HE1 := Lib.hid hE1; clear hE1
      have HO1 := Lib.hid hO1; clear hO1
      obtain ⟨A, hA⟩ : ∃ A, exprsS k = A := ⟨_, rfl⟩
      obtain ⟨A2, hA2⟩ : ∃ A, condsS k = A := ⟨_, rfl⟩
      rw [hA, hA2]
      have HA := Lib.hid hA; clear hA
      have HA2 := Lib.hid hA2; clear hA2
      go_upto_region 14 with fail
      go_cut [37] (fun _ wx => Blk wx B (Fm.cells ⟨gok, gn⟩) 131 ∧ Blk wx w.heap.size #[.int .i64 k, .string nm, .slice a2 xs.length c2, .slice a cs.length c, .slice a3 ts.length c3, .slice a4 es.length c4] 60 ∧ Only B w wx)
      case first =>
        cases b2 with
        | true =>
          have hc := HCALL.out; clear HCALL
          simp only [Bool.true_or] at hc
          have HCALL := Lib.hid hc; clear hc
          go_wp2_with (first | (go_at_call 72; (with_reducible refine HCALL.out.mono ?_); rintro e w1 ⟨rfl, hB2, hO2⟩) | fail)
          go_meet
          exact ⟨hB2, HE1.out.only hO2 hne, HO1.out.trans hO2⟩
        | false =>
          cases b4 with
          | true =>
            have hc := HCALL.out; clear HCALL
            simp only [Bool.false_or] at hc
            have HCALL := Lib.hid hc; clear hc
            go_wp2_with (first | (go_at_call 72; (with_reducible refine HCALL.out.mono ?_); rintro e w1 ⟨rfl, hB2, hO2⟩) | fail)
            go_meet
            exact ⟨hB2, HE1.out.only hO2 hne, HO1.out.trans hO2⟩
          | false =>
            have hc := HCALL.out; clear HCALL
            simp only [Bool.false_or] at hc
            have HCALL := Lib.hid hc; clear hc
            go_wp2_with (first | (go_at_call 72; (with_reducible refine HCALL.out.mono ?_); rintro e w1 ⟨rfl, hB2, hO2⟩) | fail)
            go_meet
            exact ⟨hB2, HE1.out.only hO2 hne, HO1.out.trans hO2⟩
      case rest =>
        clear HB1 HE1 HO1 HCALL hk0 hk2 hb2 hb4
        obtain ⟨hB1, hE1, hO1⟩ := hcut
        have hb0 : wc.cell? ⟨B, 0, none⟩ = some (.bool gok) := hB1.cell 0
        have hf0 := hB1.free 0
        have hk0 : wc.cell? ⟨w.heap.size, 0, none⟩ = some (.int .i64 k) := hE1.cell 0
        have hk2 : wc.cell? ⟨w.heap.size, 2, none⟩ = some (.slice a2 xs.length c2) := hE1.cell 2
        have hk3 : wc.cell? ⟨w.heap.size, 3, none⟩ = some (.slice a cs.length c) := hE1.cell 3
        have hk4 : wc.cell? ⟨w.heap.size, 4, none⟩ = some (.slice a3 ts.length c3) := hE1.cell 4
        have hk5 : wc.cell? ⟨w.heap.size, 5, none⟩ = some (.slice a4 es.length c4) := hE1.cell 5
        have HB1 := Lib.hid hB1; clear hB1
        have HE1 := Lib.hid hE1; clear hE1
        have HO1 := Lib.hid hO1; clear hO1
        have own : ownS k xs.length cs.length ts.length es.length = (((xs.length : Int) == A) && (((cs.length : Int) == A2) && ((((ts.length : Int) == 0) || ((k == 3) || (k == 4))) && (((es.length : Int) == 0) || (k == 3))))) := by unfold ownS; rw [HA.out, HA2.out]
        have OWN := Lib.hid own; clear own HA HA2
        go_upto_region 15 with fail
        go_cut [85] (fun _ wx => Blk wx B (Fm.cells ⟨gok && ownS k xs.length cs.length ts.length es.length, gn⟩) 131 ∧ Blk wx w.heap.size #[.int .i64 k, .string nm, .slice a2 xs.length c2, .slice a cs.length c, .slice a3 ts.length c3, .slice a4 es.length c4] 60 ∧ Only B w wx)
        case first =>
          cases gok with
          | false =>
            go_wp2_with fail
            go_meet
            exact ⟨by rw [Bool.false_and]; exact HB1.out.set 0 (.bool false), HE1.out.only ((Only.refl B _).setCell (by rfl) _) hne, HO1.out.setCell (by rfl) _⟩
          | true =>
            cases h1 : ((xs.length : Int) == A) with
            | false =>
              have e : ownS k xs.length cs.length ts.length es.length = false := by rw [OWN.out, h1]; rfl
              have E := Lib.hid e; clear e OWN
              go_wp2_with fail
              go_meet
              exact ⟨by rw [E.out]; exact HB1.out.set 0 (.bool false), HE1.out.only ((Only.refl B _).setCell (by rfl) _) hne, HO1.out.setCell (by rfl) _⟩
            | true =>
              cases h2 : ((cs.length : Int) == A2) with
              | false =>
                have e : ownS k xs.length cs.length ts.length es.length = false := by rw [OWN.out, h1, h2]; rfl
                have E := Lib.hid e; clear e OWN
                go_wp2_with fail
                go_meet
                exact ⟨by rw [E.out]; exact HB1.out.set 0 (.bool false), HE1.out.only ((Only.refl B _).setCell (by rfl) _) hne, HO1.out.setCell (by rfl) _⟩
              | true =>
                cases h3 : ((ts.length : Int) == 0) with
                | false =>
                  cases h4 : (k == 3) with
                  | false =>
                    cases h5 : (k == 4) with
                    | false =>
                      have e : ownS k xs.length cs.length ts.length es.length = false := by rw [OWN.out, h1, h2, h3, h4, h5]; rfl
                      have E := Lib.hid e; clear e OWN
                      go_wp2_with fail
                      go_meet
                      exact ⟨by rw [E.out]; exact HB1.out.set 0 (.bool false), HE1.out.only ((Only.refl B _).setCell (by rfl) _) hne, HO1.out.setCell (by rfl) _⟩
                    | true =>
                      cases h6 : ((es.length : Int) == 0) with
                      | false =>
                        have e : ownS k xs.length cs.length ts.length es.length = false := by rw [OWN.out, h1, h2, h3, h4, h5, h6]; rfl
                        have E := Lib.hid e; clear e OWN
                        go_wp2_with fail
                        go_meet
                        exact ⟨by rw [E.out]; exact HB1.out.set 0 (.bool false), HE1.out.only ((Only.refl B _).setCell (by rfl) _) hne, HO1.out.setCell (by rfl) _⟩
                      | true =>
                        have e : ownS k xs.length cs.length ts.length es.length = true := by rw [OWN.out, h1, h2, h3, h4, h5, h6]; rfl
                        have E := Lib.hid e; clear e OWN
                        go_wp2_with fail
                        go_meet
                        exact ⟨by rw [E.out]; exact HB1.out.set 0 (.bool true), HE1.out.only ((Only.refl B _).setCell (by rfl) _) hne, HO1.out.setCell (by rfl) _⟩
                  | true =>
                    cases h6 : ((es.length : Int) == 0) with
                    | false =>
                      have e : ownS k xs.length cs.length ts.length es.length = true := by rw [OWN.out, h1, h2, h3, h4, h6]; rfl
                      have E := Lib.hid e; clear e OWN
                      go_wp2_with fail
                      go_meet
                      exact ⟨by rw [E.out]; exact HB1.out.set 0 (.bool true), HE1.out.only ((Only.refl B _).setCell (by rfl) _) hne, HO1.out.setCell (by rfl) _⟩
                    | true =>
                      have e : ownS k xs.length cs.length ts.length es.length = true := by rw [OWN.out, h1, h2, h3, h4, h6]; rfl
                      have E := Lib.hid e; clear e OWN
                      go_wp2_with fail
                      go_meet
                      exact ⟨by rw [E.out]; exact HB1.out.set 0 (.bool true), HE1.out.only ((Only.refl B _).setCell (by rfl) _) hne, HO1.out.setCell (by rfl) _⟩
                | true =>
                  cases h6 : ((es.length : Int) == 0) with
                  | false =>
                    cases h7 : (k == 3) with
                    | false =>
                      have e : ownS k xs.length cs.length ts.length es.length = false := by rw [OWN.out, h1, h2, h3, h6, h7]; rfl
                      have E := Lib.hid e; clear e OWN
                      go_wp2_with fail
                      go_meet
                      exact ⟨by rw [E.out]; exact HB1.out.set 0 (.bool false), HE1.out.only ((Only.refl B _).setCell (by rfl) _) hne, HO1.out.setCell (by rfl) _⟩
                    | true =>
                      have e : ownS k xs.length cs.length ts.length es.length = true := by rw [OWN.out, h1, h2, h3, h6, h7]; rfl
                      have E := Lib.hid e; clear e OWN
                      go_wp2_with fail
                      go_meet
                      exact ⟨by rw [E.out]; exact HB1.out.set 0 (.bool true), HE1.out.only ((Only.refl B _).setCell (by rfl) _) hne, HO1.out.setCell (by rfl) _⟩
                  | true =>
                    have e : ownS k xs.length cs.length ts.length es.length = true := by rw [OWN.out, h1, h2, h3, h6]; rfl
                    have E := Lib.hid e; clear e OWN
                    go_wp2_with fail
                    go_meet
                    exact ⟨by rw [E.out]; exact HB1.out.set 0 (.bool true), HE1.out.only ((Only.refl B _).setCell (by rfl) _) hne, HO1.out.setCell (by rfl) _⟩
        case rest =>
          clear HB1 HE1 HO1 hk0 hk2 hk3 hk4 hk5 hb0 hf0 OWN
          obtain ⟨hB1, hE1, hO1⟩ := hcut
          obtain ⟨S0, hS0⟩ : ∃ S0 : Fm, (⟨gok && ownS k xs.length cs.length ts.length es.length, gn⟩ : Fm) = S0 := ⟨_, rfl⟩
          have hfin := HFIN.out; clear HFIN
          rw [hS0] at hB1 hfin
          clear hS0
          have HFIN := Lib.hid hfin; clear hfin
          have HB0 := Lib.hid hB1; clear hB1
          have HE0 := Lib.hid hE1; clear hE1
          have HO0 := Lib.hid hO1; clear hO1
          go_upto_block 1 with fail
          go_cut [6] (fun _ wx => Blk wx B (formL cs S0).cells 131 ∧ Blk wx w.heap.size #[.int .i64 k, .string nm, .slice a2 xs.length c2, .slice a cs.length c, .slice a3 ts.length c3, .slice a4 es.length c4] 60 ∧ Only B w wx)
          case first =>
            go_wp2_with fail
            go_loopw [6] (fun x wr => ∃ i : Nat, x = .int .i64 i ∧ i ≤ cs.length ∧ Blk wr B (formL (cs.take i) S0).cells 131 ∧ Blk wr w.heap.size #[.int .i64 k, .string nm, .slice a2 xs.length c2, .slice a cs.length c, .slice a3 ts.length c3, .slice a4 es.length c4] 60 ∧ Only B w wr) (fun x _ => cs.length - (intOf x).toNat)
            case atStart => exact ⟨0, rfl, by omega, by rw [List.take_zero, formL]; exact HB0.out, HE0.out, HO0.out⟩
            case round =>
              obtain ⟨i, rfl, hi, hBr, hEr, hOr⟩ := hrel
              clear HB0 HE0 HO0
              have e3 : wr.cell? ⟨w.heap.size, 3, none⟩ = some (.slice a cs.length c) := hEr.cell 3
              have b2 : wr.cell? ⟨B, 0, none⟩ = some (.bool (formL (cs.take i) S0).ok) := hBr.cell 0
              have hstop := formL_stop (l := cs) (i := i) (f := S0)
              have htk := fun h => formL_take (l := cs) (i := i) h S0
              have HE := Lib.hid hEr; clear hEr
              have HO := Lib.hid hOr; clear hOr
              by_cases hlt2 : i < cs.length
              · have hbi : (i : Int) + 1 ≤ 9223372036854775807 := by unfold maxLen at hcm1; omega
                obtain ⟨S, hS⟩ : ∃ S, formL (cs.take i) S0 = S := ⟨_, rfl⟩
                rw [hS] at hBr b2 hstop htk
                clear hS
                have HBr := Lib.hid hBr; clear hBr
                have hxl : ¬ cs.length = 0 := by omega
                obtain ⟨b, o, rfl, hrow⟩ := HROW1.out.resolve_left hxl
                cases hb : S.ok with
                | true =>
                  rw [hb] at b2
                  have hold : Below w0.heap.size w0 wr := hw.trans (HO.out.old hB0 hw.size)
                  obtain ⟨hty, u0, u1, u2, u3, m0, m1, m2, m3, hnd⟩ := SlIn.item4 rfl hrow i hlt2
                  have kk := keeps_below hold
                  have k0 := kk _ _ _ m0
                  have k1 := kk _ _ _ m1
                  have k2 := kk _ _ _ m2
                  have k3 := kk _ _ _ m3
                  have HC := Lib.hid (HIH1.out i hlt2 u0 u1 u2 u3 S wr hty hnd hold HBr.out)
                  have HTK := Lib.hid (htk hlt2 hb)
                  clear m0 m1 m2 m3 hnd hty hold kk hstop htk hrow hb
                  go_wp2_with fail
                  refine HC.out.mono ?_
                  rintro e w2 ⟨rfl, hB2, hO2⟩
                  rw [← HTK.out] at hB2
                  have hE2 := HE.out.only hO2 hne
                  have hO3 := HO.out.trans hO2
                  have HB2 := Lib.hid hB2; clear hB2
                  have HE2 := Lib.hid hE2; clear hE2
                  clear hO2
                  have HO3 := Lib.hid hO3; clear hO3
                  go_wp2
                  go_roundw
                  case rel => exact ⟨i + 1, by go_num, by omega, HB2.out, HE2.out, HO3.out⟩
                  case measure => simp [intOf]; omega
                | false =>
                  rw [hb] at b2
                  have HST := Lib.hid (hstop hb)
                  clear hstop htk hb
                  go_wp2
                  go_meet
                  exact ⟨by rw [HST.out]; exact HBr.out, HE.out, HO.out⟩
              · obtain rfl : i = cs.length := by omega
                rw [List.take_length] at hBr
                have HBr := Lib.hid hBr; clear hBr
                clear hstop htk b2
                go_wp2
                go_meet
                exact ⟨HBr.out, HE.out, HO.out⟩
          case rest =>
            clear HB0 HE0 HO0
            obtain ⟨hBr, hEr, hOr⟩ := hcut
            obtain ⟨S1, hSS⟩ : ∃ S, formL cs S0 = S := ⟨_, rfl⟩
            rw [hSS] at hBr HFIN
            clear hSS
            have HB1 := Lib.hid hBr; clear hBr
            have HE1 := Lib.hid hEr; clear hEr
            have HO1 := Lib.hid hOr; clear hOr
            go_upto_block 3 with fail
            go_cut [7] (fun _ wx => Blk wx B (formL xs S1).cells 131 ∧ Blk wx w.heap.size #[.int .i64 k, .string nm, .slice a2 xs.length c2, .slice a cs.length c, .slice a3 ts.length c3, .slice a4 es.length c4] 60 ∧ Only B w wx)
            case first =>
              go_wp2_with fail
              go_loopw [7] (fun x wr => ∃ i : Nat, x = .int .i64 i ∧ i ≤ xs.length ∧ Blk wr B (formL (xs.take i) S1).cells 131 ∧ Blk wr w.heap.size #[.int .i64 k, .string nm, .slice a2 xs.length c2, .slice a cs.length c, .slice a3 ts.length c3, .slice a4 es.length c4] 60 ∧ Only B w wr) (fun x _ => xs.length - (intOf x).toNat)
              case atStart => exact ⟨0, rfl, by omega, by rw [List.take_zero, formL]; exact HB1.out, HE1.out, HO1.out⟩
              case round =>
                obtain ⟨i, rfl, hi, hBr, hEr, hOr⟩ := hrel
                clear HB1 HE1 HO1
                have e3 : wr.cell? ⟨w.heap.size, 2, none⟩ = some (.slice a2 xs.length c2) := hEr.cell 2
                have b2 : wr.cell? ⟨B, 0, none⟩ = some (.bool (formL (xs.take i) S1).ok) := hBr.cell 0
                have hstop := formL_stop (l := xs) (i := i) (f := S1)
                have htk := fun h => formL_take (l := xs) (i := i) h S1
                have HE := Lib.hid hEr; clear hEr
                have HO := Lib.hid hOr; clear hOr
                by_cases hlt2 : i < xs.length
                · have hbi : (i : Int) + 1 ≤ 9223372036854775807 := by unfold maxLen at hcm2; omega
                  obtain ⟨S, hS⟩ : ∃ S, formL (xs.take i) S1 = S := ⟨_, rfl⟩
                  rw [hS] at hBr b2 hstop htk
                  clear hS
                  have HBr := Lib.hid hBr; clear hBr
                  have hxl : ¬ xs.length = 0 := by omega
                  obtain ⟨b, o, rfl, hrow⟩ := HROW2.out.resolve_left hxl
                  cases hb : S.ok with
                  | true =>
                    rw [hb] at b2
                    have hold : Below w0.heap.size w0 wr := hw.trans (HO.out.old hB0 hw.size)
                    obtain ⟨hty, u0, u1, u2, u3, m0, m1, m2, m3, hnd⟩ := SlIn.item4 rfl hrow i hlt2
                    have kk := keeps_below hold
                    have k0 := kk _ _ _ m0
                    have k1 := kk _ _ _ m1
                    have k2 := kk _ _ _ m2
                    have k3 := kk _ _ _ m3
                    have HC := Lib.hid (HIH2.out i hlt2 u0 u1 u2 u3 S wr hty hnd hold HBr.out)
                    have HTK := Lib.hid (htk hlt2 hb)
                    clear m0 m1 m2 m3 hnd hty hold kk hstop htk hrow hb
                    go_wp2_with fail
                    refine HC.out.mono ?_
                    rintro e w2 ⟨rfl, hB2, hO2⟩
                    rw [← HTK.out] at hB2
                    have hE2 := HE.out.only hO2 hne
                    have hO3 := HO.out.trans hO2
                    have HB2 := Lib.hid hB2; clear hB2
                    have HE2 := Lib.hid hE2; clear hE2
                    clear hO2
                    have HO3 := Lib.hid hO3; clear hO3
                    go_wp2
                    go_roundw
                    case rel => exact ⟨i + 1, by go_num, by omega, HB2.out, HE2.out, HO3.out⟩
                    case measure => simp [intOf]; omega
                  | false =>
                    rw [hb] at b2
                    have HST := Lib.hid (hstop hb)
                    clear hstop htk hb
                    go_wp2
                    go_meet
                    exact ⟨by rw [HST.out]; exact HBr.out, HE.out, HO.out⟩
                · obtain rfl : i = xs.length := by omega
                  rw [List.take_length] at hBr
                  have HBr := Lib.hid hBr; clear hBr
                  clear hstop htk b2
                  go_wp2
                  go_meet
                  exact ⟨HBr.out, HE.out, HO.out⟩
            case rest =>
              clear HB1 HE1 HO1
              obtain ⟨hBr, hEr, hOr⟩ := hcut
              obtain ⟨S2, hSS⟩ : ∃ S, formL xs S1 = S := ⟨_, rfl⟩
              rw [hSS] at hBr HFIN
              clear hSS
              have HB2 := Lib.hid hBr; clear hBr
              have HE2 := Lib.hid hEr; clear hEr
              have HO2 := Lib.hid hOr; clear hOr
              go_upto_block 5 with fail
              go_cut [8] (fun _ wx => Blk wx B (formL ts S2).cells 131 ∧ Blk wx w.heap.size #[.int .i64 k, .string nm, .slice a2 xs.length c2, .slice a cs.length c, .slice a3 ts.length c3, .slice a4 es.length c4] 60 ∧ Only B w wx)
              case first =>
                go_wp2_with fail
                go_loopw [8] (fun x wr => ∃ i : Nat, x = .int .i64 i ∧ i ≤ ts.length ∧ Blk wr B (formL (ts.take i) S2).cells 131 ∧ Blk wr w.heap.size #[.int .i64 k, .string nm, .slice a2 xs.length c2, .slice a cs.length c, .slice a3 ts.length c3, .slice a4 es.length c4] 60 ∧ Only B w wr) (fun x _ => ts.length - (intOf x).toNat)
                case atStart => exact ⟨0, rfl, by omega, by rw [List.take_zero, formL]; exact HB2.out, HE2.out, HO2.out⟩
                case round =>
                  obtain ⟨i, rfl, hi, hBr, hEr, hOr⟩ := hrel
                  clear HB2 HE2 HO2
                  have e3 : wr.cell? ⟨w.heap.size, 4, none⟩ = some (.slice a3 ts.length c3) := hEr.cell 4
                  have b2 : wr.cell? ⟨B, 0, none⟩ = some (.bool (formL (ts.take i) S2).ok) := hBr.cell 0
                  have hstop := formL_stop (l := ts) (i := i) (f := S2)
                  have htk := fun h => formL_take (l := ts) (i := i) h S2
                  have HE := Lib.hid hEr; clear hEr
                  have HO := Lib.hid hOr; clear hOr
                  by_cases hlt2 : i < ts.length
                  · have hbi : (i : Int) + 1 ≤ 9223372036854775807 := by unfold maxLen at hcm3; omega
                    obtain ⟨S, hS⟩ : ∃ S, formL (ts.take i) S2 = S := ⟨_, rfl⟩
                    rw [hS] at hBr b2 hstop htk
                    clear hS
                    have HBr := Lib.hid hBr; clear hBr
                    have hxl : ¬ ts.length = 0 := by omega
                    obtain ⟨b, o, rfl, hrow⟩ := HROW3.out.resolve_left hxl
                    cases hb : S.ok with
                    | true =>
                      rw [hb] at b2
                      have hold : Below w0.heap.size w0 wr := hw.trans (HO.out.old hB0 hw.size)
                      obtain ⟨hty, u0, u1, u2, u3, u4, u5, m0, m1, m2, m3, m4, m5, hnd⟩ := SlIn.item6 rfl hrow i hlt2
                      have kk := keeps_below hold
                      have k0 := kk _ _ _ m0
                      have k1 := kk _ _ _ m1
                      have k2 := kk _ _ _ m2
                      have k3 := kk _ _ _ m3
                      have k4 := kk _ _ _ m4
                      have k5 := kk _ _ _ m5
                      have HC := Lib.hid (HIH3.out i hlt2 u0 u1 u2 u3 u4 u5 S wr hty hnd hold HBr.out)
                      have HTK := Lib.hid (htk hlt2 hb)
                      clear m0 m1 m2 m3 m4 m5 hnd hty hold kk hstop htk hrow hb
                      go_wp2_with fail
                      refine HC.out.mono ?_
                      rintro e w2 ⟨rfl, hB2, hO2⟩
                      rw [← HTK.out] at hB2
                      have hE2 := HE.out.only hO2 hne
                      have hO3 := HO.out.trans hO2
                      have HB2 := Lib.hid hB2; clear hB2
                      have HE2 := Lib.hid hE2; clear hE2
                      clear hO2
                      have HO3 := Lib.hid hO3; clear hO3
                      go_wp2
                      go_roundw
                      case rel => exact ⟨i + 1, by go_num, by omega, HB2.out, HE2.out, HO3.out⟩
                      case measure => simp [intOf]; omega
                    | false =>
                      rw [hb] at b2
                      have HST := Lib.hid (hstop hb)
                      clear hstop htk hb
                      go_wp2
                      go_meet
                      exact ⟨by rw [HST.out]; exact HBr.out, HE.out, HO.out⟩
                  · obtain rfl : i = ts.length := by omega
                    rw [List.take_length] at hBr
                    have HBr := Lib.hid hBr; clear hBr
                    clear hstop htk b2
                    go_wp2
                    go_meet
                    exact ⟨HBr.out, HE.out, HO.out⟩
              case rest =>
                clear HB2 HE2 HO2
                obtain ⟨hBr, hEr, hOr⟩ := hcut
                obtain ⟨S3, hSS⟩ : ∃ S, formL ts S2 = S := ⟨_, rfl⟩
                rw [hSS] at hBr HFIN
                clear hSS
                have HB3 := Lib.hid hBr; clear hBr
                have HE3 := Lib.hid hEr; clear hEr
                have HO3 := Lib.hid hOr; clear hOr
                go_wp2_with fail
                go_loopw [9] (fun x wr => ∃ i : Nat, x = .int .i64 i ∧ i ≤ es.length ∧ Blk wr B (formL (es.take i) S3).cells 131 ∧ Blk wr w.heap.size #[.int .i64 k, .string nm, .slice a2 xs.length c2, .slice a cs.length c, .slice a3 ts.length c3, .slice a4 es.length c4] 60 ∧ Only B w wr) (fun x _ => es.length - (intOf x).toNat)
                case atStart => exact ⟨0, rfl, by omega, by rw [List.take_zero, formL]; exact HB3.out, HE3.out, HO3.out⟩
                case round =>
                  obtain ⟨i, rfl, hi, hBr, hEr, hOr⟩ := hrel
                  clear HB3 HE3 HO3
                  have e3 : wr.cell? ⟨w.heap.size, 5, none⟩ = some (.slice a4 es.length c4) := hEr.cell 5
                  have b2 : wr.cell? ⟨B, 0, none⟩ = some (.bool (formL (es.take i) S3).ok) := hBr.cell 0
                  have hstop := formL_stop (l := es) (i := i) (f := S3)
                  have htk := fun h => formL_take (l := es) (i := i) h S3
                  have HE := Lib.hid hEr; clear hEr
                  have HO := Lib.hid hOr; clear hOr
                  by_cases hlt2 : i < es.length
                  · have hbi : (i : Int) + 1 ≤ 9223372036854775807 := by unfold maxLen at hcm4; omega
                    obtain ⟨S, hS⟩ : ∃ S, formL (es.take i) S3 = S := ⟨_, rfl⟩
                    rw [hS] at hBr b2 hstop htk
                    clear hS
                    have HBr := Lib.hid hBr; clear hBr
                    have hxl : ¬ es.length = 0 := by omega
                    obtain ⟨b, o, rfl, hrow⟩ := HROW4.out.resolve_left hxl
                    cases hb : S.ok with
                    | true =>
                      rw [hb] at b2
                      have hold : Below w0.heap.size w0 wr := hw.trans (HO.out.old hB0 hw.size)
                      obtain ⟨hty, u0, u1, u2, u3, u4, u5, m0, m1, m2, m3, m4, m5, hnd⟩ := SlIn.item6 rfl hrow i hlt2
                      have kk := keeps_below hold
                      have k0 := kk _ _ _ m0
                      have k1 := kk _ _ _ m1
                      have k2 := kk _ _ _ m2
                      have k3 := kk _ _ _ m3
                      have k4 := kk _ _ _ m4
                      have k5 := kk _ _ _ m5
                      have HC := Lib.hid (HIH4.out i hlt2 u0 u1 u2 u3 u4 u5 S wr hty hnd hold HBr.out)
                      have HTK := Lib.hid (htk hlt2 hb)
                      clear m0 m1 m2 m3 m4 m5 hnd hty hold kk hstop htk hrow hb
                      go_wp2_with fail
                      refine HC.out.mono ?_
                      rintro e w2 ⟨rfl, hB2, hO2⟩
                      rw [← HTK.out] at hB2
                      have hE2 := HE.out.only hO2 hne
                      have hO3 := HO.out.trans hO2
                      have HB2 := Lib.hid hB2; clear hB2
                      have HE2 := Lib.hid hE2; clear hE2
                      clear hO2
                      have HO3 := Lib.hid hO3; clear hO3
                      go_wp2
                      go_roundw
                      case rel => exact ⟨i + 1, by go_num, by omega, HB2.out, HE2.out, HO3.out⟩
                      case measure => simp [intOf]; omega
                    | false =>
                      rw [hb] at b2
                      have HST := Lib.hid (hstop hb)
                      clear hstop htk hb
                      go_wp2
                      go_end0
                      exact ⟨rfl, by rw [HFIN.out, HST.out]; exact HBr.out, HO.out⟩
                  · obtain rfl : i = es.length := by omega
                    rw [List.take_length] at hBr
                    have HBr := Lib.hid hBr; clear hBr
                    clear hstop htk b2
                    go_wp2
                    go_end0
                    exact ⟨rfl, by rw [HFIN.out]; exact HBr.out, HO.out⟩
end Go.Proofs.YtbhbmoppipohjaaGreatDoor

/-
  Plain: no declaration is within an expression, a condition or a statement that lies in memory.
-/
namespace Go.Proofs.YtbhbmoppipohjaaGreatDoor
open Go Go.RowKit

theorem noD_sl {w : World} {ty : Ty} {l : List Nd} {v : Value} (hL : ∀ b o, RowIn w ty l b o → ∀ y ∈ allL l, y.ty ≠ .D) (h : SlOf l.length (fun b o => RowIn w ty l b o) v) : ∀ y ∈ allL l, y.ty ≠ .D := by
  obtain ⟨a, c, _, _, _, h0 | ⟨b, o, _, hr⟩⟩ := h
  · obtain rfl := List.eq_nil_of_length_eq_zero h0
    intro y hy
    unfold allL at hy
    cases hy
  · exact hL b o hr
mutual
theorem noD_N (w : World) : ∀ (x : Nd) (vs : List Value), NdIn w x vs → x.ty ≠ .D → ∀ y ∈ allN x, y.ty ≠ .D
  | .mk ty k n nm xs cs ts es, vs, h, hty => by
    unfold NdIn at h
    obtain ⟨_, _, _, _, vx, vc, vt, ve, _, hx, hc, ht, he⟩ := h
    have h1 := noD_sl (noD_L w .E xs (by decide)) hx
    have h2 := noD_sl (noD_L w .C cs (by decide)) hc
    have h3 := noD_sl (noD_L w .S ts (by decide)) ht
    have h4 := noD_sl (noD_L w .S es (by decide)) he
    intro y hy
    unfold allN at hy
    rcases List.mem_cons.1 hy with rfl | hy
    · exact hty
    · cases ty with
      | E => exact h1 y hy
      | C => exact (List.mem_append.1 hy).elim (h1 y) (h2 y)
      | S => exact (List.mem_append.1 hy).elim (h2 y) (fun hy => (List.mem_append.1 hy).elim (h1 y) (fun hy => (List.mem_append.1 hy).elim (h3 y) (h4 y)))
      | D => exact absurd rfl hty
theorem noD_L (w : World) : ∀ (ty : Ty) (l : List Nd), ty ≠ .D → ∀ b o, RowIn w ty l b o → ∀ y ∈ allL l, y.ty ≠ .D
  | _, [], _, _, _, _ => by intro y hy; unfold allL at hy; cases hy
  | ty, x :: r, hty, b, o, h => by
    unfold RowIn at h
    obtain ⟨⟨h1, vs, _, h2⟩, h3⟩ := h
    intro y hy
    unfold allL at hy
    exact (List.mem_append.1 hy).elim (noD_N w x vs h2 (by rw [h1]; exact hty) y) (noD_L w ty r hty b (o + ty.size) h3 y)
end
end Go.Proofs.YtbhbmoppipohjaaGreatDoor

/-
  The document's Check and Size of a program (gnomonref3's): proved is what each answers, that Check's answer is the project's, and that neither turns anything that lay.
-/
namespace Go.Proofs.YtbhbmoppipohjaaGreatDoor
open Go Go.RowKit

/-- What the document's Check makes of the declarations. -/
def okD (n : Int) : Bool := decide (0 ≤ n) && decide (n ≤ 2147483647)
def declF : Nd → Fm → Fm | .mk _ _ n nm _ _ _ _, f => nameF nm true ⟨f.ok && okD n, f.names⟩
def declL : List Nd → Fm → Fm
  | [], f => f
  | x :: r, f => declL r (declF x f)
theorem declL_app : ∀ (l m : List Nd) (f : Fm), declL (l ++ m) f = declL m (declL l f)
  | [], m, f => by rw [List.nil_append]; rfl
  | y :: r, m, f => by rw [List.cons_append, declL, declL]; exact declL_app r m _
theorem declL_take {l : List Nd} {i : Nat} (hi : i < l.length) (f : Fm) : declL (l.take (i + 1)) f = declF l[i] (declL (l.take i) f) := by
  rw [← List.take_append_getElem hi, declL_app]; rfl
/-- What the document's Check answers. -/
def docP (ds ss : List Nd) : Int := if (progW ds ss).bad ≠ 0 then (progW ds ss).bad else toldF (formL ss (declL ds ⟨true, true⟩))

set_option maxRecDepth 100000 in
set_option maxHeartbeats 8000000 in
theorem rcheck_any (ds ss : List Nd) (v0 v1 : Value) (w : World) (hd : SlIn w .D ds v0) (hs : SlIn w .S ss v1) :
    Calls Tryz.prog 51 #[.agg #[v0, v1]] w (fun e w' => e = .returned (.int .i64 (docP ds ss)) ∧ Below w.heap.size w w') := by
  have hb0 : Below w.heap.size w (w.alloc (.cells #[v0, v1] 25)) := (Below.refl _ w).alloc (Nat.le_refl _) _
  have hC := walked_any ds ss v0 v1 (w.alloc (.cells #[v0, v1] 25)) (hd.keep (keeps_below hb0)) (hs.keep (keeps_below hb0))
  unfold docP
  obtain ⟨Q, hQ⟩ : ∃ Q, progW ds ss = Q := ⟨_, rfl⟩
  rw [hQ] at hC ⊢
  clear hQ
  unfold Wk.cells at hC
  obtain ⟨a0, c0, rfl, hlc0, hcm1, hrow0⟩ := hd
  obtain ⟨a1, c1, rfl, hlc1, hcm2, hrow1⟩ := hs
  have HROW1 := Lib.hid hrow0; clear hrow0
  have HROW2 := Lib.hid hrow1; clear hrow1
  have HC := Lib.hid hC; clear hC
  have HBW := Lib.hid hb0; clear hb0
  by_cases hz : Q.bad = 0
  · rw [if_neg (by simpa using hz)]
    have hz2 : (Q.bad != 0) = false := by simpa using hz
    clear hz
    obtain ⟨R, hR⟩ : ∃ R, toldF (formL ss (declL ds ⟨true, true⟩)) = R := ⟨_, rfl⟩
    rw [hR]
    have HR := Lib.hid hR; clear hR
    go_enter Tryz.func51, Tryz.ntmps51
    go_upto_block 0 with (first | (go_at_call 71; (with_reducible refine HC.out.mono ?_); rintro e w1 ⟨rfl, hb1⟩) | fail)
    clear hz2
    have hbw1 : Below w.heap.size w w1 := HBW.out.trans (hb1.mono HBW.out.size)
    have hs1 : w.heap.size < w1.heap.size := by have := hb1.size; simp at this; omega
    obtain ⟨W1, hW1⟩ : ∃ W1, (w1.alloc (.cells #[.int .i64 Q.n, .int .i64 Q.dep, .int .i64 Q.bad] 128)).alloc (.cells #[.bool true, .bool true] 131) = W1 := ⟨_, rfl⟩
    have hb : Below w.heap.size w W1 := by
      rw [← hW1]
      exact (hbw1.alloc hbw1.size _).alloc (by have := hbw1.size; simp; omega) _
    have hP1 : Blk W1 w.heap.size #[.slice a0 ds.length c0, .slice a1 ss.length c1] 25 := by
      rw [← hW1]
      have h := (Blk.new w #[.slice a0 ds.length c0, .slice a1 ss.length c1] 25).below hb1 (by simp)
      exact (h.alloc _).alloc _
    obtain ⟨B, hB⟩ : ∃ B, w1.heap.size + 1 = B := ⟨_, rfl⟩
    have hB1 : Blk W1 B (Fm.cells ⟨true, true⟩) 131 := by
      rw [← hW1, ← hB]
      have h := Blk.new (w1.alloc (.cells #[.int .i64 Q.n, .int .i64 Q.dep, .int .i64 Q.bad] 128)) #[.bool true, .bool true] 131
      rw [World.size_alloc] at h
      exact h
    rw [hB, hW1]
    have hne : w.heap.size ≠ B := by omega
    have hB0 : w.heap.size ≤ B := by omega
    have hb1' := Lib.hid hb; clear hb hb1 hbw1 hs1 hW1 hB HC HBW
    have HB1 := Lib.hid hB1; clear hB1
    have HX1 := Lib.hid hP1; clear hP1
    have HO1 := Lib.hid (Only.refl B W1)
    go_cut [5] (fun _ wx => Blk wx B (declL ds ⟨true, true⟩).cells 131 ∧ Blk wx w.heap.size #[.slice a0 ds.length c0, .slice a1 ss.length c1] 25 ∧ Only B W1 wx)
    case first =>
      go_wp2_with fail
      go_loopw [5] (fun x wr => ∃ i : Nat, x = .int .i64 i ∧ i ≤ ds.length ∧ Blk wr B (declL (ds.take i) ⟨true, true⟩).cells 131 ∧ Blk wr w.heap.size #[.slice a0 ds.length c0, .slice a1 ss.length c1] 25 ∧ Only B W1 wr) (fun x _ => ds.length - (intOf x).toNat)
      case atStart => exact ⟨0, rfl, by omega, by rw [List.take_zero, declL]; exact HB1.out, HX1.out, HO1.out⟩
      case round =>
        obtain ⟨i, rfl, hi, hBr, hXr, hOr⟩ := hrel
        clear HB1 HX1 HO1
        have e3 : wr.cell? ⟨w.heap.size, 0, none⟩ = some (.slice a0 ds.length c0) := hXr.cell 0
        have htk := fun h => declL_take (l := ds) (i := i) h ⟨true, true⟩
        have HX := Lib.hid hXr; clear hXr
        have HO := Lib.hid hOr; clear hOr
        by_cases hlt2 : i < ds.length
        · have hbi : (i : Int) + 1 ≤ 9223372036854775807 := by unfold maxLen at hcm1; omega
          have htk2 := htk hlt2
          clear htk
          obtain ⟨S, hS⟩ : ∃ S, declL (ds.take i) ⟨true, true⟩ = S := ⟨_, rfl⟩
          rw [hS] at hBr htk2
          clear hS
          have hxl : ¬ ds.length = 0 := by omega
          obtain ⟨b, o, rfl, hrow⟩ := HROW1.out.resolve_left hxl
          have hold : Below w.heap.size w wr := hb1'.out.trans (HO.out.old (by omega) hb1'.out.size)
          obtain ⟨hty, u0, u1, m0, m1, hnd⟩ := SlIn.item2 rfl hrow i hlt2
          have hbl : b < w.heap.size := World.block_lt_of_cell? w ⟨b, _, none⟩ m0
          have kk := keeps_below hold
          have k0 := kk _ _ _ m0
          have k1 := kk _ _ _ m1
          obtain ⟨X, hX⟩ : ∃ X, ds[i] = X := ⟨_, rfl⟩
          rw [hX] at hnd hty htk2
          clear hX m0 m1 kk hold hrow
          obtain ⟨ty, k, n, nm, xs, cs, ts, es⟩ := X
          simp only [Nd.ty] at hty
          subst hty
          unfold NdIn at hnd
          obtain ⟨hz, -, -, hnm, vx, vc, vt, ve, hvs, -⟩ := hnd
          simp only [lay, List.cons.injEq, and_true] at hvs
          obtain ⟨rfl, rfl⟩ := hvs
          clear hz
          simp only [declF] at htk2
          obtain ⟨ok, names⟩ := S
          have HTK := Lib.hid htk2; clear htk2
          have hb0 : wr.cell? ⟨B, 0, none⟩ = some (.bool ok) := hBr.cell 0
          have hf0 := hBr.free 0
          have HBr := Lib.hid hBr; clear hBr
          have HNM := Lib.hid hnm; clear hnm
          have hnb : b ≠ B := by omega
          go_upto_region 8 with fail
          go_cut [42] (fun _ wx => Blk wx B (Fm.cells ⟨ok && okD n, names⟩) 131 ∧ Blk wx w.heap.size #[.slice (some ⟨b, o, none⟩) ds.length c0, .slice a1 ss.length c1] 25 ∧ Only B W1 wx)
          case first =>
            cases ok with
            | false =>
              go_wp2_with fail
              go_meet
              exact ⟨by rw [Bool.false_and]; exact HBr.out.set 0 (.bool false), HX.out.only ((Only.refl B _).setCell (by rfl) _) hne, HO.out.setCell (by rfl) _⟩
            | true =>
            cases h1 : decide (0 ≤ n) with
            | false =>
              have e : okD n = false := by unfold okD; rw [h1]; rfl
              have E := Lib.hid e; clear e
              go_wp2_with fail
              go_meet
              exact ⟨by rw [E.out]; exact HBr.out.set 0 (.bool false), HX.out.only ((Only.refl B _).setCell (by rfl) _) hne, HO.out.setCell (by rfl) _⟩
            | true =>
              cases h2 : decide (n ≤ 2147483647) with
              | false =>
                have e : okD n = false := by unfold okD; rw [h1, h2]; rfl
                have E := Lib.hid e; clear e
                go_wp2_with fail
                go_meet
                exact ⟨by rw [E.out]; exact HBr.out.set 0 (.bool false), HX.out.only ((Only.refl B _).setCell (by rfl) _) hne, HO.out.setCell (by rfl) _⟩
              | true =>
                have e : okD n = true := by unfold okD; rw [h1, h2]; rfl
                have E := Lib.hid e; clear e
                go_wp2_with fail
                go_meet
                exact ⟨by rw [E.out]; exact HBr.out.set 0 (.bool true), HX.out.only ((Only.refl B _).setCell (by rfl) _) hne, HO.out.setCell (by rfl) _⟩
          case rest =>
            obtain ⟨hB2, hX2, hO2⟩ := hcut
            have k0 : wc.cell? ⟨b, o + i * 2, none⟩ = some (.string nm) := by
              have h := (HO.out.block b (by have := hb1'.out.size; omega) hnb)
              have h2 := (hO2.block b (by have := hb1'.out.size; omega) hnb)
              exact (World.cell?_of_block (a := ⟨b, o + i * 2, none⟩) (h2.trans h.symm)).trans k0
            have e3 : wc.cell? ⟨w.heap.size, 0, none⟩ = some (.slice (some ⟨b, o, none⟩) ds.length c0) := hX2.cell 0
            have HC := Lib.hid (fname_any nm true ⟨ok && okD n, names⟩ B wc HNM.out hB2)
            clear k1 hb0 hf0 HBr HX HO
            have HX := Lib.hid hX2; clear hX2
            have HO := Lib.hid hO2; clear hO2
            clear hB2
            go_wp2_with fail
            refine HC.out.mono ?_
            rintro e w2 ⟨rfl, hB3, hO3⟩
            rw [← HTK.out] at hB3
            have hX3 := HX.out.only hO3 hne
            have hO4 := HO.out.trans hO3
            have HB3 := Lib.hid hB3; clear hB3
            have HX3 := Lib.hid hX3; clear hX3
            clear hO3
            have HO4 := Lib.hid hO4; clear hO4
            go_wp2_with fail
            go_roundw
            case rel => exact ⟨i + 1, by go_num, by omega, HB3.out, HX3.out, HO4.out⟩
            case measure => simp [intOf]; omega
        · obtain rfl : i = ds.length := by omega
          rw [List.take_length] at hBr
          have HBr := Lib.hid hBr; clear hBr
          clear htk
          go_wp2_with fail
          go_meet
          exact ⟨HBr.out, HX.out, HO.out⟩
    case rest =>
      obtain ⟨hB2, hX2, hO2⟩ := hcut
      have HB2 := Lib.hid hB2; clear hB2
      have HX2 := Lib.hid hX2; clear hX2
      have HO2 := Lib.hid hO2; clear hO2
      clear HB1 HX1 HO1 HROW1
      obtain ⟨S1, hS1⟩ : ∃ S, declL ds ⟨true, true⟩ = S := ⟨_, rfl⟩
      rw [hS1] at HB2 HR
      clear hS1
      go_upto_block 2 with fail
      go_cut [6] (fun _ wx => Blk wx B (formL ss S1).cells 131 ∧ Blk wx w.heap.size #[.slice a0 ds.length c0, .slice a1 ss.length c1] 25 ∧ Only B W1 wx)
      case first =>
        go_wp2_with fail
        go_loopw [6] (fun x wr => ∃ i : Nat, x = .int .i64 i ∧ i ≤ ss.length ∧ Blk wr B (formL (ss.take i) S1).cells 131 ∧ Blk wr w.heap.size #[.slice a0 ds.length c0, .slice a1 ss.length c1] 25 ∧ Only B W1 wr) (fun x _ => ss.length - (intOf x).toNat)
        case atStart => exact ⟨0, rfl, by omega, by rw [List.take_zero, formL]; exact HB2.out, HX2.out, HO2.out⟩
        case round =>
          obtain ⟨i, rfl, hi, hBr, hXr, hOr⟩ := hrel
          clear HB2 HX2 HO2
          have e3 : wr.cell? ⟨w.heap.size, 1, none⟩ = some (.slice a1 ss.length c1) := hXr.cell 1
          have b2 : wr.cell? ⟨B, 0, none⟩ = some (.bool (formL (ss.take i) S1).ok) := hBr.cell 0
          have hstop := formL_stop (l := ss) (i := i) (f := S1)
          have htk := fun h => formL_take (l := ss) (i := i) h S1
          have HX := Lib.hid hXr; clear hXr
          have HO := Lib.hid hOr; clear hOr
          by_cases hlt2 : i < ss.length
          · have hbi : (i : Int) + 1 ≤ 9223372036854775807 := by unfold maxLen at hcm2; omega
            obtain ⟨S, hS⟩ : ∃ S, formL (ss.take i) S1 = S := ⟨_, rfl⟩
            rw [hS] at hBr b2 hstop htk
            clear hS
            have HBr := Lib.hid hBr; clear hBr
            have hxl : ¬ ss.length = 0 := by omega
            obtain ⟨b, o, rfl, hrow⟩ := HROW2.out.resolve_left hxl
            cases hb : S.ok with
            | true =>
              rw [hb] at b2
              have hold : Below w.heap.size w wr := hb1'.out.trans (HO.out.old (by omega) hb1'.out.size)
              obtain ⟨hty, u0, u1, u2, u3, u4, u5, m0, m1, m2, m3, m4, m5, hnd⟩ := SlIn.item6 rfl hrow i hlt2
              have kk := keeps_below hold
              have k0 := kk _ _ _ m0
              have k1 := kk _ _ _ m1
              have k2 := kk _ _ _ m2
              have k3 := kk _ _ _ m3
              have k4 := kk _ _ _ m4
              have k5 := kk _ _ _ m5
              have HC := Lib.hid (fstmt_any w B hB0 _ ss[i] u0 u1 u2 u3 u4 u5 S wr (Nat.le_refl _) hty hnd hold HBr.out)
              have HTK := Lib.hid (htk hlt2 hb)
              clear m0 m1 m2 m3 m4 m5 hnd hty hold kk hstop htk hrow hb
              go_wp2_with fail
              refine HC.out.mono ?_
              rintro e w2 ⟨rfl, hB2, hO2⟩
              rw [← HTK.out] at hB2
              have hX2 := HX.out.only hO2 hne
              have hO3 := HO.out.trans hO2
              have HB2 := Lib.hid hB2; clear hB2
              have HX2 := Lib.hid hX2; clear hX2
              clear hO2
              have HO3 := Lib.hid hO3; clear hO3
              go_wp2_with fail
              go_roundw
              case rel => exact ⟨i + 1, by go_num, by omega, HB2.out, HX2.out, HO3.out⟩
              case measure => simp [intOf]; omega
            | false =>
              rw [hb] at b2
              have HST := Lib.hid (hstop hb)
              clear hstop htk hb
              go_wp2_with fail
              go_meet
              exact ⟨by rw [HST.out]; exact HBr.out, HX.out, HO.out⟩
          · obtain rfl : i = ss.length := by omega
            rw [List.take_length] at hBr
            have HBr := Lib.hid hBr; clear hBr
            clear hstop htk b2
            go_wp2_with fail
            go_meet
            exact ⟨HBr.out, HX.out, HO.out⟩
      case rest =>
        obtain ⟨hB3, hX3, hO3⟩ := hcut
        clear HB2 HX2 HO2 HROW2 hX3
        obtain ⟨G, hG⟩ : ∃ G, formL ss S1 = G := ⟨_, rfl⟩
        rw [hG] at hB3 HR
        clear hG
        have l0 : wc.cell? ⟨B, 0, none⟩ = some (.bool G.ok) := hB3.cell 0
        have l1 : wc.cell? ⟨B, 1, none⟩ = some (.bool G.names) := hB3.cell 1
        have HO3 := Lib.hid hO3; clear hO3 hB3
        have HT := Lib.hid (told_any G wc)
        rw [HR.out] at HT
        go_wp2_with (first | (go_at_call 74; (with_reducible refine HT.out.mono ?_); rintro e w3 ⟨rfl, hb3⟩) | fail)
        go_ret
        have hb := hb1'.out.trans (HO3.out.old (by omega) hb1'.out.size)
        exact ⟨rfl, hb.trans (hb3.mono hb.size)⟩
  · rw [if_pos (by simpa using hz)]
    have hz2 : (Q.bad != 0) = true := by simpa using hz
    clear hz
    go_enter Tryz.func51, Tryz.ntmps51
    go_wp2_with (first | (go_at_call 71; (with_reducible refine HC.out.mono ?_); rintro e w1 ⟨rfl, hb1⟩) | fail)
    go_ret
    have hbw1 : Below w.heap.size w w1 := HBW.out.trans (hb1.mono HBW.out.size)
    exact ⟨rfl, hbw1.alloc hbw1.size _⟩

theorem formed_D : ∀ (ds : List Nd) (f : Fm), fitL .D ds → Formed (allL ds) f (declL ds f)
  | [], f, _ => by rw [allL, declL]; exact Formed.nil f
  | x :: r, f, h => by
    unfold fitL at h
    obtain ⟨hty, hx, hr⟩ := h
    rw [allL, declL]
    refine Formed.app ?_ (formed_D r _ hr)
    obtain ⟨ty, k, n, nm, xs, cs, ts, es⟩ := x
    simp only [Nd.ty] at hty
    subst hty
    unfold fitN at hx
    obtain ⟨⟨rfl, rfl, rfl, rfl, rfl⟩, -⟩ := hx
    have e : allN (.mk .D 0 n nm [] [] [] []) = [.mk .D 0 n nm [] [] [] []] := by
      unfold allN
      simp
    rw [e]
    refine Formed.one ?_ ?_
    · simp only [declF, nameF, if_true, wellN, wellD, okD]
      rw [Bool.not_or]
      congr 2
      · simp [← decide_not]
      · simp [← decide_not]
    · simp [declF, nameF, named, namelessB, mustN, ownNm]
theorem docP_same {ds ss : List Nd} (hd : fitL .D ds) (hs : ∀ y ∈ allL ss, y.ty ≠ .D) : docP ds ss = faultT (progT ds ss) := by
  unfold docP faultT
  rw [progW_T]
  by_cases hz : (progT ds ss).lim = 0
  · rw [if_neg (by simpa using hz), if_neg (by simpa using hz), progT_list hz, allL_app]
    obtain ⟨h1, h2⟩ := (formed_D ds ⟨true, true⟩ hd).app (formed_L ss (declL ds ⟨true, true⟩) hs)
    simp only [Bool.true_and] at h1 h2
    have ea : (allL ds ++ allL ss).any (fun x => !wellN x) = !(allL ds ++ allL ss).all wellN := by rw [List.not_all_eq_any_not]
    have eb : (allL ds ++ allL ss).any namelessB = !(allL ds ++ allL ss).all named := by
      rw [List.not_all_eq_any_not]
      congr 1
      funext y
      simp [named]
    rw [ea, eb]
    unfold toldF
    rw [h1] at h2 ⊢
    cases hw : (allL ds ++ allL ss).all wellN with
    | false => rfl
    | true =>
      rw [h2 hw]
      cases (allL ds ++ allL ss).all named <;> rfl
  · rw [if_pos (by simpa using hz), if_pos (by simpa using hz)]
theorem noD_list {w : World} {l : List Nd} {v : Value} (h : SlIn w .S l v) : ∀ y ∈ allL l, y.ty ≠ .D := noD_sl (ty := .S) (fun b o => noD_L w .S l (by decide) b o) h
theorem progW_match (ds ss : List Nd) : Match (progW ds ss) (progT ds ss) :=
  match_if (F := fun s => walkL ss 1 s) (fun s hs => walkL_bad ss 1 s hs) (match_L ds 1 ⟨0, 0, 0⟩ ⟨[], 0, 0⟩ ⟨rfl, rfl, rfl⟩ rfl) (fun hz => match_L ss 1 _ _ (match_L ds 1 ⟨0, 0, 0⟩ ⟨[], 0, 0⟩ ⟨rfl, rfl, rfl⟩ rfl) hz)

end Go.Proofs.YtbhbmoppipohjaaGreatDoor

/-
  Two lists of texts held against one another (gnomonhelp's Texts): proved is that it answers whether they are the same; and plain: the names of both sides are the same.
-/
namespace Go.Proofs.YtbhbmoppipohjaaGreatDoor
open Go Go.RowKit

/-- Two lists of texts are the same. -/
def sameT : List ByteArray → List ByteArray → Bool
  | [], [] => true
  | x :: r, y :: s => (x.toList == y.toList) && sameT r s
  | [], _ :: _ => false
  | _ :: _, [] => false
theorem sameT_refl : ∀ l : List ByteArray, sameT l l = true
  | [] => rfl
  | x :: r => by simp [sameT, sameT_refl r]
theorem sameT_len : ∀ {l m : List ByteArray}, sameT l m = true → l.length = m.length
  | [], [], _ => rfl
  | x :: r, y :: s, h => by
    simp only [sameT, Bool.and_eq_true] at h
    simpa using sameT_len h.2
theorem sameT_drop {l m : List ByteArray} {i : Nat} (h : i < l.length) (h2 : i < m.length) : sameT (l.drop i) (m.drop i) = ((l[i].toList == m[i].toList) && sameT (l.drop (i + 1)) (m.drop (i + 1))) := by
  rw [List.drop_eq_getElem_cons h, List.drop_eq_getElem_cons h2, sameT]
theorem sameT_end {l m : List ByteArray} (h : l.length = m.length) : sameT (l.drop l.length) (m.drop l.length) = true := by
  rw [List.drop_length, h, List.drop_length, sameT]
/-- A list of texts lies at a slice. -/
def StrsIn (w : World) (l : List ByteArray) (v : Value) : Prop := ∃ a c, v = .slice a l.length c ∧ l.length ≤ c ∧ (l.length = 0 ∨ ∃ g o, a = some ⟨g, o, none⟩ ∧ ∀ i (hi : i < l.length), w.cell? ⟨g, o + i, none⟩ = some (.string l[i]))
theorem strs_own {w : World} {base : Nat} {v : Value} {l : List ByteArray} (h : w.ownsRow base 9 1 v l.length (cellsT l)) : StrsIn w l v := by
  obtain ⟨a, c, h1, h2, h3⟩ := own_str h
  exact ⟨a, c, h1, h2, h3.imp id fun ⟨g, hg, hc⟩ => ⟨g, 0, hg, fun i hi => by rw [Nat.zero_add]; exact hc i hi⟩⟩
theorem StrsIn.keep {w w' : World} {l : List ByteArray} {v : Value} (h : StrsIn w l v) (hb : Below w.heap.size w w') : StrsIn w' l v := by
  obtain ⟨a, c, h1, h2, h3⟩ := h
  exact ⟨a, c, h1, h2, h3.imp id fun ⟨g, o, hg, hc⟩ => ⟨g, o, hg, fun i hi => (hb.cell (p := ⟨g, o + i, none⟩) (World.block_lt_of_cell? w ⟨g, o + i, none⟩ (hc i hi))).trans (hc i hi)⟩⟩

set_option maxRecDepth 100000 in
set_option maxHeartbeats 4000000 in
theorem texts_any (l m : List ByteArray) (v u : Value) (w : World) (hv : StrsIn w l v) (hu : StrsIn w m u) (hll : l.length ≤ 1099511627776) :
    Calls Tryz.prog 33 #[v, u] w (fun e w' => e = .returned (.bool (sameT l m)) ∧ Below w.heap.size w w') := by
  obtain ⟨a, c, rfl, hlc, hc1⟩ := hv
  obtain ⟨a', c', rfl, hlc', hc2⟩ := hu
  have HC1 := Lib.hid hc1; clear hc1
  have HC2 := Lib.hid hc2; clear hc2
  obtain ⟨Q, hQ⟩ : ∃ Q, sameT l m = Q := ⟨_, rfl⟩
  rw [hQ]
  cases hne : ((l.length : Int) != (m.length : Int)) with
  | true =>
    have e : Q = false := by
      rw [← hQ]
      cases hs : sameT l m with
      | false => rfl
      | true =>
        have := sameT_len hs
        simp [this] at hne
    clear hQ HC1 HC2
    subst e
    go_enter Tryz.func33, Tryz.ntmps33
    go_wp2_with fail
    go_ret
    exact ⟨rfl, Below.refl _ _⟩
  | false =>
  have HLEN := Lib.hid (show l.length = m.length by rw [bne, Bool.not_eq_false', beq_iff_eq] at hne; omega)
  have HQ := Lib.hid hQ.symm; clear hQ
  go_enter Tryz.func33, Tryz.ntmps33
  go_wp2_with fail
  go_loopw [5] (fun x wr => ∃ i : Nat, x = .int .i64 i ∧ i ≤ l.length ∧ Hid (Q = sameT (l.drop i) (m.drop i)) ∧ Below w.heap.size w wr) (fun x _ => l.length - (intOf x).toNat)
  case atStart => exact ⟨0, rfl, by omega, HQ, Below.refl _ _⟩
  case round =>
    obtain ⟨i, rfl, hi, heq, hbr⟩ := hrel
    by_cases hlt : i < l.length
    · have hlt2 : i < m.length := by have := HLEN.out; omega
      have hbi : (i : Int) + 1 ≤ 9223372036854775807 := by omega
      have hxl : ¬ l.length = 0 := by omega
      have hxl2 : ¬ m.length = 0 := by omega
      obtain ⟨g, o, rfl, hcell⟩ := HC1.out.resolve_left hxl
      obtain ⟨g', o', rfl, hcell'⟩ := HC2.out.resolve_left hxl2
      have m0 := hcell i hlt
      have m1 := hcell' i hlt2
      have k0 := (hbr.cell (p := ⟨g, o + i, none⟩) (World.block_lt_of_cell? w ⟨g, o + i, none⟩ m0)).trans m0
      have k1 := (hbr.cell (p := ⟨g', o' + i, none⟩) (World.block_lt_of_cell? w ⟨g', o' + i, none⟩ m1)).trans m1
      have HD := heq.out.trans (sameT_drop hlt hlt2)
      obtain ⟨X, hX⟩ : ∃ X, l[i] = X := ⟨_, rfl⟩
      obtain ⟨Y, hY⟩ : ∃ Y, m[i] = Y := ⟨_, rfl⟩
      rw [hX] at k0 HD
      rw [hY] at k1 HD
      clear hX hY hcell hcell' m0 m1 heq HQ
      have HBR := Lib.hid hbr; clear hbr
      have HDD := Lib.hid HD; clear HD
      obtain ⟨S, hS⟩ : ∃ S, (X.toList != Y.toList) = S := ⟨_, rfl⟩
      have HS := Lib.hid hS; clear hS
      go_upto_region 6 with fail
      go_cut [25] (fun s wx => s = .bool S ∧ Below w.heap.size w wx)
      case first =>
        go_region
        go_wp2_with fail
        go_meet
        exact ⟨by first | rfl | (rw [← HS.out]; rfl), HBR.out.drew⟩
      case rest =>
        obtain ⟨rfl, hb⟩ := hcut
        clear k0 k1 HBR
        cases S with
        | true =>
          have h1 : (X.toList == Y.toList) = false := by have := HS.out; rw [bne, Bool.not_eq_true'] at this; exact this
          have e : Q = false := by rw [HDD.out, h1]; rfl
          clear HDD HS h1
          subst e
          go_wp2_with fail
          go_ret
          exact ⟨rfl, hb⟩
        | false =>
          have h1 : (X.toList == Y.toList) = true := by have := HS.out; rw [bne, Bool.not_eq_false'] at this; exact this
          have e : Q = sameT (l.drop (i + 1)) (m.drop (i + 1)) := by rw [HDD.out, h1]; rfl
          have HE2 := Lib.hid e; clear e HDD HS h1
          go_wp2_with fail
          go_roundw
          case rel => exact ⟨i + 1, by go_num, by omega, HE2, hb⟩
          case measure => simp [intOf]; omega
    · obtain rfl : i = l.length := by omega
      have e : Q = true := heq.out.trans (sameT_end HLEN.out)
      clear heq HQ
      subst e
      go_wp2_with fail
      go_ret
      exact ⟨rfl, hbr⟩

/-! ### plain -/
theorem nmsOf_cons (x : Nd) (l : List Nd) : nmsOf (x :: l) = (if mustN x then [ownNm x] else []) ++ nmsOf l := by
  unfold nmsOf
  cases h : mustN x <;> simp [h]
theorem headU_fst (nm : ByteArray) (a b : Bool) : (headU nm a b).map Prod.fst = if (a || b) then [nm] else [] := by
  unfold headU
  split <;> simp_all
mutual
theorem nms_N : ∀ (x : Nd), (∀ y ∈ allN x, y.ty ≠ .D) → nmsOf (allN x) = (usesN x).map Prod.fst
  | .mk ty k n nm xs cs ts es, h => by
    cases ty with
    | E =>
      unfold allN at h ⊢
      have hx := nms_L xs (fun y hy => h y (by simp [hy]))
      unfold usesN
      simp only [nmsOf_cons, List.map_append, headU_fst, hx]
      simp [mustN, ownNm]
    | C =>
      unfold allN at h ⊢
      have hx := nms_L xs (fun y hy => h y (by simp [hy]))
      have hc := nms_L cs (fun y hy => h y (by simp [hy]))
      unfold usesN
      simp only [nmsOf_cons, nmsOf_app, List.map_append, hx, hc]
      simp [mustN]
    | S =>
      unfold allN at h ⊢
      have hx := nms_L xs (fun y hy => h y (by simp [hy]))
      have hc := nms_L cs (fun y hy => h y (by simp [hy]))
      have ht := nms_L ts (fun y hy => h y (by simp [hy]))
      have he := nms_L es (fun y hy => h y (by simp [hy]))
      unfold usesN
      simp only [nmsOf_cons, nmsOf_app, List.map_append, headU_fst, hx, hc, ht, he]
      simp [mustN, ownNm]
    | D =>
      unfold allN at h
      exact absurd rfl (h _ (List.mem_cons_self ..))
theorem nms_L : ∀ (l : List Nd), (∀ y ∈ allL l, y.ty ≠ .D) → nmsOf (allL l) = (usesL l).map Prod.fst
  | [], _ => by unfold allL usesL; rfl
  | x :: r, h => by
    unfold allL at h ⊢
    unfold usesL
    rw [nmsOf_app, List.map_append, nms_N x (fun y hy => h y (by simp [hy])), nms_L r (fun y hy => h y (by simp [hy]))]
end
theorem nms_D : ∀ (ds : List Nd), fitL .D ds → nmsOf (allL ds) = ds.map ownNm
  | [], _ => by unfold allL; rfl
  | x :: r, h => by
    unfold fitL at h
    obtain ⟨hty, hx, hr⟩ := h
    obtain ⟨ty, k, n, nm, xs, cs, ts, es⟩ := x
    simp only [Nd.ty] at hty
    subst hty
    unfold fitN at hx
    obtain ⟨⟨rfl, rfl, rfl, rfl, rfl⟩, -⟩ := hx
    unfold allL
    rw [nmsOf_app, nms_D r hr, List.map_cons]
    have e : allN (.mk .D 0 n nm [] [] [] []) = [.mk .D 0 n nm [] [] [] []] := by
      unfold allN
      simp
    rw [e, nmsOf_cons]
    simp [mustN, ownNm, nmsOf]
theorem names_same {ds ss : List Nd} (hd : fitL .D ds) (hs : ∀ y ∈ allL ss, y.ty ≠ .D) (hz : (progT ds ss).lim = 0) : namesP (progT ds ss).l = namesR ds ss := by
  rw [progT_list hz, allL_app]
  unfold namesP namesR
  rw [nmsOf_app, nms_D ds hd, nms_L ss hs, List.foldl_append]
theorem names_few {ds ss : List Nd} (hd : fitL .D ds) (hs : ∀ y ∈ allL ss, y.ty ≠ .D) (hz : (progT ds ss).lim = 0) : ds.length + (usesL ss).length ≤ 4096 := by
  have h := (progT_ok ds ss).1
  rw [progT_list hz, allL_app, List.length_append] at h
  have h1 := congrArg List.length (nms_D ds hd)
  have h2 := congrArg List.length (nms_L ss hs)
  have h3 : ∀ l, (nmsOf l).length ≤ l.length := fun l => by unfold nmsOf; rw [List.length_map]; exact List.length_filter_le ..
  have h4 := h3 (allL ds)
  have h5 := h3 (allL ss)
  simp only [List.length_map] at h1 h2
  omega
theorem fault_lim {t : Tr} (h : faultT t = 0) : t.lim = 0 := by
  unfold faultT at h
  split at h
  · exact h
  · rename_i hn
    simpa using hn
end Go.Proofs.YtbhbmoppipohjaaGreatDoor

/-
  Plain: what well's Check tells of a program, and how long the names of a tree are.
-/
namespace Go.Proofs.YtbhbmoppipohjaaGreatDoor
open Go Go.RowKit Go.Maps

/-- What Check tells. -/
def wellP (ds ss : List Nd) : ByteArray × Int := if faultT (progT ds ss) ≠ 0 then (⟨#[]⟩, faultT (progT ds ss)) else if (declW [] ds).2 ≠ 0 then declW [] ds else badU (lookL ds) (usesL ss)
theorem nms_sz {ds ss : List Nd} (hd : fitL .D ds) (hs : ∀ y ∈ allL ss, y.ty ≠ .D) (hz : faultT (progT ds ss) = 0) : (∀ x ∈ ds, (ownNm x).size ≤ 128) ∧ (∀ u ∈ usesL ss, u.1.size ≤ 128) := by
  have h := fault_names hz
  rw [progT_list (fault_lim hz), allL_app] at h
  have h1 : ∀ n ∈ nmsOf (allL ds ++ allL ss), n.size ≤ 128 := by
    intro n hn
    unfold nmsOf at hn
    obtain ⟨x, hx, rfl⟩ := List.mem_map.1 hn
    obtain ⟨h2, h3⟩ := List.mem_filter.1 hx
    exact h x h2 h3
  rw [nmsOf_app, nms_D ds hd, nms_L ss hs] at h1
  exact ⟨fun x hx => h1 _ (List.mem_append_left _ (List.mem_map_of_mem hx)), fun u hu => h1 _ (List.mem_append_right _ (List.mem_map_of_mem hu))⟩
theorem dNm_own {x : Nd} (h : x.ty = .D) : dNm x = ownNm x := by
  obtain ⟨ty, k, n, s, xs, cs, ts, es⟩ := x
  simp only [Nd.ty] at h
  subst h
  rfl
theorem declW_sz (k : Nat) : ∀ (r p : List Nd), (∀ x ∈ r, (dNm x).size ≤ k) → (declW p r).1.size ≤ k
  | [], _, _ => Nat.zero_le _
  | x :: r, p, h => by
    rw [declW]
    split
    · exact h x List.mem_cons_self
    · exact declW_sz k r _ (fun y hy => h y (List.mem_cons_of_mem _ hy))
theorem badU_sz (f : ByteArray → Int) (k : Nat) : ∀ (l : List Us), (∀ u ∈ l, u.1.size ≤ k) → (badU f l).1.size ≤ k
  | [], _ => Nat.zero_le _
  | x :: r, h => by
    rw [badU]
    split
    · exact h x List.mem_cons_self
    · split
      · exact badU_sz f k r (fun y hy => h y (List.mem_cons_of_mem _ hy))
      · exact h x List.mem_cons_self
theorem flat_le_sl {w : World} {l : List Nd} {v : Value} (hL : ∀ b o, RowIn w .S l b o → (flatL l).length ≤ (allL l).length) (h : SlOf l.length (fun b o => RowIn w .S l b o) v) : (flatL l).length ≤ (allL l).length := by
  obtain ⟨a, c, _, _, _, h0 | ⟨b, o, _, hr⟩⟩ := h
  · obtain rfl := List.eq_nil_of_length_eq_zero h0
    rw [flatL]
    exact Nat.zero_le _
  · exact hL b o hr
mutual
theorem flat_le_N (w : World) : ∀ (x : Nd) (vs : List Value), NdIn w x vs → x.ty = .S → (flatN x).length ≤ (allN x).length
  | .mk ty k n nm xs cs ts es, vs, h, hty => by
    simp only [Nd.ty] at hty
    subst hty
    unfold NdIn at h
    obtain ⟨_, _, _, _, vx, vc, vt, ve, _, _, _, ht, he⟩ := h
    have h3 := flat_le_sl (flat_le_L w ts) ht
    have h4 := flat_le_sl (flat_le_L w es) he
    unfold flatN allN
    simp only [List.length_cons, List.length_append]
    omega
theorem flat_le_L (w : World) : ∀ (l : List Nd) (b o : Nat), RowIn w .S l b o → (flatL l).length ≤ (allL l).length
  | [], _, _, _ => by rw [flatL]; exact Nat.zero_le _
  | x :: r, b, o, h => by
    unfold RowIn at h
    obtain ⟨⟨h1, vs, _, h2⟩, h3⟩ := h
    have h4 := flat_le_N w x vs h2 h1
    have h5 := flat_le_L w r _ _ h3
    rw [flatL, allL, List.length_append, List.length_append]
    omega
end
theorem flat_few {w : World} {ds ss : List Nd} {v : Value} (hs : SlIn w .S ss v) (hz : faultT (progT ds ss) = 0) : (flatL ss).length ≤ 4096 := by
  have h := (progT_ok ds ss).1
  rw [progT_list (fault_lim hz), allL_app, List.length_append] at h
  have h2 := flat_le_sl (flat_le_L w ss) hs
  omega
theorem wellP_sz {ds ss : List Nd} (hd : fitL .D ds) (hs : ∀ y ∈ allL ss, y.ty ≠ .D) : (wellP ds ss).1.size ≤ 128 := by
  unfold wellP
  split
  · exact Nat.zero_le _
  · rename_i hz
    have hz : faultT (progT ds ss) = 0 := by simpa using hz
    obtain ⟨h1, h2⟩ := nms_sz hd hs hz
    split
    · exact declW_sz 128 ds [] (fun x hx => by rw [dNm_own (ty_of hd x hx)]; exact h1 x hx)
    · exact badU_sz _ 128 _ h2
theorem clone_w (s : ByteArray) (w : World) (hs : s.size ≤ 128) : Calls Tryz.prog 47 #[.string s] w fun e w' => e = .returned (.string s) ∧ Below w.heap.size w w' := clone_any s w (by omega)
end Go.Proofs.YtbhbmoppipohjaaGreatDoor

/-
  The project's Equal of two programs (tree's): proved is that it answers whether both are gone through to their end and their nodes have the same labels, and that it turns nothing that lay.
-/
namespace Go.Proofs.YtbhbmoppipohjaaGreatDoor
open Go Go.RowKit

theorem below_alloc {w wA : World} (h : Below w.heap.size w wA) (o : Obj) : Below w.heap.size w (wA.alloc o) := h.alloc h.size o
theorem below_drew {w wA : World} (h : Below w.heap.size w wA) : Below w.heap.size w wA.drew := h.drew
theorem below_next {w wA w1 : World} (h : Below w.heap.size w wA) (hb : Below wA.heap.size wA w1) : Below w.heap.size w w1 := h.trans (hb.mono h.size)
theorem below_set3 {w wA : World} {b : Nat} (hb : w.heap.size ≤ b) (h : Below w.heap.size w wA) (u0 u1 u2 : Value) : Below w.heap.size w (((wA.setCell ⟨b, 0, none⟩ u0).setCell ⟨b, 1, none⟩ u1).setCell ⟨b, 2, none⟩ u2) :=
  ((h.setCell (p := ⟨b, 0, none⟩) hb u0).setCell (p := ⟨b, 1, none⟩) hb u1).setCell (p := ⟨b, 2, none⟩) hb u2
theorem Blk.next {w w' : World} {b : Nat} {cs : Array Value} {t : TypeId} (h : Blk w b cs t) (hb : Below w.heap.size w w') : Blk w' b cs t := h.below hb h.lt
theorem blk_facts {w : World} {B : Nat} {v0 v1 v2 : Value} {t : TypeId} (h : Blk w B #[v0, v1, v2] t) : w.cell? ⟨B, 0, none⟩ = some v0 ∧ w.cell? ⟨B, 1, none⟩ = some v1 ∧ w.cell? ⟨B, 2, none⟩ = some v2 ∧ w.frozen? ⟨B, 0, none⟩ = false ∧ w.frozen? ⟨B, 1, none⟩ = false ∧ w.frozen? ⟨B, 2, none⟩ = false :=
  ⟨h.cell 0, h.cell 1, h.cell 2, h.free 0, h.free 1, h.free 2⟩
theorem blk_set3 {w : World} {b : Nat} {v0 v1 v2 : Value} {t : TypeId} (h : Blk w b #[v0, v1, v2] t) (a0 a1 a2 : Value) : Blk (((w.setCell ⟨b, 0, none⟩ a0).setCell ⟨b, 1, none⟩ a1).setCell ⟨b, 2, none⟩ a2) b #[a0, a1, a2] t := ((h.set 0 a0).set 1 a1).set 2 a2
theorem blk_other3 {w : World} {b b' : Nat} {cs : Array Value} {t : TypeId} (hne : b ≠ b') (h : Blk w b cs t) (a0 a1 a2 : Value) : Blk (((w.setCell ⟨b', 0, none⟩ a0).setCell ⟨b', 1, none⟩ a1).setCell ⟨b', 2, none⟩ a2) b cs t := ((h.other (a := ⟨b', 0, none⟩) hne a0).other (a := ⟨b', 1, none⟩) hne a1).other (a := ⟨b', 2, none⟩) hne a2
/-- A list of nodes lies at a, in none of the blocks bs. -/
def LS (W : World) (l : List Nd) (a : Option Addr) (bs : List Nat) : Prop := l.length = 0 ∨ ∃ b wA, a = some ⟨b, 0, none⟩ ∧ CellsAre wA W l b 0 ∧ (l.length ≠ 0 → b < W.heap.size) ∧ ∀ k ∈ bs, b ≠ k
theorem CellsAre.lt {w0 w : World} {l : List Nd} {b o : Nat} (h : CellsAre w0 w l b o) (hl : l.length ≠ 0) : b < w.heap.size := by
  obtain ⟨vs, h1, _⟩ := h 0 (by omega)
  exact World.block_lt_of_cell? w ⟨b, o + 0, none⟩ h1
theorem LS.of {wA W : World} {l : List Nd} {a : Option Addr} {b : Nat} {bs : List Nat} (h : l.length = 0 ∨ (a = some ⟨b, 0, none⟩ ∧ CellsAre wA W l b 0 ∧ wA.heap.size ≤ b)) (hk : ∀ k ∈ bs, k < wA.heap.size) : LS W l a bs :=
  h.imp id fun ⟨h1, h2, h3⟩ => ⟨b, wA, h1, h2, h2.lt, fun k hb => by have := hk k hb; omega⟩
theorem LS.below {W W' : World} {l : List Nd} {a : Option Addr} {bs : List Nat} (h : LS W l a bs) (hb : Below W.heap.size W W') : LS W' l a bs :=
  h.imp id fun ⟨b, wA, h1, h2, h3, h4⟩ => ⟨b, wA, h1, h2.keep hb, fun hl => Nat.lt_of_lt_of_le (h3 hl) hb.size, h4⟩
theorem LS.alloc {W : World} {l : List Nd} {a : Option Addr} {bs : List Nat} (h : LS W l a bs) (o : Obj) : LS (W.alloc o) l a (W.heap.size :: bs) := by
  have hb : Below W.heap.size W (W.alloc o) := (Below.refl _ W).alloc (Nat.le_refl _) o
  rcases h with h | ⟨b, wA, h1, h2, h3, h4⟩
  · exact .inl h
  · by_cases hl : l.length = 0
    · exact .inl hl
    · exact .inr ⟨b, wA, h1, h2.keep hb, fun hl => Nat.lt_of_lt_of_le (h3 hl) hb.size, List.forall_mem_cons.2 ⟨Nat.ne_of_lt (h3 hl), h4⟩⟩
theorem LS.set {W : World} {l : List Nd} {a : Option Addr} {bs : List Nat} (h : LS W l a bs) {b : Nat} (hb : b ∈ bs) (o : Nat) (u : Value) : LS (W.setCell ⟨b, o, none⟩ u) l a bs :=
  h.imp id fun ⟨b', wA, h1, h2, h3, h4⟩ => ⟨b', wA, h1, fun i hi => by
    obtain ⟨vs, h5, h6⟩ := h2 i hi
    exact ⟨vs, (World.cell?_of_block (w := W) (Below.heap_setCell W ⟨b, o, none⟩ u b' (h4 b hb))).trans h5, h6⟩, fun hl => by rw [World.size_setCell]; exact h3 hl, h4⟩
theorem LS.set3 {W : World} {l : List Nd} {a : Option Addr} {bs : List Nat} (h : LS W l a bs) {b : Nat} (hb : b ∈ bs) (u0 u1 u2 : Value) : LS (((W.setCell ⟨b, 0, none⟩ u0).setCell ⟨b, 1, none⟩ u1).setCell ⟨b, 2, none⟩ u2) l a bs := ((h.set hb 0 u0).set hb 1 u1).set hb 2 u2
/-- A list of nodes lies at a. -/
def LL (W : World) (l : List Nd) (a : Option Addr) : Prop := l.length = 0 ∨ ∃ b wA, a = some ⟨b, 0, none⟩ ∧ CellsAre wA W l b 0
theorem LS.list {W : World} {l : List Nd} {a : Option Addr} {bs : List Nat} (h : LS W l a bs) : LL W l a := h.imp id fun ⟨b, wA, h1, h2, _⟩ => ⟨b, wA, h1, h2⟩
theorem LL.keep {W W' : World} {l : List Nd} {a : Option Addr} (h : LL W l a) (hb : Below W.heap.size W W') : LL W' l a := h.imp id fun ⟨b, wA, h1, h2⟩ => ⟨b, wA, h1, h2.keep hb⟩

/-- What the project answers for two programs. -/
def equalP (d1 s1 d2 s2 : List Nd) : Bool := decide ((progT d1 s1).lim = 0) && decide ((progT d2 s2).lim = 0) && eqL (progT d1 s1).l (progT d2 s2).l

end Go.Proofs.YtbhbmoppipohjaaGreatDoor
