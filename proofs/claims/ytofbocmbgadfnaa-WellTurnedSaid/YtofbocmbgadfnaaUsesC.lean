/-
  The document's names in a condition (gnomonref3's condUses): proved is that it puts them behind the list that it is handed.
-/
import Derived.Test.YtofbocmbgadfnaaUsesE
namespace Go.Proofs.Ytofbocmbgadfnaa
open Go Go.RowKit

set_option maxRecDepth 100000 in
set_option maxHeartbeats 8000000 in
theorem condUses_any (w0 : World) (base : Nat) (hB0 : w0.heap.size ≤ base) : ∀ (N : Nat) (x : Nd) (us : List Value) (L : List Us) (v : Value) (w : World), SizeOf.sizeOf x ≤ N → x.ty = .C → NdIn w0 x us → Below w0.heap.size w0 w → base ≤ w.heap.size → w.ownsRow base 56 2 v L.length (cellsU L) → L.length + (usesN x).length ≤ 1099511627776 →
    Calls Try.prog 50 #[v, .agg us.toArray] w (UsedTo w base v (L ++ usesN x)) := by
  intro N
  induction N with
  | zero =>
    intro x us L v w hN
    obtain ⟨ty, k, n, nm, xs, cs, ts, es⟩ := x
    simp only [Nd.mk.sizeOf_spec] at hN
    omega
  | succ N ih =>
    intro x us L v w hN hty hin hw hbw hown hlen
    have hmem := fun y h => Nd.mem_size (x := x) (y := y) h
    obtain ⟨ty, k, n, nm, xs, cs, ts, es⟩ := x
    simp only [Nd.ty] at hty
    subst hty
    simp only [Nd.xs, Nd.cs, Nd.ts, Nd.es] at hmem
    unfold NdIn at hin
    obtain ⟨⟨rfl, rfl, rfl⟩, -, -, -, vx, vc, vt, ve, rfl, hx, hc, -, -⟩ := hin
    obtain ⟨a1, c1, rfl, hnc1, hcm1, hrow1⟩ := hx
    obtain ⟨a2, c2, rfl, hnc2, hcm2, hrow2⟩ := hc
    change Calls _ _ #[v, .agg #[.int .i64 k, .int .i64 n, .slice a1 xs.length c1, .slice a2 cs.length c2]] w _
    have hu : usesN (.mk .C k n ⟨#[]⟩ xs cs [] []) = usesL xs ++ usesL cs := by unfold usesN; rfl
    rw [hu] at hlen ⊢
    clear hu
    rw [List.length_append] at hlen
    have HIH1 := Lib.hid (fun (i : Nat) (hi : i < xs.length) us L v w => exprUses_any w0 base hB0 _ xs[i] us L v w (Nat.le_refl _))
    have HIH2 := Lib.hid (fun (i : Nat) (hi : i < cs.length) us L v w => ih cs[i] us L v w (by have := hmem _ (.inr (.inl (List.getElem_mem hi))); omega))
    clear ih hmem hN
    have HROW1 := Lib.hid hrow1; clear hrow1
    have HROW2 := Lib.hid hrow2; clear hrow2
    obtain ⟨FIN, hFIN⟩ : ∃ l, L ++ (usesL xs ++ usesL cs) = l := ⟨_, rfl⟩
    rw [hFIN]
    have HFIN := Lib.hid hFIN; clear hFIN
    have hor : ∀ g, v.ownBlock = some g → base ≤ g ∧ g < w.heap.size := hown.lt
    obtain ⟨W1, hW1⟩ : ∃ W1, w.alloc (.cells #[.int .i64 k, .int .i64 n, .slice a1 xs.length c1, .slice a2 cs.length c2] 103) = W1 := ⟨_, rfl⟩
    obtain ⟨B, hBe⟩ : ∃ B, w.heap.size = B := ⟨_, rfl⟩
    have hX2 : Blk W1 B #[.int .i64 k, .int .i64 n, .slice a1 xs.length c1, .slice a2 cs.length c2] 103 := by rw [← hW1, ← hBe]; exact Blk.new w _ _
    have hO2 : W1.ownsRow base 56 2 v L.length (cellsU L) := by rw [← hW1]; exact hown.alloc _
    have hG1 : Gr v.ownBlock v.ownBlock w W1 := by rw [← hW1]; exact (Gr.refl _ w).alloc _
    have hS1 : W1.heap.size = B + 1 := by rw [← hW1, ← hBe, World.size_alloc]
    rw [hBe] at hbw hor
    have hvB : v.ownBlock ≠ some B := fun e => by have := (hor B e).2; omega
    have HX2 := Lib.hid hX2; clear hX2
    have HO2 := Lib.hid hO2; clear hO2 hown
    have HG1 := Lib.hid hG1; clear hG1
    have HG2 := Lib.hid (Gr.refl v.ownBlock W1)
    have HS1 := Lib.hid hS1; clear hS1
    have HW1 := Lib.hid hW1; clear hW1
    have HBE := Lib.hid hBe; clear hBe
    have HOR := Lib.hid (fun g hg => (hor g hg).1); clear hor
    have HWB := Lib.hid (hw.trans (HG1.out.old hw.size (fun g hg => Nat.le_trans hB0 (HOR.out g hg)))); clear hw
    go_enter Try.func50, Try.ntmps50
    go_upto_block 0 with fail
    rw [HW1.out, HBE.out]
    clear HW1
    go_cut [0, 5] (fun s _ wx => ∃ v1, v1 = s ∧ wx.ownsRow base 56 2 v1 (L ++ usesL xs).length (cellsU (L ++ usesL xs)) ∧ Blk wx B #[.int .i64 k, .int .i64 n, .slice a1 xs.length c1, .slice a2 cs.length c2] 103 ∧ Gr v.ownBlock v1.ownBlock W1 wx)
    case first =>
      go_wp2_with fail
      go_loopw [0, 5] (fun y x wr => ∃ (v2 : Value) (i : Nat), v2 = y ∧ x = .int .i64 i ∧ i ≤ xs.length ∧ wr.ownsRow base 56 2 v2 (L ++ usesL (xs.take i)).length (cellsU (L ++ usesL (xs.take i))) ∧ Blk wr B #[.int .i64 k, .int .i64 n, .slice a1 xs.length c1, .slice a2 cs.length c2] 103 ∧ Gr v.ownBlock v2.ownBlock W1 wr) (fun _ x _ => xs.length - (intOf x).toNat)
      case atStart => exact ⟨v, 0, rfl, rfl, by omega, by rw [List.take_zero, usesL, List.append_nil]; exact HO2.out, HX2.out, HG2.out⟩
      case round =>
        obtain ⟨v2, i, rfl, rfl, hi, hOr, hXr, hGr⟩ := hrel
        clear HX2 HO2 HG2
        have e3 : wr.cell? ⟨B, 2, none⟩ = some (.slice a1 xs.length c1) := hXr.cell 2
        have HX := Lib.hid hXr; clear hXr
        have HO := Lib.hid hOr; clear hOr
        have HG := Lib.hid hGr; clear hGr
        by_cases hlt2 : i < xs.length
        · have hbi : (i : Int) + 1 ≤ 9223372036854775807 := by unfold maxLen at hcm1; omega
          have hxl : ¬ xs.length = 0 := by omega
          obtain ⟨b, o, rfl, hrow⟩ := HROW1.out.resolve_left hxl
          have hold : Below w0.heap.size w0 wr := HWB.out.trans (HG.out.old HWB.out.size (fun g hg => Nat.le_trans hB0 (HOR.out g hg)))
          obtain ⟨hty, u0, u1, u2, u3, m0, m1, m2, m3, hnd⟩ := SlIn.item4 rfl hrow i hlt2
          have kk := keeps_below hold
          have k0 := kk _ _ _ m0
          have k1 := kk _ _ _ m1
          have k2 := kk _ _ _ m2
          have k3 := kk _ _ _ m3
          have hsz : base ≤ wr.heap.size := by have := HG.out.size; have := HS1.out; omega
          have hle := usesL_at_le hlt2
          have HC := Lib.hid (HIH1.out i hlt2 [u0, u1, u2, u3] _ _ wr hty hnd hold hsz HO.out (by rw [List.length_append]; omega))
          have HTK := Lib.hid (usesL_take hlt2)
          clear m0 m1 m2 m3 hnd hty hold kk hrow
          go_wp2_with fail
          refine HC.out.mono ?_
          rintro e w2 ⟨v3, rfl, hO3, hG3⟩
          rw [List.append_assoc, ← HTK.out] at hO3
          have hvr : v2.ownBlock ≠ some B := fun e => by
            rcases HG.out.2 with h | h
            · exact hvB (h.symm.trans e)
            · have := h B e; have := HS1.out; omega
          have hX3 := HX.out.gr hG3 hvr
          have hG4 := HG.out.trans hG3
          have HO3 := Lib.hid hO3; clear hO3
          have HX3 := Lib.hid hX3; clear hX3
          clear hG3
          have HG4 := Lib.hid hG4; clear hG4
          go_wp2_with fail
          go_roundw
          case rel => exact ⟨v3, i + 1, rfl, by go_num, by omega, HO3.out, HX3.out, HG4.out⟩
          case measure => simp [intOf]; omega
        · obtain rfl : i = xs.length := by omega
          have h0 := HO.out
          rw [List.take_length] at h0
          have HO3 := Lib.hid h0; clear h0
          go_wp2_with fail
          go_meet
          exact ⟨v2, rfl, HO3.out, HX.out, HG.out⟩
    case rest =>
      obtain ⟨v1, rfl, hO2, hX2, hG2⟩ := hcut
      clear HX2 HO2 HG2
      obtain ⟨L1, hLL⟩ : ∃ l, L ++ usesL xs = l := ⟨_, rfl⟩
      rw [hLL] at hO2
      have hlL := congrArg List.length hLL
      rw [List.length_append] at hlL
      have hf := HFIN.out; clear HFIN
      rw [← List.append_assoc, hLL] at hf
      have HFIN := Lib.hid hf; clear hf hLL
      have hlenL1 : L1.length + (usesL cs).length ≤ 1099511627776 := by omega
      clear hlL
      have HX2 := Lib.hid hX2; clear hX2
      have HO2 := Lib.hid hO2; clear hO2
      have HG2 := Lib.hid hG2; clear hG2
      go_upto_block 2 with fail
      go_wp2_with fail
      go_loopw [0, 6] (fun y x wr => ∃ (v2 : Value) (i : Nat), v2 = y ∧ x = .int .i64 i ∧ i ≤ cs.length ∧ wr.ownsRow base 56 2 v2 (L1 ++ usesL (cs.take i)).length (cellsU (L1 ++ usesL (cs.take i))) ∧ Blk wr B #[.int .i64 k, .int .i64 n, .slice a1 xs.length c1, .slice a2 cs.length c2] 103 ∧ Gr v.ownBlock v2.ownBlock W1 wr) (fun _ x _ => cs.length - (intOf x).toNat)
      case atStart => exact ⟨v1, 0, rfl, rfl, by omega, by rw [List.take_zero, usesL, List.append_nil]; exact HO2.out, HX2.out, HG2.out⟩
      case round =>
        obtain ⟨v2, i, rfl, rfl, hi, hOr, hXr, hGr⟩ := hrel
        clear HX2 HO2 HG2
        have e3 : wr.cell? ⟨B, 3, none⟩ = some (.slice a2 cs.length c2) := hXr.cell 3
        have HX := Lib.hid hXr; clear hXr
        have HO := Lib.hid hOr; clear hOr
        have HG := Lib.hid hGr; clear hGr
        by_cases hlt2 : i < cs.length
        · have hbi : (i : Int) + 1 ≤ 9223372036854775807 := by unfold maxLen at hcm2; omega
          have hxl : ¬ cs.length = 0 := by omega
          obtain ⟨b, o, rfl, hrow⟩ := HROW2.out.resolve_left hxl
          have hold : Below w0.heap.size w0 wr := HWB.out.trans (HG.out.old HWB.out.size (fun g hg => Nat.le_trans hB0 (HOR.out g hg)))
          obtain ⟨hty, u0, u1, u2, u3, m0, m1, m2, m3, hnd⟩ := SlIn.item4 rfl hrow i hlt2
          have kk := keeps_below hold
          have k0 := kk _ _ _ m0
          have k1 := kk _ _ _ m1
          have k2 := kk _ _ _ m2
          have k3 := kk _ _ _ m3
          have hsz : base ≤ wr.heap.size := by have := HG.out.size; have := HS1.out; omega
          have hle := usesL_at_le hlt2
          have HC := Lib.hid (HIH2.out i hlt2 [u0, u1, u2, u3] _ _ wr hty hnd hold hsz HO.out (by rw [List.length_append]; omega))
          have HTK := Lib.hid (usesL_take hlt2)
          clear m0 m1 m2 m3 hnd hty hold kk hrow
          go_wp2_with fail
          refine HC.out.mono ?_
          rintro e w2 ⟨v3, rfl, hO3, hG3⟩
          rw [List.append_assoc, ← HTK.out] at hO3
          have hvr : v2.ownBlock ≠ some B := fun e => by
            rcases HG.out.2 with h | h
            · exact hvB (h.symm.trans e)
            · have := h B e; have := HS1.out; omega
          have hX3 := HX.out.gr hG3 hvr
          have hG4 := HG.out.trans hG3
          have HO3 := Lib.hid hO3; clear hO3
          have HX3 := Lib.hid hX3; clear hX3
          clear hG3
          have HG4 := Lib.hid hG4; clear hG4
          go_wp2_with fail
          go_roundw
          case rel => exact ⟨v3, i + 1, rfl, by go_num, by omega, HO3.out, HX3.out, HG4.out⟩
          case measure => simp [intOf]; omega
        · obtain rfl : i = cs.length := by omega
          have h0 := HO.out
          rw [List.take_length, HFIN.out] at h0
          have HO3 := Lib.hid h0; clear h0
          go_wp2_with fail
          go_ret
          exact ⟨v2, rfl, HO3.out, HG1.out.trans HG.out⟩
end Go.Proofs.Ytofbocmbgadfnaa
