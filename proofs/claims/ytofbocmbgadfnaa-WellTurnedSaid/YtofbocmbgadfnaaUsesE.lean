/-
  The document's names in an expression (gnomonref3's exprUses): proved is that it puts them behind the list that it is handed.
-/
import Derived.Test.YtofbocmbgadfnaaGrow
import Derived.Outline
import Derived.Deep.DeepCutAuto
import Derived.Deep.CutBlock
namespace Go.Proofs.Ytofbocmbgadfnaa
open Go Go.RowKit

theorem use_one (nm : ByteArray) (b : Bool) : ∀ u ∈ ([.string nm, .bool b] : List Value), u.oneCell' = true := by
  intro u hu
  simp at hu
  rcases hu with rfl | rfl <;> rfl
theorem news_use (w : World) (nm : ByteArray) (b : Bool) (c : Nat) (hc : w.heap.size = c) : ∀ j u, ([.string nm, .bool b] : List Value)[j]? = some u → (w.alloc (.cells #[.string nm, .bool b] 56)).cell? ((⟨c, 0, none⟩ : Addr).add j) = some u := by
  rw [← hc]
  exact World.news_of_block (cs := #[.string nm, .bool b]) (t := 56) (fr := (0, 0)) (heap_alloc_new w _)

set_option maxRecDepth 100000 in
set_option maxHeartbeats 8000000 in
theorem exprUses_any (w0 : World) (base : Nat) (hB0 : w0.heap.size ≤ base) : ∀ (N : Nat) (x : Nd) (us : List Value) (L : List Us) (v : Value) (w : World), SizeOf.sizeOf x ≤ N → x.ty = .E → NdIn w0 x us → Below w0.heap.size w0 w → base ≤ w.heap.size → w.ownsRow base 56 2 v L.length (cellsU L) → L.length + (usesN x).length ≤ 1099511627776 →
    Calls Try.prog 51 #[v, .agg us.toArray] w (UsedTo w base v (L ++ usesN x)) := by
  intro N
  induction N with
  | zero =>
    intro x us L v w hN
    obtain ⟨ty, k, n, nm, xs, cs, ts, es⟩ := x
    simp only [Nd.mk.sizeOf_spec] at hN
    omega
  | succ N ih =>
    intro x us L v w hN hty hin hw hbw hown hlen
    have hmem := fun y h => Nd.mem_size (x := x) (y := y) h
    obtain ⟨ty, k, n, nm, xs, cs, ts, es⟩ := x
    simp only [Nd.ty] at hty
    subst hty
    simp only [Nd.xs, Nd.cs, Nd.ts, Nd.es] at hmem
    unfold NdIn at hin
    obtain ⟨⟨rfl, rfl, rfl⟩, -, -, -, vx, vc, vt, ve, rfl, hx, -, -, -⟩ := hin
    obtain ⟨a, c, rfl, hnc1, hcm1, hrow1⟩ := hx
    change Calls _ _ #[v, .agg #[.int .i64 k, .int .i64 n, .string nm, .slice a xs.length c]] w _
    have hu : usesN (.mk .E k n nm xs [] [] []) = headU nm (k == 2) (k == 4) ++ usesL xs := by unfold usesN; rfl
    rw [hu] at hlen ⊢
    clear hu
    have HIH := Lib.hid (fun (i : Nat) (hi : i < xs.length) us L v w => ih xs[i] us L v w (by have := hmem _ (.inl (List.getElem_mem hi)); omega))
    clear ih hmem hN
    have HROW1 := Lib.hid hrow1; clear hrow1
    obtain ⟨i0, hi0, hz0, hz1, hz2⟩ := info_parts info_use
    have HI0 := Lib.hid hi0; clear hi0
    have HZ0 := Lib.hid hz0; clear hz0
    have HZ1 := Lib.hid hz1; clear hz1
    have HZ2 := Lib.hid hz2; clear hz2
    obtain ⟨b2, hb2⟩ : ∃ b, (k == 2) = b := ⟨_, rfl⟩
    obtain ⟨b4, hb4⟩ : ∃ b, (k == 4) = b := ⟨_, rfl⟩
    rw [hb2, hb4] at hlen ⊢
    obtain ⟨FIN, hFIN⟩ : ∃ l, L ++ (headU nm b2 b4 ++ usesL xs) = l := ⟨_, rfl⟩
    rw [hFIN]
    have HFIN := Lib.hid hFIN; clear hFIN
    have HB2 := Lib.hid hb2; clear hb2
    have HB4 := Lib.hid hb4; clear hb4
    have hor : ∀ g, v.ownBlock = some g → base ≤ g ∧ g < w.heap.size := hown.lt
    obtain ⟨W1, hW1⟩ : ∃ W1, w.alloc (.cells #[.int .i64 k, .int .i64 n, .string nm, .slice a xs.length c] 106) = W1 := ⟨_, rfl⟩
    obtain ⟨B, hBe⟩ : ∃ B, w.heap.size = B := ⟨_, rfl⟩
    have hX1 : Blk W1 B #[.int .i64 k, .int .i64 n, .string nm, .slice a xs.length c] 106 := by rw [← hW1, ← hBe]; exact Blk.new w _ _
    have hO1 : W1.ownsRow base 56 2 v L.length (cellsU L) := by rw [← hW1]; exact hown.alloc _
    have hG1 : Gr v.ownBlock v.ownBlock w W1 := by rw [← hW1]; exact (Gr.refl _ w).alloc _
    have hS1 : W1.heap.size = B + 1 := by rw [← hW1, ← hBe, World.size_alloc]
    rw [hBe] at hbw hor
    have hvB : v.ownBlock ≠ some B := fun e => by have := (hor B e).2; omega
    have HX1 := Lib.hid hX1; clear hX1
    have HO1 := Lib.hid hO1; clear hO1 hown
    have HG1 := Lib.hid hG1; clear hG1
    have HS1 := Lib.hid hS1; clear hS1
    have HW1 := Lib.hid hW1; clear hW1
    have HBE := Lib.hid hBe; clear hBe
    have HOR := Lib.hid hor; clear hor
    have HHW := Lib.hid hw; clear hw
    go_enter Try.func51, Try.ntmps51
    go_upto_region 1 with fail
    rw [HW1.out, HBE.out]
    clear HW1
    obtain ⟨hb, hhb⟩ : ∃ h, (b2 || b4) = h := ⟨_, rfl⟩
    have hhead : headU nm b2 b4 = if hb then [(nm, b4)] else [] := by unfold headU; rw [hhb]
    have HHB := Lib.hid hhb; clear hhb
    have HHD := Lib.hid hhead; clear hhead
    have k0 : W1.cell? ⟨B, 0, none⟩ = some (.int .i64 k) := HX1.out.cell 0
    have k2 : W1.cell? ⟨B, 2, none⟩ = some (.string nm) := HX1.out.cell 2
    go_cut [13] (fun s wx => s = .bool hb ∧ W1 = wx)
    case first =>
      have hb2 := HB2.out
      have hb4 := HB4.out
      cases b2 with
      | true =>
        have e : hb = true := by rw [← HHB.out]; rfl
        clear HHB HHD
        subst e
        go_wp2_with fail
        go_meet
        exact ⟨rfl, rfl⟩
      | false =>
        have e : hb = b4 := by rw [← HHB.out]; rfl
        clear HHB HHD
        subst e
        go_wp2_with fail
        go_meet
        exact ⟨rfl, rfl⟩
    case rest =>
      obtain ⟨rfl, hwc⟩ := hcut
      subst hwc
      go_upto_if 13 with fail
      go_cut [0] (fun s wx => ∃ v1, v1 = s ∧ wx.ownsRow base 56 2 v1 (L ++ headU nm b2 b4).length (cellsU (L ++ headU nm b2 b4)) ∧ Blk wx B #[.int .i64 k, .int .i64 n, .string nm, .slice a xs.length c] 106 ∧ Gr v.ownBlock v1.ownBlock W1 wx)
      case first =>
        cases hb with
        | false =>
          go_wp2_with fail
          go_meet
          exact ⟨v, rfl, by rw [HHD.out]; simpa using HO1.out, HX1.out, Gr.refl _ _⟩
        | true =>
          have hb4 := HB4.out
          have hN := news_use W1 nm b4 (B + 1) HS1.out
          have HNW := Lib.hid hN; clear hN
          have hSZ : base ≤ (W1.alloc (.cells #[.string nm, .bool b4] 56)).heap.size := by rw [World.size_alloc, HS1.out]; omega
          have HSZ := Lib.hid hSZ; clear hSZ
          have hl1 : L.length + 1 ≤ maxLen := by unfold maxLen; omega
          have hs1 : W1.heap.size = B + 1 := HS1.out
          go_wp2_with (first | (at_builtin; (with_reducible refine wpList_append_lies _ rfl (.tmp 14) (.tmp 21) 53 rfl base 56 i0 _ 2 24 Try.underlying53 HI0.out HZ0.out HZ1.out HZ2.out rfl (by omega) v L.length (cellsU L) rfl (HO1.out.alloc _) ⟨_, 0, none⟩ 1 1 [.string nm, .bool b4] rfl rfl HNW.out (use_one _ _) (by omega) hl1 (by omega) HSZ.out _ rfl ?_); (intro gg cap w4 hown4 hgrow hat hlt2)) | fail)
          go_meet
          exact ⟨_, rfl, by rw [HHD.out]; simp only [if_true, List.length_append, List.length_cons, List.length_nil]; rw [cellsU_snoc]; exact hown4, blk_grown (HX1.out.alloc _) hgrow hvB, gr_grown ((Gr.refl _ W1).alloc _) hgrow (own_new hat)⟩
      case rest =>
        obtain ⟨v1, rfl, hO2, hX2, hG2⟩ := hcut
        clear k0 k2 HX1 HO1 HB2 HB4 HHB HHD
        obtain ⟨L1, hL1⟩ : ∃ l, L ++ headU nm b2 b4 = l := ⟨_, rfl⟩
        have hlen1 : L1.length + (usesL xs).length ≤ 1099511627776 := by rw [← hL1]; simp only [List.length_append] at hlen ⊢; omega
        rw [hL1] at hO2
        have hf := HFIN.out; clear HFIN
        rw [← List.append_assoc, hL1] at hf
        have HFIN := Lib.hid hf; clear hf
        clear hlen hL1
        have HX2 := Lib.hid hX2; clear hX2
        have HO2 := Lib.hid hO2; clear hO2
        have HG2 := Lib.hid hG2; clear hG2
        go_wp2_with fail
        go_loopw [0, 5] (fun y x wr => ∃ (v2 : Value) (i : Nat), v2 = y ∧ x = .int .i64 i ∧ i ≤ xs.length ∧ wr.ownsRow base 56 2 v2 (L1 ++ usesL (xs.take i)).length (cellsU (L1 ++ usesL (xs.take i))) ∧ Blk wr B #[.int .i64 k, .int .i64 n, .string nm, .slice a xs.length c] 106 ∧ Gr v.ownBlock v2.ownBlock W1 wr) (fun _ x _ => xs.length - (intOf x).toNat)
        case atStart => exact ⟨v1, 0, rfl, rfl, by omega, by rw [List.take_zero, usesL, List.append_nil]; exact HO2.out, HX2.out, HG2.out⟩
        case round =>
          obtain ⟨v2, i, rfl, rfl, hi, hOr, hXr, hGr⟩ := hrel
          clear HX2 HO2 HG2
          have e3 : wr.cell? ⟨B, 3, none⟩ = some (.slice a xs.length c) := hXr.cell 3
          have HX := Lib.hid hXr; clear hXr
          have HO := Lib.hid hOr; clear hOr
          have HG := Lib.hid hGr; clear hGr
          by_cases hlt2 : i < xs.length
          · have hbi : (i : Int) + 1 ≤ 9223372036854775807 := by unfold maxLen at hcm1; omega
            have hxl : ¬ xs.length = 0 := by omega
            obtain ⟨b, o, rfl, hrow⟩ := HROW1.out.resolve_left hxl
            have hold1 : Below w0.heap.size w wr := (HG1.out.trans HG.out).old HHW.out.size (fun g hg => Nat.le_trans hB0 (HOR.out g hg).1)
            have hold : Below w0.heap.size w0 wr := HHW.out.trans hold1
            obtain ⟨hty, u0, u1, u2, u3, m0, m1, m2, m3, hnd⟩ := SlIn.item4 rfl hrow i hlt2
            have kk := keeps_below hold
            have k0 := kk _ _ _ m0
            have k1 := kk _ _ _ m1
            have k2 := kk _ _ _ m2
            have k3 := kk _ _ _ m3
            have hsz : base ≤ wr.heap.size := by have := HG.out.size; have := HS1.out; omega
            have hle := usesL_at_le hlt2
            have HC := Lib.hid (HIH.out i hlt2 [u0, u1, u2, u3] _ _ wr hty hnd hold hsz HO.out (by rw [List.length_append]; omega))
            have HTK := Lib.hid (usesL_take hlt2)
            clear m0 m1 m2 m3 hnd hty hold hold1 kk hrow
            go_wp2_with fail
            refine HC.out.mono ?_
            rintro e w2 ⟨v3, rfl, hO3, hG3⟩
            rw [List.append_assoc, ← HTK.out] at hO3
            have hvr : v2.ownBlock ≠ some B := fun e => by
              rcases HG.out.2 with h | h
              · exact hvB (h.symm.trans e)
              · have := h B e; have := HS1.out; omega
            have hX3 := HX.out.gr hG3 hvr
            have hG4 := HG.out.trans hG3
            have HO3 := Lib.hid hO3; clear hO3
            have HX3 := Lib.hid hX3; clear hX3
            clear hG3
            have HG4 := Lib.hid hG4; clear hG4
            go_wp2_with fail
            go_roundw
            case rel => exact ⟨v3, i + 1, rfl, by go_num, by omega, HO3.out, HX3.out, HG4.out⟩
            case measure => simp [intOf]; omega
          · obtain rfl : i = xs.length := by omega
            have h0 := HO.out
            rw [List.take_length, HFIN.out] at h0
            have HO3 := Lib.hid h0; clear h0
            go_wp2_with fail
            go_ret
            exact ⟨v2, rfl, HO3.out, HG1.out.trans HG.out⟩
end Go.Proofs.Ytofbocmbgadfnaa
