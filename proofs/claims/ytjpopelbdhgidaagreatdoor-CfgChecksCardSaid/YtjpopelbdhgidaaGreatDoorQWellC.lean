/-
  The project's names in conditions (well's inConds): proved is that they are put behind the list that is handed on.
-/
import Derived.Test.YtjpopelbdhgidaaGreatDoorQUsesS
import Derived.Deep.RegionWith
/-
  The project's names in expressions (well's inExprs): proved is that they are put behind the list that is handed on.
-/
namespace Go.Proofs.YtjpopelbdhgidaaGreatDoor
open Go Go.RowKit

def kindB (b : Bool) : Int := if b then 2 else 1
def cellsK (l : List Us) : List Value := l.flatMap fun u => [.string u.1, .int .i64 (kindB u.2)]
theorem info_wuse : (Tryz.prog.info? 210).map (fun i => (i.zero, i.size, i.bytes)) = some (some (.agg #[.string ⟨#[]⟩, .int .i64 0]), 2, 24) := by kernel_rfl
theorem kuse_one (nm : ByteArray) (k : Int) : ∀ u ∈ ([.string nm, .int .i64 k] : List Value), u.oneCell' = true := by
  intro u hu
  simp at hu
  rcases hu with rfl | rfl <;> rfl
theorem news_kuse (w : World) (nm : ByteArray) (k : Int) (c : Nat) (hc : w.heap.size = c) : ∀ j u, ([.string nm, .int .i64 k] : List Value)[j]? = some u → (w.alloc (.cells #[.string nm, .int .i64 k] 210)).cell? ((⟨c, 0, none⟩ : Addr).add j) = some u := by
  rw [← hc]
  exact World.news_of_block (cs := #[.string nm, .int .i64 k]) (t := 210) (fr := (0, 0)) (heap_alloc_new w _)
/-- A list of used names is handed on (the project's). -/
def KUsedTo (w : World) (base : Nat) (v : Value) (L : List Us) : Ending → World → Prop := fun e w' => ∃ v', e = .returned v' ∧ w'.ownsRow base 210 2 v' L.length (cellsK L) ∧ Gr v.ownBlock v'.ownBlock w w'

set_option maxRecDepth 100000 in
set_option maxHeartbeats 16000000 in
theorem inExprs_any (w0 : World) (base : Nat) (hB0 : w0.heap.size ≤ base) : ∀ (N : Nat) (l : List Nd) (vl : Value) (L : List Us) (v : Value) (w : World), SizeOf.sizeOf l ≤ N → SlIn w0 .E l vl → Below w0.heap.size w0 w → base ≤ w.heap.size → w.ownsRow base 210 2 v L.length (cellsK L) → L.length + (usesL l).length ≤ 1099511627776 →
    Calls Tryz.prog 171 #[v, vl] w (KUsedTo w base v (L ++ usesL l)) := by
  intro N
  induction N with
  | zero =>
    intro l vl L v w hN
    cases l <;> simp at hN
  | succ N ih =>
    intro l vl L v w hN hl hw hbw hown hlen
    obtain ⟨A, C, rfl, hlC, hcmC, hROW⟩ := hl
    have HROW := Lib.hid hROW; clear hROW
    have HIH := Lib.hid ih; clear ih
    obtain ⟨i0, hi0, hz0, hz1, hz2⟩ := info_parts info_wuse
    have HI0 := Lib.hid hi0; clear hi0
    have HZ0 := Lib.hid hz0; clear hz0
    have HZ1 := Lib.hid hz1; clear hz1
    have HZ2 := Lib.hid hz2; clear hz2
    obtain ⟨POST, hPOST⟩ : ∃ l', L ++ usesL l = l' := ⟨_, rfl⟩
    rw [hPOST]
    have HPOST := Lib.hid hPOST; clear hPOST
    have HOR0 := Lib.hid (fun g hg => (hown.lt g hg).1)
    have HO0 := Lib.hid hown; clear hown
    have HHW := Lib.hid hw; clear hw
    go_enter Tryz.func171, Tryz.ntmps171
    go_wp2_with fail
    go_loopw [0, 9] (fun y x wr => ∃ (vo : Value) (ii : Nat), vo = y ∧ x = .int .i64 ii ∧ ii ≤ l.length ∧ wr.ownsRow base 210 2 vo (L ++ usesL (l.take ii)).length (cellsK (L ++ usesL (l.take ii))) ∧ Gr v.ownBlock vo.ownBlock w wr) (fun _ x _ => l.length - (intOf x).toNat)
    case atStart => exact ⟨v, 0, rfl, rfl, by omega, by rw [List.take_zero, usesL, List.append_nil]; exact HO0.out, Gr.refl _ _⟩
    case round =>
      obtain ⟨vo, ii, rfl, rfl, hii, hOo, hGo⟩ := hrel
      have HOO := Lib.hid hOo; clear hOo
      have HGO := Lib.hid hGo; clear hGo
      by_cases hlt : ii < l.length
      · have hbii : (ii : Int) + 1 ≤ 9223372036854775807 := by unfold maxLen at hcmC; omega
        have hxl0 : ¬ l.length = 0 := by omega
        obtain ⟨b0, o0, rfl, hrow⟩ := HROW.out.resolve_left hxl0
        have hold0 : Below w0.heap.size w0 wr := HHW.out.trans (HGO.out.old HHW.out.size (fun g hg => Nat.le_trans hB0 (HOR0.out g hg)))
        obtain ⟨hty, u0, u1, u2, u3, m0, m1, m2, m3, hnd⟩ := SlIn.item4 rfl hrow ii hlt
        have hsz0 := List.sizeOf_lt_of_mem (List.getElem_mem hlt)
        have kk := keeps_below hold0
        have g0 := kk _ _ _ m0
        have g1 := kk _ _ _ m1
        have g2 := kk _ _ _ m2
        have g3 := kk _ _ _ m3
        have hle0 := usesL_at_le hlt
        have htk0 := usesL_take hlt
        clear m0 m1 m2 m3 kk hrow
        obtain ⟨X, hX⟩ : ∃ X, l[ii] = X := ⟨_, rfl⟩
        rw [hX] at hnd hty htk0 hle0 hsz0
        clear hX
        obtain ⟨ty, k, n, nm, xs, cs, ts, es⟩ := X
        simp only [Nd.ty] at hty
        subst hty
        unfold NdIn at hnd
        obtain ⟨hz, -, -, -, vx, vc, vt, ve, hvs, hxs, hcs, hts, hes⟩ := hnd
        simp only [fits] at hz
        obtain ⟨rfl, rfl, rfl⟩ := hz
        simp only [lay, List.cons.injEq, and_true] at hvs
        obtain ⟨rfl, rfl, rfl, rfl⟩ := hvs
        have hu : usesN (.mk .E k n nm xs [] [] []) = headU nm (k == 2) (k == 4) ++ usesL xs := by unfold usesN; rfl
        rw [hu] at htk0 hle0
        clear hu
        simp only [Nd.mk.sizeOf_spec] at hsz0
        have HT := Lib.hid (fun L v w => HIH.out xs _ L v w (by omega) hxs)
        obtain ⟨a1, c1, rfl, -⟩ := hxs
        obtain ⟨b2, hb2⟩ : ∃ b, (k == 2) = b := ⟨_, rfl⟩
        obtain ⟨b4, hb4⟩ : ∃ b, (k == 4) = b := ⟨_, rfl⟩
        rw [hb2, hb4] at htk0 hle0
        have HB2 := Lib.hid hb2; clear hb2
        have HB4 := Lib.hid hb4; clear hb4
        rw [List.length_append] at hle0
        obtain ⟨LB, hLB⟩ : ∃ x, L ++ usesL (l.take ii) = x := ⟨_, rfl⟩
        have hOo := HOO.out; clear HOO
        rw [hLB] at hOo
        obtain ⟨FIN, hFN⟩ : ∃ x, L ++ usesL (l.take (ii + 1)) = x := ⟨_, rfl⟩
        have hlenLB := congrArg List.length hLB
        simp only [List.length_append] at hlenLB
        have HFN := Lib.hid hFN
        have hfin : LB ++ (headU nm b2 b4 ++ usesL xs) = FIN := by rw [← hLB, ← hFN, htk0, List.append_assoc]
        have HFIN := Lib.hid hfin; clear hfin htk0 hLB hsz0 hFN
        have hor : ∀ g, vo.ownBlock = some g → base ≤ g ∧ g < wr.heap.size := hOo.lt
        obtain ⟨W1, hW1⟩ : ∃ W1, wr.alloc (.cells #[.int .i64 k, .int .i64 n, .string nm, .slice a1 xs.length c1] 175) = W1 := ⟨_, rfl⟩
        obtain ⟨B, hBe⟩ : ∃ B, wr.heap.size = B := ⟨_, rfl⟩
        have hX1 : Blk W1 B #[.int .i64 k, .int .i64 n, .string nm, .slice a1 xs.length c1] 175 := by rw [← hW1, ← hBe]; exact Blk.new wr _ _
        have hO1 : W1.ownsRow base 210 2 vo LB.length (cellsK LB) := by rw [← hW1]; exact hOo.alloc _
        have hG1 : Gr vo.ownBlock vo.ownBlock wr W1 := by rw [← hW1]; exact (Gr.refl _ wr).alloc _
        have hS1 : W1.heap.size = B + 1 := by rw [← hW1, ← hBe, World.size_alloc]
        have hbw2 : base ≤ B := by have := HGO.out.size; omega
        rw [hBe] at hor
        have hvB : vo.ownBlock ≠ some B := fun e => by have := (hor B e).2; omega
        have HX1 := Lib.hid hX1; clear hX1
        have HO1 := Lib.hid hO1; clear hO1 hOo
        have HG1 := Lib.hid hG1; clear hG1
        have HS1 := Lib.hid hS1; clear hS1
        have HW1 := Lib.hid hW1; clear hW1
        have HBE := Lib.hid hBe; clear hBe
        have HOR := Lib.hid (fun g hg => (hor g hg).1); clear hor
        have HWB := Lib.hid (hold0.trans (HG1.out.old hold0.size (fun g hg => Nat.le_trans hB0 (HOR.out g hg)))); clear hold0
        go_upto_region 4 with fail
        rw [HW1.out, HBE.out]
        clear HW1 g0 g1 g2 g3
        have k0 : W1.cell? ⟨B, 0, none⟩ = some (.int .i64 k) := HX1.out.cell 0
        have kn : W1.cell? ⟨B, 2, none⟩ = some (.string nm) := HX1.out.cell 2
        go_upto_block 2 with fail
        go_cut [0] (fun s wx => ∃ v1, v1 = s ∧ wx.ownsRow base 210 2 v1 (LB ++ headU nm b2 b4).length (cellsK (LB ++ headU nm b2 b4)) ∧ Blk wx B #[.int .i64 k, .int .i64 n, .string nm, .slice a1 xs.length c1] 175 ∧ Gr vo.ownBlock v1.ownBlock W1 wx)
        case first =>
          have hl1 : LB.length + 1 ≤ maxLen := by unfold maxLen; omega
          have hs1 : W1.heap.size = B + 1 := HS1.out
          have hb2 := HB2.out
          have hb4 := HB4.out
          cases b2 with
          | true =>
            have e4 : b4 = false := by rw [← hb4]; have h := eq_of_beq hb2; subst h; rfl
            clear hb4
            subst e4
            have HNW := Lib.hid (news_kuse W1 nm 1 (B + 1) HS1.out)
            have hSZ : base ≤ (W1.alloc (.cells #[.string nm, .int .i64 1] 210)).heap.size := by rw [World.size_alloc, HS1.out]; omega
            have HSZ := Lib.hid hSZ; clear hSZ
            go_wp2_with (first | (at_builtin; (with_reducible refine wpList_append_lies _ rfl (.tmp 17) (.tmp 21) 207 rfl base 210 i0 _ 2 24 Tryz.underlying207 HI0.out HZ0.out HZ1.out HZ2.out rfl (by omega) vo LB.length (cellsK LB) rfl (HO1.out.alloc _) ⟨_, 0, none⟩ 1 1 [.string nm, .int .i64 1] rfl rfl HNW.out (kuse_one _ _) (by omega) hl1 (by omega) HSZ.out _ rfl ?_); (intro gg cap w4 hown4 hgrow hat hlt2)) | fail)
            go_meet
            exact ⟨_, rfl, by simpa [headU, cellsK, kindB] using hown4, blk_grown (HX1.out.alloc _) hgrow hvB, gr_grown ((Gr.refl _ W1).alloc _) hgrow (own_new hat)⟩
          | false =>
            cases b4 with
            | true =>
              have HNW := Lib.hid (news_kuse W1 nm 2 (B + 1) HS1.out)
              have hSZ : base ≤ (W1.alloc (.cells #[.string nm, .int .i64 2] 210)).heap.size := by rw [World.size_alloc, HS1.out]; omega
              have HSZ := Lib.hid hSZ; clear hSZ
              go_wp2_with (first | (at_builtin; (with_reducible refine wpList_append_lies _ rfl (.tmp 25) (.tmp 29) 207 rfl base 210 i0 _ 2 24 Tryz.underlying207 HI0.out HZ0.out HZ1.out HZ2.out rfl (by omega) vo LB.length (cellsK LB) rfl (HO1.out.alloc _) ⟨_, 0, none⟩ 1 1 [.string nm, .int .i64 2] rfl rfl HNW.out (kuse_one _ _) (by omega) hl1 (by omega) HSZ.out _ rfl ?_); (intro gg cap w4 hown4 hgrow hat hlt2)) | fail)
              go_meet
              exact ⟨_, rfl, by simpa [headU, cellsK, kindB] using hown4, blk_grown (HX1.out.alloc _) hgrow hvB, gr_grown ((Gr.refl _ W1).alloc _) hgrow (own_new hat)⟩
            | false =>
              clear hl1 hs1
              go_wp2_with fail
              go_meet
              exact ⟨_, rfl, by simpa [headU] using HO1.out, HX1.out, Gr.refl _ _⟩
        case rest =>
          obtain ⟨v1, rfl, hO2, hX2, hG2⟩ := hcut
          clear HX1 HO1 HB2 HB4 k0 kn
          have j3 : wc.cell? ⟨B, 3, none⟩ = some (.slice a1 xs.length c1) := hX2.cell 3
          have hold : Below w0.heap.size w0 wc := HWB.out.trans (hG2.old HWB.out.size (fun g hg => Nat.le_trans hB0 (HOR.out g hg)))
          have hsz : base ≤ wc.heap.size := by have := hG2.size; have := HS1.out; omega
          have HC := Lib.hid (HT.out _ _ wc hold hsz hO2 (by rw [List.length_append]; omega))
          have hf := HFIN.out; clear HFIN
          rw [← List.append_assoc] at hf
          rw [hf] at HC
          have HG2 := Lib.hid hG2; clear hG2
          clear hold hsz hO2 hX2 hf
          go_wp2_with fail
          refine HC.out.mono ?_
          rintro e w2 ⟨v3, rfl, hO3, hG3⟩
          rw [← HFN.out] at hO3
          have HO3 := Lib.hid hO3; clear hO3
          have HG3 := Lib.hid (HGO.out.trans (HG1.out.trans (HG2.out.trans hG3))); clear hG3
          go_wp2_with fail
          go_roundw
          case rel => exact ⟨v3, ii + 1, rfl, by go_num, by omega, HO3.out, HG3.out⟩
          case measure => simp [intOf]; omega
      · obtain rfl : ii = l.length := by omega
        have h0 := HOO.out
        rw [List.take_length, HPOST.out] at h0
        have HO3 := Lib.hid h0; clear h0
        go_wp2_with fail
        go_ret
        exact ⟨vo, rfl, HO3.out, HGO.out⟩
end Go.Proofs.YtjpopelbdhgidaaGreatDoor

/-
  The project's names in conditions (well's inConds): proved is that they are put behind the list that is handed on.
-/
namespace Go.Proofs.YtjpopelbdhgidaaGreatDoor
open Go Go.RowKit

set_option maxRecDepth 100000 in
set_option maxHeartbeats 16000000 in
theorem inConds_any (w0 : World) (base : Nat) (hB0 : w0.heap.size ≤ base) : ∀ (N : Nat) (l : List Nd) (vl : Value) (L : List Us) (v : Value) (w : World), SizeOf.sizeOf l ≤ N → SlIn w0 .C l vl → Below w0.heap.size w0 w → base ≤ w.heap.size → w.ownsRow base 210 2 v L.length (cellsK L) → L.length + (usesL l).length ≤ 1099511627776 →
    Calls Tryz.prog 172 #[v, vl] w (KUsedTo w base v (L ++ usesL l)) := by
  intro N
  induction N with
  | zero =>
    intro l vl L v w hN
    cases l <;> simp at hN
  | succ N ih =>
    intro l vl L v w hN hl hw hbw hown hlen
    obtain ⟨A, C, rfl, hlC, hcmC, hROW⟩ := hl
    have HROW := Lib.hid hROW; clear hROW
    have HIH := Lib.hid ih; clear ih
    obtain ⟨i0, hi0, hz0, hz1, hz2⟩ := info_parts info_wuse
    have HI0 := Lib.hid hi0; clear hi0
    have HZ0 := Lib.hid hz0; clear hz0
    have HZ1 := Lib.hid hz1; clear hz1
    have HZ2 := Lib.hid hz2; clear hz2
    obtain ⟨POST, hPOST⟩ : ∃ l', L ++ usesL l = l' := ⟨_, rfl⟩
    rw [hPOST]
    have HPOST := Lib.hid hPOST; clear hPOST
    have HOR0 := Lib.hid (fun g hg => (hown.lt g hg).1)
    have HO0 := Lib.hid hown; clear hown
    have HHW := Lib.hid hw; clear hw
    go_enter Tryz.func172, Tryz.ntmps172
    go_wp2_with fail
    go_loopw [0, 9] (fun y x wr => ∃ (vo : Value) (ii : Nat), vo = y ∧ x = .int .i64 ii ∧ ii ≤ l.length ∧ wr.ownsRow base 210 2 vo (L ++ usesL (l.take ii)).length (cellsK (L ++ usesL (l.take ii))) ∧ Gr v.ownBlock vo.ownBlock w wr) (fun _ x _ => l.length - (intOf x).toNat)
    case atStart => exact ⟨v, 0, rfl, rfl, by omega, by rw [List.take_zero, usesL, List.append_nil]; exact HO0.out, Gr.refl _ _⟩
    case round =>
      obtain ⟨vo, ii, rfl, rfl, hii, hOo, hGo⟩ := hrel
      have HOO := Lib.hid hOo; clear hOo
      have HGO := Lib.hid hGo; clear hGo
      by_cases hlt : ii < l.length
      · have hbii : (ii : Int) + 1 ≤ 9223372036854775807 := by unfold maxLen at hcmC; omega
        have hxl0 : ¬ l.length = 0 := by omega
        obtain ⟨b0, o0, rfl, hrow⟩ := HROW.out.resolve_left hxl0
        have hold0 : Below w0.heap.size w0 wr := HHW.out.trans (HGO.out.old HHW.out.size (fun g hg => Nat.le_trans hB0 (HOR0.out g hg)))
        obtain ⟨hty, u0, u1, u2, u3, m0, m1, m2, m3, hnd⟩ := SlIn.item4 rfl hrow ii hlt
        have hsz0 := List.sizeOf_lt_of_mem (List.getElem_mem hlt)
        have kk := keeps_below hold0
        have g0 := kk _ _ _ m0
        have g1 := kk _ _ _ m1
        have g2 := kk _ _ _ m2
        have g3 := kk _ _ _ m3
        have hle0 := usesL_at_le hlt
        have htk0 := usesL_take hlt
        clear m0 m1 m2 m3 kk hrow
        obtain ⟨X, hX⟩ : ∃ X, l[ii] = X := ⟨_, rfl⟩
        rw [hX] at hnd hty htk0 hle0 hsz0
        clear hX
        obtain ⟨ty, k, n, nm, xs, cs, ts, es⟩ := X
        simp only [Nd.ty] at hty
        subst hty
        unfold NdIn at hnd
        obtain ⟨hz, -, -, -, vx, vc, vt, ve, hvs, hxs, hcs, hts, hes⟩ := hnd
        simp only [fits] at hz
        obtain ⟨rfl, rfl, rfl⟩ := hz
        simp only [lay, List.cons.injEq, and_true] at hvs
        obtain ⟨rfl, rfl, rfl, rfl⟩ := hvs
        have hu : usesN (.mk .C k n ⟨#[]⟩ xs cs [] []) = usesL xs ++ usesL cs := by unfold usesN; rfl
        rw [hu] at htk0 hle0
        clear hu
        simp only [Nd.mk.sizeOf_spec] at hsz0
        have HT2 := Lib.hid (fun L v w => HIH.out cs _ L v w (by omega) hcs)
        have HT1 := Lib.hid (fun L v w => inExprs_any w0 base hB0 _ xs _ L v w (Nat.le_refl _) hxs)
        obtain ⟨a1, c1, rfl, -⟩ := hxs
        obtain ⟨a2, c2, rfl, -⟩ := hcs
        rw [List.length_append] at hle0
        obtain ⟨LB, hLB⟩ : ∃ x, L ++ usesL (l.take ii) = x := ⟨_, rfl⟩
        have hOo := HOO.out; clear HOO
        rw [hLB] at hOo
        obtain ⟨FIN, hFN⟩ : ∃ x, L ++ usesL (l.take (ii + 1)) = x := ⟨_, rfl⟩
        have hlenLB := congrArg List.length hLB
        simp only [List.length_append] at hlenLB
        have HFN := Lib.hid hFN
        have hfin : LB ++ (usesL xs ++ usesL cs) = FIN := by rw [← hLB, ← hFN, htk0, List.append_assoc]
        have HFIN := Lib.hid hfin; clear hfin htk0 hLB hsz0 hFN
        have hor : ∀ g, vo.ownBlock = some g → base ≤ g ∧ g < wr.heap.size := hOo.lt
        obtain ⟨W1, hW1⟩ : ∃ W1, wr.alloc (.cells #[.int .i64 k, .int .i64 n, .slice a1 xs.length c1, .slice a2 cs.length c2] 183) = W1 := ⟨_, rfl⟩
        obtain ⟨B, hBe⟩ : ∃ B, wr.heap.size = B := ⟨_, rfl⟩
        have hX1 : Blk W1 B #[.int .i64 k, .int .i64 n, .slice a1 xs.length c1, .slice a2 cs.length c2] 183 := by rw [← hW1, ← hBe]; exact Blk.new wr _ _
        have hO1 : W1.ownsRow base 210 2 vo LB.length (cellsK LB) := by rw [← hW1]; exact hOo.alloc _
        have hG1 : Gr vo.ownBlock vo.ownBlock wr W1 := by rw [← hW1]; exact (Gr.refl _ wr).alloc _
        have hS1 : W1.heap.size = B + 1 := by rw [← hW1, ← hBe, World.size_alloc]
        have hbw2 : base ≤ B := by have := HGO.out.size; omega
        rw [hBe] at hor
        have hvB : vo.ownBlock ≠ some B := fun e => by have := (hor B e).2; omega
        have HX1 := Lib.hid hX1; clear hX1
        have HO1 := Lib.hid hO1; clear hO1 hOo
        have HG1 := Lib.hid hG1; clear hG1
        have HS1 := Lib.hid hS1; clear hS1
        have HW1 := Lib.hid hW1; clear hW1
        have HBE := Lib.hid hBe; clear hBe
        have HOR := Lib.hid (fun g hg => (hor g hg).1); clear hor
        have HWB := Lib.hid (hold0.trans (HG1.out.old hold0.size (fun g hg => Nat.le_trans hB0 (HOR.out g hg)))); clear hold0
        go_upto_region 4 with fail
        rw [HW1.out, HBE.out]
        clear HW1 g0 g1 g2 g3
        have k2 : W1.cell? ⟨B, 2, none⟩ = some (.slice a1 xs.length c1) := HX1.out.cell 2
        have k3 : W1.cell? ⟨B, 3, none⟩ = some (.slice a2 cs.length c2) := HX1.out.cell 3
        have hsz1 : base ≤ W1.drew.heap.size := by rw [show W1.drew.heap.size = W1.heap.size from rfl, HS1.out]; omega
        have HC1 := Lib.hid (HT1.out LB vo W1.drew HWB.out.drew hsz1 HO1.out.drew (by omega))
        clear hsz1
        have hf := HFIN.out; clear HFIN
        rw [← List.append_assoc] at hf
        have HF := Lib.hid hf; clear hf
        go_region_with (first | (go_at_call 171; (with_reducible refine HC1.out.mono ?_); rintro e w2 ⟨v2, rfl, hO2, hG2⟩; (have k3b : w2.cell? ⟨B, 3, none⟩ = some (.slice a2 cs.length c2) := (HX1.out.gr ((Gr.refl vo.ownBlock W1).drew.trans hG2) hvB).cell 3); (have hG3 : Gr vo.ownBlock v2.ownBlock W1 w2 := (Gr.refl vo.ownBlock W1).drew.trans hG2); (have hold : Below w0.heap.size w0 w2 := HWB.out.trans (hG3.old HWB.out.size (fun g hg => Nat.le_trans hB0 (HOR.out g hg)))); (have hsz : base ≤ w2.heap.size := by have := hG3.size; have := HS1.out; omega); (have HC2 := Lib.hid (HT2.out _ _ w2 hold hsz hO2 (by rw [List.length_append]; omega))); (rw [HF.out] at HC2); (have HG3 := Lib.hid hG3); clear hG3 hG2 hO2 hold hsz) | (go_at_call 172; (with_reducible refine HC2.out.mono ?_); rintro e w3 ⟨v3, rfl, hO3, hG4⟩; (have HO3 := Lib.hid hO3); (have HG4 := Lib.hid (HG3.out.trans hG4)); clear hO3 hG4))
        all_goals
          go_wp2_with fail
          go_roundw
          case rel => exact ⟨_, ii + 1, rfl, by go_num, by omega, by rw [HFN.out]; exact HO3.out, HGO.out.trans (HG1.out.trans HG4.out)⟩
          case measure => simp [intOf]; omega
      · obtain rfl : ii = l.length := by omega
        have h0 := HOO.out
        rw [List.take_length, HPOST.out] at h0
        have HO3 := Lib.hid h0; clear h0
        go_wp2_with fail
        go_ret
        exact ⟨vo, rfl, HO3.out, HGO.out⟩
end Go.Proofs.YtjpopelbdhgidaaGreatDoor
