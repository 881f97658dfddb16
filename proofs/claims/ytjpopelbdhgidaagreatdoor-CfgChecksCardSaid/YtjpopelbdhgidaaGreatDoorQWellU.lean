/-
  The project's names of one statement (well's uses): proved is that they stand in a list of its own.
-/
import Derived.Test.YtjpopelbdhgidaaGreatDoorQWellC

namespace Go.Proofs.YtjpopelbdhgidaaGreatDoor
open Go Go.RowKit

/-- The names that a statement uses itself. -/
def ownU : Nd → List Us
  | .mk _ k _ nm xs cs _ _ => headU nm (k == 1) (k == 2) ++ (usesL cs ++ usesL xs)
set_option maxRecDepth 100000 in
set_option maxHeartbeats 16000000 in
theorem suses_any (w0 : World) (x : Nd) (us : List Value) (w : World) (hty : x.ty = .S) (hin : NdIn w0 x us) (hw : Below w0.heap.size w0 w) (hlen : (ownU x).length ≤ 1099511627776) :
    Calls Tryz.prog 134 #[.agg us.toArray] w (fun e w' => ∃ v', e = .returned v' ∧ w'.ownsRow w.heap.size 210 2 v' (ownU x).length (cellsK (ownU x)) ∧ Below w.heap.size w w') := by
  obtain ⟨ty, k, n, nm, xs, cs, ts, es⟩ := x
  simp only [Nd.ty] at hty
  subst hty
  unfold NdIn at hin
  obtain ⟨hz, -, -, -, vx, vc, vt, ve, rfl, hxs, hcs, hts, hes⟩ := hin
  simp only [fits] at hz
  subst hz
  have hB0 := hw.size
  obtain ⟨base, hbase⟩ : ∃ b, w.heap.size = b := ⟨_, rfl⟩
  rw [hbase] at hB0 ⊢
  have HT2 := Lib.hid (fun L v w => inConds_any w0 base hB0 _ cs _ L v w (Nat.le_refl _) hcs)
  have HT1 := Lib.hid (fun L v w => inExprs_any w0 base hB0 _ xs _ L v w (Nat.le_refl _) hxs)
  obtain ⟨a1, c1, rfl, -⟩ := hcs
  obtain ⟨a2, c2, rfl, -⟩ := hxs
  obtain ⟨a3, c3, rfl, -⟩ := hts
  obtain ⟨a4, c4, rfl, -⟩ := hes
  change Calls _ _ #[.agg #[.int .i64 k, .string nm, .slice a2 xs.length c2, .slice a1 cs.length c1, .slice a3 ts.length c3, .slice a4 es.length c4]] w _
  obtain ⟨FIN, hFIN⟩ : ∃ l, ownU (.mk .S k 0 nm xs cs ts es) = l := ⟨_, rfl⟩
  rw [hFIN] at hlen ⊢
  change headU nm (k == 1) (k == 2) ++ (usesL cs ++ usesL xs) = FIN at hFIN
  obtain ⟨i0, hi0, hz0, hz1, hz2⟩ := info_parts info_wuse
  have HI0 := Lib.hid hi0; clear hi0
  have HZ0 := Lib.hid hz0; clear hz0
  have HZ1 := Lib.hid hz1; clear hz1
  have HZ2 := Lib.hid hz2; clear hz2
  obtain ⟨b2, hb2⟩ : ∃ b, (k == 1) = b := ⟨_, rfl⟩
  obtain ⟨b4, hb4⟩ : ∃ b, (k == 2) = b := ⟨_, rfl⟩
  rw [hb2, hb4] at hFIN
  have hle0 := congrArg List.length hFIN
  simp only [List.length_append] at hle0
  have HFIN := Lib.hid hFIN; clear hFIN
  have HB2 := Lib.hid hb2; clear hb2
  have HB4 := Lib.hid hb4; clear hb4
  obtain ⟨W1, hW1⟩ : ∃ W1, w.alloc (.cells #[.int .i64 k, .string nm, .slice a2 xs.length c2, .slice a1 cs.length c1, .slice a3 ts.length c3, .slice a4 es.length c4] 72) = W1 := ⟨_, rfl⟩
  obtain ⟨B, hBe⟩ : ∃ B, base = B := ⟨_, rfl⟩
  have hX1 : Blk W1 B #[.int .i64 k, .string nm, .slice a2 xs.length c2, .slice a1 cs.length c1, .slice a3 ts.length c3, .slice a4 es.length c4] 72 := by rw [← hW1, ← hBe, ← hbase]; exact Blk.new w _ _
  obtain ⟨vo, hvo⟩ : ∃ v, Value.slice none 0 0 = v := ⟨_, rfl⟩
  obtain ⟨LB, hLB⟩ : ∃ l : List Us, [] = l := ⟨_, rfl⟩
  have hO1 : W1.ownsRow base 210 2 vo LB.length (cellsK LB) := by rw [← hvo, ← hLB]; exact World.ownsRow_nil _ _ _ _
  have hG1 : Below base w W1 := by rw [← hW1]; exact (Below.refl _ w).alloc (by omega) _
  have hS1 : W1.heap.size = B + 1 := by rw [← hW1, World.size_alloc]; omega
  have hvB : vo.ownBlock ≠ some B := by rw [← hvo]; intro h; cases h
  have hor : ∀ g, vo.ownBlock = some g → base ≤ g := by rw [← hvo]; intro g h; cases h
  have hwb : Below w0.heap.size w0 W1 := hw.trans (hG1.mono hB0)
  have hbB : base ≤ B := by omega
  have hfi : LB ++ headU nm b2 b4 ++ (usesL cs ++ usesL xs) = FIN := by rw [← hLB]; exact HFIN.out
  have hlb : LB.length ≤ 0 := by rw [← hLB]; exact Nat.le_refl _
  clear hLB HFIN
  have HFIN := Lib.hid hfi; clear hfi
  have HX1 := Lib.hid hX1; clear hX1
  have HO1 := Lib.hid hO1; clear hO1
  have HG1 := Lib.hid hG1; clear hG1 hw
  have HS1 := Lib.hid hS1; clear hS1
  have HW1 := Lib.hid hW1; clear hW1
  have HBE := Lib.hid hBe; clear hBe
  have HBA := Lib.hid hbase; clear hbase
  have HOR := Lib.hid hor; clear hor
  have HWB := Lib.hid hwb; clear hwb
  have HVO := Lib.hid hvo; clear hvo
  go_enter Tryz.func134, Tryz.ntmps134
  go_upto_region 2 with fail
  rw [HW1.out, HBA.out, HBE.out, HVO.out]
  clear HW1
  have k0 : W1.cell? ⟨B, 0, none⟩ = some (.int .i64 k) := HX1.out.cell 0
  have kn : W1.cell? ⟨B, 1, none⟩ = some (.string nm) := HX1.out.cell 1
  go_upto_block 0 with fail
  go_cut [3] (fun s wx => ∃ v1, v1 = s ∧ wx.ownsRow base 210 2 v1 (LB ++ headU nm b2 b4).length (cellsK (LB ++ headU nm b2 b4)) ∧ Blk wx B #[.int .i64 k, .string nm, .slice a2 xs.length c2, .slice a1 cs.length c1, .slice a3 ts.length c3, .slice a4 es.length c4] 72 ∧ Gr vo.ownBlock v1.ownBlock W1 wx)
  case first =>
    have hl1 : LB.length + 1 ≤ maxLen := by unfold maxLen; omega
    have hs1 : W1.heap.size = B + 1 := HS1.out
    have hb2 := HB2.out
    have hb4 := HB4.out
    cases b2 with
    | true =>
      have e4 : b4 = false := by rw [← hb4]; have h := eq_of_beq hb2; subst h; rfl
      clear hb4
      subst e4
      have HNW := Lib.hid (news_kuse W1 nm 1 (B + 1) HS1.out)
      have hSZ : base ≤ (W1.alloc (.cells #[.string nm, .int .i64 1] 210)).heap.size := by rw [World.size_alloc, HS1.out]; omega
      have HSZ := Lib.hid hSZ; clear hSZ
      go_wp2_with (first | (at_builtin; (with_reducible refine wpList_append_lies _ rfl (.tmp 8) (.tmp 12) 207 rfl base 210 i0 _ 2 24 Tryz.underlying207 HI0.out HZ0.out HZ1.out HZ2.out rfl (by omega) vo LB.length (cellsK LB) rfl (HO1.out.alloc _) ⟨_, 0, none⟩ 1 1 [.string nm, .int .i64 1] rfl rfl HNW.out (kuse_one _ _) (by omega) hl1 (by omega) HSZ.out _ rfl ?_); (intro gg cap w4 hown4 hgrow hat hlt2)) | fail)
      go_meet
      exact ⟨_, rfl, by simpa [headU, cellsK, kindB] using hown4, blk_grown (HX1.out.alloc _) hgrow hvB, gr_grown ((Gr.refl _ W1).alloc _) hgrow (own_new hat)⟩
    | false =>
      cases b4 with
      | true =>
        have HNW := Lib.hid (news_kuse W1 nm 2 (B + 1) HS1.out)
        have hSZ : base ≤ (W1.alloc (.cells #[.string nm, .int .i64 2] 210)).heap.size := by rw [World.size_alloc, HS1.out]; omega
        have HSZ := Lib.hid hSZ; clear hSZ
        go_wp2_with (first | (at_builtin; (with_reducible refine wpList_append_lies _ rfl (.tmp 16) (.tmp 20) 207 rfl base 210 i0 _ 2 24 Tryz.underlying207 HI0.out HZ0.out HZ1.out HZ2.out rfl (by omega) vo LB.length (cellsK LB) rfl (HO1.out.alloc _) ⟨_, 0, none⟩ 1 1 [.string nm, .int .i64 2] rfl rfl HNW.out (kuse_one _ _) (by omega) hl1 (by omega) HSZ.out _ rfl ?_); (intro gg cap w4 hown4 hgrow hat hlt2)) | fail)
        go_meet
        exact ⟨_, rfl, by simpa [headU, cellsK, kindB] using hown4, blk_grown (HX1.out.alloc _) hgrow hvB, gr_grown ((Gr.refl _ W1).alloc _) hgrow (own_new hat)⟩
      | false =>
        clear hl1 hs1
        go_wp2_with fail
        go_meet
        exact ⟨_, rfl, by simpa [headU] using HO1.out, HX1.out, Gr.refl _ _⟩
  case rest =>
    obtain ⟨v1, rfl, hO2, hX2, hG2⟩ := hcut
    clear HX1 HO1 HB2 HB4 k0 kn
    obtain ⟨L1, hL1⟩ : ∃ l, LB ++ headU nm b2 b4 = l := ⟨_, rfl⟩
    have hln1 : L1.length + ((usesL cs).length + (usesL xs).length) ≤ 1099511627776 := by rw [← hL1, List.length_append]; omega
    have hf := HFIN.out; clear HFIN
    rw [hL1] at hf hO2
    rw [← List.append_assoc] at hf
    have HF := Lib.hid hf; clear hf hL1
    have k3 : wc.cell? ⟨B, 3, none⟩ = some (.slice a1 cs.length c1) := hX2.cell 3
    have k2 : wc.cell? ⟨B, 2, none⟩ = some (.slice a2 xs.length c2) := hX2.cell 2
    have hold1 : Below base W1 wc := hG2.old (by have := HS1.out; omega) HOR.out
    have HWC := Lib.hid (HWB.out.trans (hold1.mono hB0))
    have HWD := Lib.hid (HG1.out.trans hold1)
    have hsz1 : base ≤ wc.drew.heap.size := by rw [show wc.drew.heap.size = wc.heap.size from rfl]; have := hG2.size; have := HS1.out; omega
    have hor1 : ∀ g, v1.ownBlock = some g → base ≤ g := fun g hg => (hO2.lt g hg).1
    have hvr : v1.ownBlock ≠ some B := fun e => by
      rcases hG2.2 with h | h
      · exact hvB (h.symm.trans e)
      · have := h B e; have := HS1.out; omega
    have HC1 := Lib.hid (HT2.out L1 v1 wc.drew HWC.out.drew hsz1 hO2.drew (by omega))
    have HOR1 := Lib.hid hor1; clear hor1
    have HX2 := Lib.hid hX2; clear hX2
    clear hsz1 hO2 hG2 hold1
    go_upto_region 7 with fail
    go_region_with (first | (go_at_call 172; (with_reducible refine HC1.out.mono ?_); rintro e w2 ⟨v2, rfl, hO2, hG2⟩; (have hG3 : Gr v1.ownBlock v2.ownBlock wc w2 := (Gr.refl v1.ownBlock wc).drew.trans hG2); (have k2b : w2.cell? ⟨B, 2, none⟩ = some (.slice a2 xs.length c2) := (HX2.out.gr hG3 hvr).cell 2); (have hold : Below base wc w2 := hG3.old (by have := HWD.out.size; have := HBA.out; omega) HOR1.out); (have hsz : base ≤ w2.heap.size := by have := hG3.size; have := HWD.out.size; have := HBA.out; omega); (have HC2 := Lib.hid (HT1.out _ _ w2 (HWC.out.trans (hold.mono hB0)) hsz hO2 (by rw [List.length_append]; omega))); (rw [HF.out] at HC2); (have HH2 := Lib.hid (HWD.out.trans hold)); (have HOR2 := Lib.hid (fun g hg => (hO2.lt g hg).1)); (have HSZ2 := Lib.hid hsz); clear hG3 hG2 hO2 hold hsz) | (go_at_call 171; (with_reducible refine HC2.out.mono ?_); rintro e w3 ⟨v3, rfl, hO3, hG4⟩; (have HO3 := Lib.hid hO3); (have HH3 := Lib.hid (HH2.out.trans (hG4.old HSZ2.out HOR2.out))); clear hO3 hG4))
    all_goals
      go_wp2_with fail
      go_ret
      exact ⟨_, rfl, HO3.out, HH3.out⟩
end Go.Proofs.YtjpopelbdhgidaaGreatDoor
