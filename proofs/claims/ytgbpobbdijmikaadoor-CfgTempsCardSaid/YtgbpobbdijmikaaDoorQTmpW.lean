/-
  The statement's own walk: gnomonlaw9.CfgTemps answers true for every height.
-/
import Derived.Test.YtgbpobbdijmikaaDoorQTmpP
import Derived.Deep.RegionWith

namespace Go.Proofs.YtgbpobbdijmikaaDoor
open Go Go.RowKit Go.Maps

theorem dx_in (w : World) : NdIn w (.mk .D 0 0 ⟨#[120]⟩ [] [] [] []) [.string ⟨#[120]⟩, .int .i64 0] := by
  unfold NdIn
  exact ⟨⟨rfl, rfl, rfl, rfl, rfl⟩, ok0, ok0, by decide, .slice none 0 0, .slice none 0 0, .slice none 0 0, .slice none 0 0, rfl, sl0 w .E, sl0 w .C, sl0 w .S, sl0 w .S⟩
theorem ax_in {w : World} {x : Nd} {v : Value} (h : SlIn w .E [x] v) : NdIn w (.mk .S 1 0 ⟨#[120]⟩ [x] [] [] []) [.int .i64 1, .string ⟨#[120]⟩, v, .slice none 0 0, .slice none 0 0, .slice none 0 0] := by
  unfold NdIn
  exact ⟨rfl, lit_ok (by decide) (by decide), ok0, by decide, v, .slice none 0 0, .slice none 0 0, .slice none 0 0, rfl, h, sl0 w .C, sl0 w .S, sl0 w .S⟩
theorem only4 {w : World} {X : Nat} {cs : Array Value} {t : TypeId} (_ : Blk w X cs t) (v0 v1 v2 v3 : Value) : Only X w ((((w.setCell ⟨X, 0, none⟩ v0).setCell ⟨X, 1, none⟩ v1).setCell ⟨X, 2, none⟩ v2).setCell ⟨X, 3, none⟩ v3) := ((((Only.refl X w).setCell (p := ⟨X, 0, none⟩) rfl v0).setCell (p := ⟨X, 1, none⟩) rfl v1).setCell (p := ⟨X, 2, none⟩) rfl v2).setCell (p := ⟨X, 3, none⟩) rfl v3
/-- What the loop keeps. -/
def TmI (w : World) (X i : Nat) (wr : World) : Prop := ∃ k nm a l c, Blk wr X #[.int .i64 k, .int .i64 0, .string nm, .slice a l c] 25 ∧ FullIn wr (X + 1) i [.int .i64 k, .int .i64 0, .string nm, .slice a l c] ∧ Below w.heap.size w wr
set_option maxRecDepth 100000 in
set_option maxHeartbeats 8000000 in
theorem temps_law (h : Int) (w : World) (_ : (Lit.int .i64 h).wf = true) (htab : TabK w) :
    Calls Tryd.prog 3 #[.int .i64 h] w (fun e w' => e = .returned (.bool true) ∧ Below w.heap.size w w') := by
  have HKN := Lib.hid (known9_any w htab)
  have HTB := Lib.hid htab
  clear htab
  by_cases hbad : h < 0 ∨ 9 < h
  · rcases (show h < 0 ∨ (¬ h < 0 ∧ 9 < h) by omega) with h1 | ⟨h1, h2⟩
    · have t1 : decide (h < 0) = true := by simpa using h1
      clear h1 hbad
      go_enter Tryd.func3, Tryd.ntmps3
      go_wp2_with (first | (go_at_call 5; (with_reducible refine HKN.out.mono ?_); rintro e w2 ⟨rfl, hb2⟩; have HB2 := Lib.hid hb2; clear hb2) | fail)
      go_ret
      exact ⟨rfl, HB2.out⟩
    · have t1 : decide (h < 0) = false := by simpa using h1
      have t2 : decide (9 < h) = true := by simpa using h2
      clear h1 h2 hbad
      go_enter Tryd.func3, Tryd.ntmps3
      go_wp2_with (first | (go_at_call 5; (with_reducible refine HKN.out.mono ?_); rintro e w2 ⟨rfl, hb2⟩; have HB2 := Lib.hid hb2; clear hb2) | fail)
      go_ret
      exact ⟨rfl, HB2.out⟩
  obtain ⟨n, rfl⟩ : ∃ m : Nat, h = m := ⟨h.toNat, by omega⟩
  have hn : n < 10 := by omega
  have t1 : decide ((n : Int) < 0) = false := by simp
  have t2 : decide (9 < (n : Int)) = false := by simp; omega
  have HN := Lib.hid hn
  clear hbad hn
  go_enter Tryd.func3, Tryd.ntmps3
  go_upto_block 0 with (first | (go_at_call 5; (with_reducible refine HKN.out.mono ?_); rintro e w2 ⟨rfl, hb2⟩; have HB2 := Lib.hid hb2; clear hb2) | fail)
  have hx3 : Blk (w2.alloc (.cells #[.int .i64 2, .int .i64 0, .string ⟨#[120]⟩, .slice none 0 0] 25)) w2.heap.size #[.int .i64 2, .int .i64 0, .string ⟨#[120]⟩, .slice none 0 0] 25 := Blk.new w2 _ _
  have hb3 : Below w.heap.size w (w2.alloc (.cells #[.int .i64 2, .int .i64 0, .string ⟨#[120]⟩, .slice none 0 0] 25)) := HB2.out.alloc HB2.out.size _
  obtain ⟨W3, hW3⟩ : ∃ W, w2.alloc (.cells #[.int .i64 2, .int .i64 0, .string ⟨#[120]⟩, .slice none 0 0] 25) = W := ⟨_, rfl⟩
  obtain ⟨X, hX⟩ : ∃ X, w2.heap.size = X := ⟨_, rfl⟩
  rw [hW3] at hx3 hb3
  rw [hX] at hx3
  rw [hW3, hX]
  have HXW := Lib.hid (show w.heap.size ≤ X by rw [← hX]; exact HB2.out.size)
  have HI := Lib.hid (show TmI w X 0 W3 from ⟨2, _, _, _, _, hx3, rfl, hb3⟩)
  clear hx3 hb3 hW3 hX
  go_wp2_with fail
  go_loopw [4] (fun x wr => ∃ (i : Nat), x = .int .i64 i ∧ i ≤ n ∧ TmI w X i wr) (fun x _ => n - (intOf x).toNat)
  case atStart => exact ⟨0, rfl, by omega, HI.out⟩
  case round =>
    obtain ⟨i, rfl, hi, k, nm, a, l, c, hbx, hfi, hbr⟩ := hrel
    clear HI
    by_cases hlt : i < n
    · have hbi : (i : Int) + 1 ≤ 9223372036854775807 := by have := HN.out; omega
      have xc := hbx.cell
      obtain ⟨B, hB⟩ : ∃ B, wr.heap.size = B := ⟨_, rfl⟩
      have hbX : X < B := by rw [← hB]; exact hbx.lt
      have hal : Below wr.heap.size wr (wr.alloc (.cells [[.int .i64 k, .int .i64 0, .string nm, .slice a l c], [.int .i64 k, .int .i64 0, .string nm, .slice a l c]].flatten.toArray 25)) := (Below.refl _ wr).alloc (Nat.le_refl _) _
      have hnb : Blk (wr.alloc (.cells [[.int .i64 k, .int .i64 0, .string nm, .slice a l c], [.int .i64 k, .int .i64 0, .string nm, .slice a l c]].flatten.toArray 25)) B [[.int .i64 k, .int .i64 0, .string nm, .slice a l c], [.int .i64 k, .int .i64 0, .string nm, .slice a l c]].flatten.toArray 25 := by rw [← hB]; exact Blk.new wr _ _
      have hx2 := hbx.next hal
      have xa := hx2.cell
      have xf := hx2.free
      have HR := Lib.hid (And.intro hnb (And.intro hx2 (And.intro (hfi.next hal) (And.intro (hbr.trans (hal.mono hbr.size)) hbX))))
      have HBB := Lib.hid hB
      simp only [List.flatten_cons, List.flatten_nil, List.append_nil, List.cons_append, List.nil_append] at xa xf
      clear hbx hfi hbr hal hnb hx2 hB hbX
      go_wp2_with fail
      go_roundw
      case rel =>
        rw [HBB.out]
        obtain ⟨hnb, hx2, hfi, hbr, hbX⟩ := HR.out
        have d0 := hx2.set 0 (.int .i64 6)
        have d1 := d0.set 1 (.int .i64 0)
        have d2 := d1.set 2 (.string ⟨#[]⟩)
        have d3 := d2.set 3 (.slice (some ⟨B, 0, none⟩) 2 2)
        have ho := only4 hx2 (.int .i64 6) (.int .i64 0) (.string ⟨#[]⟩) (.slice (some ⟨B, 0, none⟩) 2 2)
        exact ⟨i + 1, by go_num, by omega, 6, ⟨#[]⟩, some ⟨B, 0, none⟩, 2, 2, d3, ⟨B, _, by omega, rfl, rfl, hnb.only ho (by omega), hfi.only ho (by omega)⟩, hbr.trans (ho.old HXW.out hbr.size)⟩
      case measure => simp [intOf]; omega
    · obtain rfl : i = n := by omega
      have xc := (hbx.alloc (.cells #[.string ⟨#[120]⟩, .int .i64 0] 35)).cell
      obtain ⟨W, hW⟩ : ∃ W, ((wr.alloc (.cells #[.string ⟨#[120]⟩, .int .i64 0] 35)).alloc (.cells #[.int .i64 k, .int .i64 0, .string nm, .slice a l c] 25)).alloc (.cells #[.int .i64 1, .string ⟨#[120]⟩, .slice (some ⟨wr.heap.size + 1, 0, none⟩) 1 1, .slice none 0 0, .slice none 0 0, .slice none 0 0] 39) = W := ⟨_, rfl⟩
      have hbw : Below wr.heap.size wr W := by rw [← hW]; exact (((Below.refl _ wr).alloc (Nat.le_refl _) _).alloc (by simp <;> omega) _).alloc (by simp <;> omega) _
      have b0 : Blk W wr.heap.size [[.string ⟨#[120]⟩, .int .i64 0]].flatten.toArray 35 := by rw [← hW]; exact ((Blk.at (by simp)).alloc _).alloc _
      have b1 : Blk W (wr.heap.size + 1) [[.int .i64 k, .int .i64 0, .string nm, .slice a l c]].flatten.toArray 25 := by rw [← hW]; exact (Blk.at (by simp)).alloc _
      have b2 : Blk W (wr.heap.size + 1 + 1) [[.int .i64 1, .string ⟨#[120]⟩, .slice (some ⟨wr.heap.size + 1, 0, none⟩) 1 1, .slice none 0 0, .slice none 0 0, .slice none 0 0]].flatten.toArray 39 := by rw [← hW]; exact Blk.at (by simp)
      obtain ⟨hty, hin⟩ := full_in (hfi.next hbw)
      have l1 : SlIn W .E [fullT i] (.slice (some ⟨wr.heap.size + 1, 0, none⟩) 1 1) := slIn_blk (vss := [_]) b1 rfl len_one (nodes1 hty hin)
      have l2 : SlIn W .S (tmSs i) (.slice (some ⟨wr.heap.size + 1 + 1, 0, none⟩) 1 1) := slIn_blk (vss := [_]) b2 rfl len_one (nodes1 rfl (ax_in l1))
      have l3 : SlIn W .D tmDs (.slice (some ⟨wr.heap.size, 0, none⟩) 1 1) := slIn_blk (vss := [_]) b0 rfl len_one (nodes1 rfl (dx_in W))
      have hbW : Below w.heap.size w W := hbr.trans (hbw.mono hbr.size)
      have HC := Lib.hid (Lower_any tmDs (tmSs i) _ _ W l3 l2 (tab_below HTB.out hbW))
      have HB := Lib.hid hbW
      have HW := Lib.hid hW
      clear hbx hfi hbr hbw b0 b1 b2 hty hin l1 l2 l3 hbW hW hi
      go_wp2_with fail
      rw [HW.out]
      refine HC.out.mono ?_
      rintro e w5 ⟨u, rfl, hb5, hout, -⟩
      have hO := hout (tm_ok i HN.out)
      rw [tm_ok i HN.out]
      obtain ⟨vv, va, ve, rfl, hv, ha, hee⟩ := hO
      obtain ⟨av, cv, rfl⟩ := ownsRow_form hv
      obtain ⟨aa, ca, rfl⟩ := ownsRow_form ha
      obtain ⟨ae, ce, rfl⟩ := ownsRow_form hee
      rw [tm_tmp i HN.out, tm_eds i HN.out, tm_pts i HN.out]
      have HB5 := Lib.hid (HB.out.trans (hb5.mono HB.out.size))
      clear hb5 hout hv ha hee xc t1 t2
      have hc : i = 0 ∨ i = 1 ∨ i = 2 ∨ i = 3 ∨ i = 4 ∨ i = 5 ∨ i = 6 ∨ i = 7 ∨ i = 8 ∨ i = 9 := by have := HN.out; omega
      clear HN HW HC HXW HKN hlt
      rcases hc with rfl | rfl | rfl | rfl | rfl | rfl | rfl | rfl | rfl | rfl
      · simp only [Nat.reducePow, Nat.reduceSub, reduceIte, Nat.reduceLT, Int.cast_ofNat_Int]
        go_wp2_with fail
        go_ret
        exact ⟨by simp, HB5.out.alloc HB5.out.size _⟩
      · simp only [Nat.reducePow, Nat.reduceSub, reduceIte, Nat.reduceLT, Nat.reduceEqDiff, Int.cast_ofNat_Int]
        go_wp2_with fail
        go_ret
        exact ⟨by simp, HB5.out.alloc HB5.out.size _⟩
      · simp only [Nat.reducePow, Nat.reduceSub, reduceIte, Nat.reduceEqDiff, Nat.lt_irrefl, Int.cast_ofNat_Int]
        go_wp2_with fail
        go_region
        all_goals
          go_wp2_with fail
          go_ret
          exact ⟨by simp, (HB5.out.alloc HB5.out.size _).drew⟩
      · simp only [Nat.reducePow, Nat.reduceSub, reduceIte, Nat.reduceLT, Nat.reduceEqDiff, Int.cast_ofNat_Int]
        go_wp2_with fail
        go_region
        all_goals
          go_wp2_with fail
          go_ret
          exact ⟨by simp, (HB5.out.alloc HB5.out.size _).drew⟩
      · simp only [Nat.reducePow, Nat.reduceSub, reduceIte, Nat.reduceLT, Nat.reduceEqDiff, Int.cast_ofNat_Int]
        go_wp2_with fail
        go_region
        all_goals
          go_wp2_with fail
          go_ret
          exact ⟨by simp, (HB5.out.alloc HB5.out.size _).drew⟩
      · simp only [Nat.reducePow, Nat.reduceSub, reduceIte, Nat.reduceLT, Nat.reduceEqDiff, Int.cast_ofNat_Int]
        go_wp2_with fail
        go_region
        all_goals
          go_wp2_with fail
          go_ret
          exact ⟨by simp, (HB5.out.alloc HB5.out.size _).drew⟩
      · simp only [Nat.reducePow, Nat.reduceSub, reduceIte, Nat.reduceLT, Nat.reduceEqDiff, Int.cast_ofNat_Int]
        go_wp2_with fail
        go_region
        all_goals
          go_wp2_with fail
          go_ret
          exact ⟨by simp, (HB5.out.alloc HB5.out.size _).drew⟩
      · simp only [Nat.reducePow, Nat.reduceSub, reduceIte, Nat.reduceLT, Nat.reduceEqDiff, Int.cast_ofNat_Int]
        go_wp2_with fail
        go_region
        all_goals
          go_wp2_with fail
          go_ret
          exact ⟨by simp, (HB5.out.alloc HB5.out.size _).drew⟩
      · simp only [Nat.reducePow, Nat.reduceSub, reduceIte, Nat.reduceLT, Nat.reduceEqDiff, Int.cast_ofNat_Int]
        go_wp2_with fail
        go_region
        all_goals
          go_wp2_with fail
          go_ret
          exact ⟨by simp, (HB5.out.alloc HB5.out.size _).drew⟩
      · simp only [Nat.reducePow, Nat.reduceSub, reduceIte, Nat.reduceLT, Nat.reduceEqDiff, Int.cast_ofNat_Int]
        go_wp2_with fail
        go_region
        all_goals
          go_wp2_with fail
          go_ret
          exact ⟨by simp, (HB5.out.alloc HB5.out.size _).drew⟩
end Go.Proofs.YtgbpobbdijmikaaDoor
