/-
  The document's walk over a program (gnomonref3's walked, Few): proved is what it answers: the plain walk over the declarations and then the statements; and that it turns nothing that lay.
-/
import Derived.Test.YtbchibmmkmldiaaGreatDoorTwalkS
import Derived.Test.YtbchibmmkmldiaaGreatDoorThru
import Derived.Outline
import Derived.Deep.DeepCutAuto
import Derived.Deep.CutBlock
namespace Go.Proofs.YtbchibmmkmldiaaGreatDoor
open Go Go.RowKit

theorem walkN_D {x : Nd} {d : Int} {s : Wk} (h : x.ty = .D) : walkN x d s = nodeW d s := by
  obtain ⟨ty, k, n, nm, xs, cs, ts, es⟩ := x
  simp only [Nd.ty] at h
  subst h
  unfold walkN
  split <;> rfl
/-- The walk over a program. -/
def progW (ds ss : List Nd) : Wk := walkL ss 1 (walkL ds 1 ⟨0, 0, 0⟩)
theorem walked_end (w w3 : World) (Q : Wk) {tm : Array Value} {df : List Deferred} (hR : Blk w3 (w.heap.size + 1) #[.int .i64 0, .int .i64 0, .int .i64 0] 70) (hb : Below w.heap.size w w3) (h2 : tm[2]? = some (.pointer (some ⟨w.heap.size + 1, 0, none⟩))) (hd : df = []) :
    bodyPost Tryz.prog Tryz.f22 (fun e w' => e = .returned (.agg Q.cells) ∧ Below w.heap.size w w') .ret { tmps := tm, defers := df }
      (((w3.setCell ⟨w.heap.size + 1, 0, none⟩ (.int .i64 Q.n)).setCell ⟨w.heap.size + 1, 1, none⟩ (.int .i64 Q.dep)).setCell ⟨w.heap.size + 1, 2, none⟩ (.int .i64 Q.bad)) := by
  subst hd
  have bR := ((hR.set 0 (.int .i64 Q.n)).set 1 (.int .i64 Q.dep)).set 2 (.int .i64 Q.bad)
  have hb2 := ((hb.setCell (p := ⟨w.heap.size + 1, 0, none⟩) (by simp) (.int .i64 Q.n)).setCell (p := ⟨w.heap.size + 1, 1, none⟩) (by simp) (.int .i64 Q.dep)).setCell (p := ⟨w.heap.size + 1, 2, none⟩) (by simp) (.int .i64 Q.bad)
  obtain ⟨W, hW⟩ : ∃ W, ((w3.setCell ⟨w.heap.size + 1, 0, none⟩ (.int .i64 Q.n)).setCell ⟨w.heap.size + 1, 1, none⟩ (.int .i64 Q.dep)).setCell ⟨w.heap.size + 1, 2, none⟩ (.int .i64 Q.bad) = W := ⟨_, rfl⟩
  rw [hW] at bR hb2 ⊢
  have q0 : W.cell? ⟨w.heap.size + 1, 0, none⟩ = some (.int .i64 Q.n) := bR.cell 0
  have q1 : W.cell? ⟨w.heap.size + 1, 1, none⟩ = some (.int .i64 Q.dep) := bR.cell 1
  have q2 : W.cell? ⟨w.heap.size + 1, 2, none⟩ = some (.int .i64 Q.bad) := bR.cell 2
  exact bodyPost_ret (v := .agg #[.int .i64 Q.n, .int .i64 Q.dep, .int .i64 Q.bad]) (by simp [results, Tryz.results22, go_sem, q0, q1, q2, h2]) rfl ⟨rfl, hb2⟩

set_option maxRecDepth 100000 in
set_option maxHeartbeats 4000000 in
theorem walked_any (ds ss : List Nd) (v0 v1 : Value) (w : World) (hd : SlIn w .D ds v0) (hs : SlIn w .S ss v1) :
    Calls Tryz.prog 22 #[.agg #[v0, v1]] w (fun e w' => e = .returned (.agg (progW ds ss).cells) ∧ Below w.heap.size w w') := by
  obtain ⟨a0, c0, rfl, hlc0, hcm1, hrow0⟩ := hd
  obtain ⟨a1, c1, rfl, hlc1, hcm2, hrow1⟩ := hs
  have HROW1 := Lib.hid hrow0; clear hrow0
  have HROW2 := Lib.hid hrow1; clear hrow1
  have hok1 := Lib.hid (show Wk.ok ⟨0, 0, 0⟩ by unfold Wk.ok; simp)
  have hok2 := Lib.hid (walkL_ok ds 1 _ hok1.out (by omega))
  have hQ : progW ds ss = walkL ss 1 (walkL ds 1 ⟨0, 0, 0⟩) := rfl
  obtain ⟨Q, hQ2⟩ : ∃ Q, progW ds ss = Q := ⟨_, rfl⟩
  rw [hQ2] at hQ ⊢
  have HQ := Lib.hid hQ; clear hQ hQ2
  obtain ⟨W1, hW1⟩ : ∃ W1, ((w.alloc (.cells #[.slice a0 ds.length c0, .slice a1 ss.length c1] 25)).alloc (.cells #[.int .i64 0, .int .i64 0, .int .i64 0] 70)).alloc (.cells #[.int .i64 0, .int .i64 0, .int .i64 0] 70) = W1 := ⟨_, rfl⟩
  have hb : Below w.heap.size w W1 := by
    rw [← hW1]
    exact (((Below.refl _ w).alloc (Nat.le_refl _) _).alloc (by simp) _).alloc (by simp; omega) _
  obtain ⟨B, hB⟩ : ∃ B, w.heap.size + 2 = B := ⟨_, rfl⟩
  have hB1 : Blk W1 B (Wk.cells ⟨0, 0, 0⟩) 70 := by
    have h := Blk.new ((w.alloc (.cells #[.slice a0 ds.length c0, .slice a1 ss.length c1] 25)).alloc (.cells #[.int .i64 0, .int .i64 0, .int .i64 0] 70)) #[.int .i64 0, .int .i64 0, .int .i64 0] 70
    rw [hW1, World.size_alloc, World.size_alloc] at h
    rw [← hB]
    exact h
  have hR1 : Blk W1 (w.heap.size + 1) #[.int .i64 0, .int .i64 0, .int .i64 0] 70 := by
    have h := (Blk.new (w.alloc (.cells #[.slice a0 ds.length c0, .slice a1 ss.length c1] 25)) #[.int .i64 0, .int .i64 0, .int .i64 0] 70).alloc (.cells #[.int .i64 0, .int .i64 0, .int .i64 0] 70)
    rw [hW1, World.size_alloc] at h
    exact h
  have hP1 : Blk W1 w.heap.size #[.slice a0 ds.length c0, .slice a1 ss.length c1] 25 := by rw [← hW1]; exact ((Blk.new w _ _).alloc _).alloc _
  have hne : w.heap.size ≠ B := by omega
  have hneR : w.heap.size + 1 ≠ B := by omega
  have hB0 : w.heap.size ≤ B := by omega
  have hb1 := Lib.hid hb; clear hb
  have HB1 := Lib.hid hB1; clear hB1
  have HR1 := Lib.hid hR1; clear hR1
  have HX1 := Lib.hid hP1; clear hP1
  have HO1 := Lib.hid (Only.refl B W1)
  have HW1 := Lib.hid hW1; clear hW1
  go_enter Tryz.func22, Tryz.ntmps22
  go_upto_region 2 with fail
  rw [HW1.out]
  clear HW1
  clear hB
  go_upto_block 0 with fail
  go_cut [4] (fun _ wx => Blk wx B (walkL ds 1 ⟨0, 0, 0⟩).cells 70 ∧ Blk wx w.heap.size #[.slice a0 ds.length c0, .slice a1 ss.length c1] 25 ∧ Only B W1 wx)
  case first =>
    go_wp2_with fail
    go_loopw [4] (fun x wr => ∃ i : Nat, x = .int .i64 i ∧ i ≤ ds.length ∧ Blk wr B (walkL (ds.take i) 1 ⟨0, 0, 0⟩).cells 70 ∧ Blk wr w.heap.size #[.slice a0 ds.length c0, .slice a1 ss.length c1] 25 ∧ Only B W1 wr) (fun x _ => ds.length - (intOf x).toNat)
    case atStart => exact ⟨0, rfl, by omega, by rw [List.take_zero, walkL]; exact HB1.out, HX1.out, HO1.out⟩
    case round =>
      obtain ⟨i, rfl, hi, hBr, hXr, hOr⟩ := hrel
      clear HB1 HX1 HO1
      have e3 : wr.cell? ⟨w.heap.size, 0, none⟩ = some (.slice a0 ds.length c0) := hXr.cell 0
      have b2 : wr.cell? ⟨B, 2, none⟩ = some (.int .i64 (walkL (ds.take i) 1 ⟨0, 0, 0⟩).bad) := hBr.cell 2
      have hsok := walkL_ok (ds.take i) 1 ⟨0, 0, 0⟩ hok1.out (by omega)
      have hstop := walkL_stop (l := ds) (i := i) (d := 1) (s := ⟨0, 0, 0⟩)
      have htk := fun h => walkL_take (l := ds) (i := i) h 1 ⟨0, 0, 0⟩
      have HX := Lib.hid hXr; clear hXr
      have HO := Lib.hid hOr; clear hOr
      by_cases hlt2 : i < ds.length
      · have hbi : (i : Int) + 1 ≤ 9223372036854775807 := by unfold maxLen at hcm1; omega
        obtain ⟨S, hS⟩ : ∃ S, walkL (ds.take i) 1 ⟨0, 0, 0⟩ = S := ⟨_, rfl⟩
        rw [hS] at hBr b2 hsok hstop htk
        clear hS
        have HBr := Lib.hid hBr; clear hBr
        have hxl : ¬ ds.length = 0 := by omega
        obtain ⟨b, o, rfl, hrow⟩ := HROW1.out.resolve_left hxl
        by_cases hb : S.bad = 0
        · rw [hb] at b2
          have hty := (SlIn.item2 rfl hrow i hlt2).1
          have htk2 := (htk hlt2).trans (walkN_D hty)
          have HC := Lib.hid (wnode_any S 1 B wr hsok ⟨by omega, by omega⟩ HBr.out)
          have HTK := Lib.hid htk2
          clear hty hstop htk htk2 hrow
          go_wp2_with fail
          refine HC.out.mono ?_
          rintro e w2 ⟨rfl, hB2, hO2⟩
          rw [← HTK.out] at hB2
          have hX2 := HX.out.only hO2 hne
          have hO3 := HO.out.trans hO2
          have HB2 := Lib.hid hB2; clear hB2
          have HX2 := Lib.hid hX2; clear hX2
          clear hO2
          have HO3 := Lib.hid hO3; clear hO3
          go_wp2_with fail
          go_roundw
          case rel => exact ⟨i + 1, by go_num, by omega, HB2.out, HX2.out, HO3.out⟩
          case measure => simp [intOf]; omega
        · have hb2 : (S.bad == 0) = false := by simpa using hb
          have HST := Lib.hid (hstop hb)
          clear hstop htk
          go_wp2_with fail
          go_meet
          exact ⟨by rw [HST.out]; exact HBr.out, HX.out, HO.out⟩
      · obtain rfl : i = ds.length := by omega
        rw [List.take_length] at hBr
        have HBr := Lib.hid hBr; clear hBr
        clear hstop htk b2 hsok
        go_wp2_with fail
        go_meet
        exact ⟨HBr.out, HX.out, HO.out⟩
  case rest =>
    obtain ⟨hB2, hX2, hO2⟩ := hcut
    have HB2 := Lib.hid hB2; clear hB2
    have HX2 := Lib.hid hX2; clear hX2
    have HO2 := Lib.hid hO2; clear hO2
    clear HB1 HX1 HO1 HROW1
    obtain ⟨S1, hS1⟩ : ∃ S, walkL ds 1 ⟨0, 0, 0⟩ = S := ⟨_, rfl⟩
    rw [hS1] at HB2 HQ hok2
    clear hS1
    go_upto_block 2 with fail
    go_cut [5] (fun _ wx => Blk wx B (walkL ss 1 S1).cells 70 ∧ Blk wx w.heap.size #[.slice a0 ds.length c0, .slice a1 ss.length c1] 25 ∧ Only B W1 wx)
    case first =>
      go_wp2_with fail
      go_loopw [5] (fun x wr => ∃ i : Nat, x = .int .i64 i ∧ i ≤ ss.length ∧ Blk wr B (walkL (ss.take i) 1 S1).cells 70 ∧ Blk wr w.heap.size #[.slice a0 ds.length c0, .slice a1 ss.length c1] 25 ∧ Only B W1 wr) (fun x _ => ss.length - (intOf x).toNat)
      case atStart => exact ⟨0, rfl, by omega, by rw [List.take_zero, walkL]; exact HB2.out, HX2.out, HO2.out⟩
      case round =>
        obtain ⟨i, rfl, hi, hBr, hXr, hOr⟩ := hrel
        clear HB2 HX2 HO2
        have e3 : wr.cell? ⟨w.heap.size, 1, none⟩ = some (.slice a1 ss.length c1) := hXr.cell 1
        have b2 : wr.cell? ⟨B, 2, none⟩ = some (.int .i64 (walkL (ss.take i) 1 S1).bad) := hBr.cell 2
        have hsok := walkL_ok (ss.take i) 1 S1 hok2.out (by omega)
        have hstop := walkL_stop (l := ss) (i := i) (d := 1) (s := S1)
        have htk := fun h => walkL_take (l := ss) (i := i) h 1 S1
        have HX := Lib.hid hXr; clear hXr
        have HO := Lib.hid hOr; clear hOr
        by_cases hlt2 : i < ss.length
        · have hbi : (i : Int) + 1 ≤ 9223372036854775807 := by unfold maxLen at hcm2; omega
          obtain ⟨S, hS⟩ : ∃ S, walkL (ss.take i) 1 S1 = S := ⟨_, rfl⟩
          rw [hS] at hBr b2 hsok hstop htk
          clear hS
          have HBr := Lib.hid hBr; clear hBr
          have hxl : ¬ ss.length = 0 := by omega
          obtain ⟨b, o, rfl, hrow⟩ := HROW2.out.resolve_left hxl
          by_cases hb : S.bad = 0
          · rw [hb] at b2
            have hold : Below w.heap.size w wr := hb1.out.trans (HO.out.old (by omega) hb1.out.size)
            obtain ⟨hty, u0, u1, u2, u3, u4, u5, m0, m1, m2, m3, m4, m5, hnd⟩ := SlIn.item6 rfl hrow i hlt2
            have kk := keeps_below hold
            have k0 := kk _ _ _ m0
            have k1 := kk _ _ _ m1
            have k2 := kk _ _ _ m2
            have k3 := kk _ _ _ m3
            have k4 := kk _ _ _ m4
            have k5 := kk _ _ _ m5
            have HC := Lib.hid (wstmt_any w B hB0 _ _ u0 u1 u2 u3 u4 u5 1 S wr (Nat.le_refl _) hty hnd hold hsok (by omega) (by omega) HBr.out)
            have HTK := Lib.hid (htk hlt2)
            clear m0 m1 m2 m3 m4 m5 hnd hty hold kk hstop htk hrow
            go_wp2_with fail
            refine HC.out.mono ?_
            rintro e w2 ⟨rfl, hB2, hO2⟩
            rw [← HTK.out] at hB2
            have hX2 := HX.out.only hO2 hne
            have hO3 := HO.out.trans hO2
            have HB2 := Lib.hid hB2; clear hB2
            have HX2 := Lib.hid hX2; clear hX2
            clear hO2
            have HO3 := Lib.hid hO3; clear hO3
            go_wp2_with fail
            go_roundw
            case rel => exact ⟨i + 1, by go_num, by omega, HB2.out, HX2.out, HO3.out⟩
            case measure => simp [intOf]; omega
          · have hb2 : (S.bad == 0) = false := by simpa using hb
            have HST := Lib.hid (hstop hb)
            clear hstop htk
            go_wp2_with fail
            go_meet
            exact ⟨by rw [HST.out]; exact HBr.out, HX.out, HO.out⟩
        · obtain rfl : i = ss.length := by omega
          rw [List.take_length] at hBr
          have HBr := Lib.hid hBr; clear hBr
          clear hstop htk b2 hsok
          go_wp2_with fail
          go_meet
          exact ⟨HBr.out, HX.out, HO.out⟩
    case rest =>
      obtain ⟨hB3, hX3, hO3⟩ := hcut
      rw [← HQ.out] at hB3
      have hR3 := HR1.out.only hO3 hneR
      have hb3 := hb1.out.trans (hO3.old (by omega) hb1.out.size)
      clear HB2 HX2 HO2 HROW2 hX3 hO3
      have l0 : wc.cell? ⟨B, 0, none⟩ = some (.int .i64 Q.n) := hB3.cell 0
      have l1 : wc.cell? ⟨B, 1, none⟩ = some (.int .i64 Q.dep) := hB3.cell 1
      have l2 : wc.cell? ⟨B, 2, none⟩ = some (.int .i64 Q.bad) := hB3.cell 2
      have hx0 : wc.frozen? ⟨w.heap.size + 1, 0, none⟩ = false := hR3.free 0
      have hx1 : wc.frozen? ⟨w.heap.size + 1, 1, none⟩ = false := hR3.free 1
      have hx2 : wc.frozen? ⟨w.heap.size + 1, 2, none⟩ = false := hR3.free 2
      have hy0 : wc.cell? ⟨w.heap.size + 1, 0, none⟩ = some (.int .i64 0) := hR3.cell 0
      have hy1 : wc.cell? ⟨w.heap.size + 1, 1, none⟩ = some (.int .i64 0) := hR3.cell 1
      have hy2 : wc.cell? ⟨w.heap.size + 1, 2, none⟩ = some (.int .i64 0) := hR3.cell 2
      have HR3 := Lib.hid hR3; clear hR3
      have HB3 := Lib.hid hb3; clear hb3 hB3
      go_wp2_with fail
      exact walked_end w wc Q HR3.out HB3.out rfl rfl

theorem bad_field (a b c : Int) (w : World) : (Instr.field 70 (.agg #[.int .i64 a, .int .i64 b, .int .i64 c]) 2).run Tryz.prog w = .ok (.int .i64 c) w := by
  have h5 : Tryz.prog.underlying 3 = some (.int .i64) := by kernel_rfl
  have q : ∀ w, (part 3 #[Value.int .i64 a, .int .i64 b, .int .i64 c] 2).run Tryz.prog w = .ok (.int .i64 c) w := fun w => by simp [part, isAgg, run_underlying h5]
  simp [Instr.field, run_underlying Tryz.underlying70, asAgg, q]
end Go.Proofs.YtbchibmmkmldiaaGreatDoor
