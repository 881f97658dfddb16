/-
  The document's walk over a condition and a statement (gnomonref3's walk.cond, walk.stmt), by induction on the tree: proved is what each leaves in the walk's cells, and that nothing else that lay is turned.
-/
import Derived.Test.YtbchibmmkmldiaaGreatDoorTourS
import Derived.Deep.DeepCutAuto
import Derived.Deep.CutBlock
namespace Go.Proofs.YtbchibmmkmldiaaGreatDoor
open Go Go.RowKit

set_option maxRecDepth 100000 in
set_option maxHeartbeats 8000000 in
theorem wcond_any (w0 : World) (B : Nat) (hB0 : w0.heap.size ≤ B) : ∀ (N : Nat) (x : Nd) (v0 v1 v2 v3 : Value) (d : Int) (s : Wk) (w : World), SizeOf.sizeOf x ≤ N → x.ty = .C → NdIn w0 x [v0, v1, v2, v3] → Below w0.heap.size w0 w → s.ok → 0 ≤ d → d ≤ 100 → Blk w B s.cells 70 →
    Calls Tryz.prog 74 #[.pointer (some ⟨B, 0, none⟩), .agg #[v0, v1, v2, v3], .int .i64 d] w (WalkedTo w B (walkN x d s)) := by
  intro N
  induction N with
  | zero =>
    intro x v0 v1 v2 v3 d s w hN
    obtain ⟨ty, k, n, nm, xs, cs, ts, es⟩ := x
    simp only [Nd.mk.sizeOf_spec] at hN
    omega
  | succ N ih =>
    intro x v0 v1 v2 v3 d s w hN hty hin hw hs hd0 hd1 hB
    have hlt := hB.lt
    have hmem := fun y h => Nd.mem_size (x := x) (y := y) h
    obtain ⟨ty, k, n, nm, xs, cs, ts, es⟩ := x
    simp only [Nd.ty] at hty
    subst hty
    simp only [Nd.xs, Nd.cs, Nd.ts, Nd.es] at hmem
    unfold NdIn at hin
    obtain ⟨⟨rfl, rfl, rfl⟩, -, -, -, vx, vc, vt, ve, hvs, hx, hc, ht, he⟩ := hin
    simp only [lay, List.cons.injEq, and_true] at hvs
    obtain ⟨rfl, rfl, rfl, rfl⟩ := hvs
    obtain ⟨a, c, rfl, hnc1, hcm1, hrow1⟩ := hx
    obtain ⟨a2, c2, rfl, hnc2, hcm2, hrow2⟩ := hc
    have hwk : walkN (.mk .C k n ⟨#[]⟩ xs cs [] []) d s = if (nodeW d s).bad ≠ 0 then nodeW d s else walkL cs (d + 1) (walkL xs (d + 1) (nodeW d s)) := by unfold walkN; rfl
    obtain ⟨R, hR⟩ : ∃ R, walkN (.mk .C k n ⟨#[]⟩ xs cs [] []) d s = R := ⟨_, rfl⟩
    rw [hR] at hwk ⊢
    clear hR
    have h1ok := nodeW_ok hs hd0
    have hdeep := nodeW_deep (d := d) (s := s)
    have hnode := fun w hB => wnode_any s d B w hs ⟨hd0, hd1⟩ hB
    obtain ⟨S0, hS1⟩ : ∃ S1, nodeW d s = S1 := ⟨_, rfl⟩
    rw [hS1] at h1ok hdeep hnode hwk
    clear hS1
    have HIH1 := Lib.hid (fun (i : Nat) (hi : i < xs.length) v0 v1 v2 v3 d s w => wexpr_any w0 B hB0 _ xs[i] v0 v1 v2 v3 d s w (Nat.le_refl _))
    have HIH2 := Lib.hid (fun (i : Nat) (hi : i < cs.length) v0 v1 v2 v3 d s w => ih cs[i] v0 v1 v2 v3 d s w (by have := hmem _ (.inr (.inl (List.getElem_mem hi))); omega))
    clear ih hmem
    have HB := Lib.hid hB; clear hB
    have HROW1 := Lib.hid hrow1; clear hrow1
    have HROW2 := Lib.hid hrow2; clear hrow2
    have hne : w.heap.size ≠ B := by omega
    by_cases hbad : S0.bad = 0
    · rw [if_neg (by simpa using hbad)] at hwk
      have HFIN := Lib.hid hwk; clear hwk
      have hd64 := hdeep hbad
      simp only [hbad, decide_true] at hnode
      clear hdeep
      have HN := Lib.hid hnode; clear hnode
      go_enter Tryz.func74, Tryz.ntmps74
      go_upto_block 0 with (first | (go_at_call 47; (with_reducible refine (HN.out _ (HB.out.alloc _)).mono ?_); rintro e w1 ⟨rfl, hB1, ho1⟩) | fail)
      have hE1 := (Blk.new w #[.int .i64 k, .int .i64 n, .slice a xs.length c, .slice a2 cs.length c2] 82).only ho1 (by omega)
      have hO1 := (Only.refl B w).alloc (.cells #[.int .i64 k, .int .i64 n, .slice a xs.length c, .slice a2 cs.length c2] 82) |>.trans ho1
      clear ho1 HN
      have HB0 := Lib.hid hB1; clear hB1
      have HE0 := Lib.hid hE1; clear hE1
      have HO0 := Lib.hid hO1; clear hO1
      have hok0 := h1ok; clear h1ok
      have hs1 := walkL_ok xs (d + 1) S0 hok0 (by omega)
      go_cut [6] (fun _ wx => Blk wx B (walkL xs (d + 1) S0).cells 70 ∧ Blk wx w.heap.size #[.int .i64 k, .int .i64 n, .slice a xs.length c, .slice a2 cs.length c2] 82 ∧ Only B w wx)
      case first =>
        go_wp2_with fail
        go_loopw [6] (fun x wr => ∃ i : Nat, x = .int .i64 i ∧ i ≤ xs.length ∧ Blk wr B (walkL (xs.take i) (d + 1) S0).cells 70 ∧ Blk wr w.heap.size #[.int .i64 k, .int .i64 n, .slice a xs.length c, .slice a2 cs.length c2] 82 ∧ Only B w wr) (fun x _ => xs.length - (intOf x).toNat)
        case atStart => exact ⟨0, rfl, by omega, by rw [List.take_zero, walkL]; exact HB0.out, HE0.out, HO0.out⟩
        case round =>
          obtain ⟨i, rfl, hi, hBr, hEr, hOr⟩ := hrel
          clear HB0 HE0 HO0
          have e3 : wr.cell? ⟨w.heap.size, 2, none⟩ = some (.slice a xs.length c) := hEr.cell 2
          have b2 : wr.cell? ⟨B, 2, none⟩ = some (.int .i64 (walkL (xs.take i) (d + 1) S0).bad) := hBr.cell 2
          have hsok := walkL_ok (xs.take i) (d + 1) S0 hok0 (by omega)
          have hstop := walkL_stop (l := xs) (i := i) (d := d + 1) (s := S0)
          have htk := fun h => walkL_take (l := xs) (i := i) h (d + 1) S0
          have HE := Lib.hid hEr; clear hEr
          have HO := Lib.hid hOr; clear hOr
          by_cases hlt2 : i < xs.length
          · have hbi : (i : Int) + 1 ≤ 9223372036854775807 := by unfold maxLen at hcm1; omega
            obtain ⟨S, hS⟩ : ∃ S, walkL (xs.take i) (d + 1) S0 = S := ⟨_, rfl⟩
            rw [hS] at hBr b2 hsok hstop htk
            clear hS
            have HBr := Lib.hid hBr; clear hBr
            have hxl : ¬ xs.length = 0 := by omega
            obtain ⟨b, o, rfl, hrow⟩ := HROW1.out.resolve_left hxl
            by_cases hb : S.bad = 0
            · rw [hb] at b2
              have hold : Below w0.heap.size w0 wr := hw.trans (HO.out.old hB0 hw.size)
              obtain ⟨hty, u0, u1, u2, u3, m0, m1, m2, m3, hnd⟩ := SlIn.item4 rfl hrow i hlt2
              have kk := keeps_below hold
              have k0 := kk _ _ _ m0
              have k1 := kk _ _ _ m1
              have k2 := kk _ _ _ m2
              have k3 := kk _ _ _ m3
              have HC := Lib.hid (HIH1.out i hlt2 u0 u1 u2 u3 (d + 1) S wr hty hnd hold hsok (by omega) (by omega) HBr.out)
              have HTK := Lib.hid (htk hlt2)
              clear m0 m1 m2 m3 hnd hty hold kk hstop htk hrow
              go_wp2_with fail
              refine HC.out.mono ?_
              rintro e w2 ⟨rfl, hB2, hO2⟩
              rw [← HTK.out] at hB2
              have hE2 := HE.out.only hO2 hne
              have hO3 := HO.out.trans hO2
              have HB2 := Lib.hid hB2; clear hB2
              have HE2 := Lib.hid hE2; clear hE2
              clear hO2
              have HO3 := Lib.hid hO3; clear hO3
              go_wp2
              go_roundw
              case rel => exact ⟨i + 1, by go_num, by omega, HB2.out, HE2.out, HO3.out⟩
              case measure => simp [intOf]; omega
            · have hb2 : (S.bad == 0) = false := by simpa using hb
              have HST := Lib.hid (hstop hb)
              clear hstop htk
              go_wp2
              go_meet
              exact ⟨by rw [HST.out]; exact HBr.out, HE.out, HO.out⟩
          · obtain rfl : i = xs.length := by omega
            rw [List.take_length] at hBr
            have HBr := Lib.hid hBr; clear hBr
            clear hstop htk b2 hsok
            go_wp2
            go_meet
            exact ⟨HBr.out, HE.out, HO.out⟩
      case rest =>
        clear HB0 HE0 HO0
        obtain ⟨hBr, hEr, hOr⟩ := hcut
        obtain ⟨S1, hSS⟩ : ∃ S, walkL xs (d + 1) S0 = S := ⟨_, rfl⟩
        rw [hSS] at hBr hs1 HFIN
        clear hSS
        have hok1 := hs1; clear hs1
        have HB1 := Lib.hid hBr; clear hBr
        have HE1 := Lib.hid hEr; clear hEr
        have HO1 := Lib.hid hOr; clear hOr
        go_wp2_with fail
        have hs2 := walkL_ok cs (d + 1) S1 hok1 (by omega)
        go_loopw [7] (fun x wr => ∃ i : Nat, x = .int .i64 i ∧ i ≤ cs.length ∧ Blk wr B (walkL (cs.take i) (d + 1) S1).cells 70 ∧ Blk wr w.heap.size #[.int .i64 k, .int .i64 n, .slice a xs.length c, .slice a2 cs.length c2] 82 ∧ Only B w wr) (fun x _ => cs.length - (intOf x).toNat)
        case atStart => exact ⟨0, rfl, by omega, by rw [List.take_zero, walkL]; exact HB1.out, HE1.out, HO1.out⟩
        case round =>
          obtain ⟨i, rfl, hi, hBr, hEr, hOr⟩ := hrel
          clear HB1 HE1 HO1
          have e3 : wr.cell? ⟨w.heap.size, 3, none⟩ = some (.slice a2 cs.length c2) := hEr.cell 3
          have b2 : wr.cell? ⟨B, 2, none⟩ = some (.int .i64 (walkL (cs.take i) (d + 1) S1).bad) := hBr.cell 2
          have hsok := walkL_ok (cs.take i) (d + 1) S1 hok1 (by omega)
          have hstop := walkL_stop (l := cs) (i := i) (d := d + 1) (s := S1)
          have htk := fun h => walkL_take (l := cs) (i := i) h (d + 1) S1
          have HE := Lib.hid hEr; clear hEr
          have HO := Lib.hid hOr; clear hOr
          by_cases hlt2 : i < cs.length
          · have hbi : (i : Int) + 1 ≤ 9223372036854775807 := by unfold maxLen at hcm2; omega
            obtain ⟨S, hS⟩ : ∃ S, walkL (cs.take i) (d + 1) S1 = S := ⟨_, rfl⟩
            rw [hS] at hBr b2 hsok hstop htk
            clear hS
            have HBr := Lib.hid hBr; clear hBr
            have hxl : ¬ cs.length = 0 := by omega
            obtain ⟨b, o, rfl, hrow⟩ := HROW2.out.resolve_left hxl
            by_cases hb : S.bad = 0
            · rw [hb] at b2
              have hold : Below w0.heap.size w0 wr := hw.trans (HO.out.old hB0 hw.size)
              obtain ⟨hty, u0, u1, u2, u3, m0, m1, m2, m3, hnd⟩ := SlIn.item4 rfl hrow i hlt2
              have kk := keeps_below hold
              have k0 := kk _ _ _ m0
              have k1 := kk _ _ _ m1
              have k2 := kk _ _ _ m2
              have k3 := kk _ _ _ m3
              have HC := Lib.hid (HIH2.out i hlt2 u0 u1 u2 u3 (d + 1) S wr hty hnd hold hsok (by omega) (by omega) HBr.out)
              have HTK := Lib.hid (htk hlt2)
              clear m0 m1 m2 m3 hnd hty hold kk hstop htk hrow
              go_wp2_with fail
              refine HC.out.mono ?_
              rintro e w2 ⟨rfl, hB2, hO2⟩
              rw [← HTK.out] at hB2
              have hE2 := HE.out.only hO2 hne
              have hO3 := HO.out.trans hO2
              have HB2 := Lib.hid hB2; clear hB2
              have HE2 := Lib.hid hE2; clear hE2
              clear hO2
              have HO3 := Lib.hid hO3; clear hO3
              go_wp2
              go_roundw
              case rel => exact ⟨i + 1, by go_num, by omega, HB2.out, HE2.out, HO3.out⟩
              case measure => simp [intOf]; omega
            · have hb2 : (S.bad == 0) = false := by simpa using hb
              have HST := Lib.hid (hstop hb)
              clear hstop htk
              go_wp2
              go_end0
              exact ⟨rfl, by rw [HFIN.out, HST.out]; exact HBr.out, HO.out⟩
          · obtain rfl : i = cs.length := by omega
            rw [List.take_length] at hBr
            have HBr := Lib.hid hBr; clear hBr
            clear hstop htk b2 hsok
            go_wp2
            go_end0
            exact ⟨rfl, by rw [HFIN.out]; exact HBr.out, HO.out⟩
    · rw [if_pos hbad] at hwk
      have HFIN := Lib.hid hwk; clear hwk
      have hf : decide (S0.bad = 0) = false := by simpa using hbad
      simp only [hf] at hnode
      clear hdeep hf
      have HN := Lib.hid hnode; clear hnode
      go_enter Tryz.func74, Tryz.ntmps74
      go_wp2_with (first | (go_at_call 47; (with_reducible refine (HN.out _ (HB.out.alloc _)).mono ?_); rintro e w1 ⟨rfl, hB1, ho1⟩) | fail)
      go_end0
      exact ⟨rfl, by rw [HFIN.out]; exact hB1, (Only.refl B w).alloc _ |>.trans ho1⟩

set_option maxRecDepth 100000 in
set_option maxHeartbeats 8000000 in
theorem wstmt_any (w0 : World) (B : Nat) (hB0 : w0.heap.size ≤ B) : ∀ (N : Nat) (x : Nd) (v0 v1 v2 v3 v4 v5 : Value) (d : Int) (s : Wk) (w : World), SizeOf.sizeOf x ≤ N → x.ty = .S → NdIn w0 x [v0, v1, v2, v3, v4, v5] → Below w0.heap.size w0 w → s.ok → 0 ≤ d → d ≤ 100 → Blk w B s.cells 70 →
    Calls Tryz.prog 48 #[.pointer (some ⟨B, 0, none⟩), .agg #[v0, v1, v2, v3, v4, v5], .int .i64 d] w (WalkedTo w B (walkN x d s)) := by
  intro N
  induction N with
  | zero =>
    intro x v0 v1 v2 v3 v4 v5 d s w hN
    obtain ⟨ty, k, n, nm, xs, cs, ts, es⟩ := x
    simp only [Nd.mk.sizeOf_spec] at hN
    omega
  | succ N ih =>
    intro x v0 v1 v2 v3 v4 v5 d s w hN hty hin hw hs hd0 hd1 hB
    have hlt := hB.lt
    have hmem := fun y h => Nd.mem_size (x := x) (y := y) h
    obtain ⟨ty, k, n, nm, xs, cs, ts, es⟩ := x
    simp only [Nd.ty] at hty
    subst hty
    simp only [Nd.xs, Nd.cs, Nd.ts, Nd.es] at hmem
    unfold NdIn at hin
    obtain ⟨-, -, -, -, vx, vc, vt, ve, hvs, hx, hc, ht, he⟩ := hin
    simp only [lay, List.cons.injEq, and_true] at hvs
    obtain ⟨rfl, rfl, rfl, rfl, rfl, rfl⟩ := hvs
    obtain ⟨a2, c2, rfl, hnc1, hcm1, hrow1⟩ := hc
    obtain ⟨a, c, rfl, hnc2, hcm2, hrow2⟩ := hx
    obtain ⟨a3, c3, rfl, hnc3, hcm3, hrow3⟩ := ht
    obtain ⟨a4, c4, rfl, hnc4, hcm4, hrow4⟩ := he
    have hwk : walkN (.mk .S k n nm xs cs ts es) d s = if (nodeW d s).bad ≠ 0 then nodeW d s else walkL es (d + 1) (walkL ts (d + 1) (walkL xs (d + 1) (walkL cs (d + 1) (nodeW d s)))) := by unfold walkN; rfl
    obtain ⟨R, hR⟩ : ∃ R, walkN (.mk .S k n nm xs cs ts es) d s = R := ⟨_, rfl⟩
    rw [hR] at hwk ⊢
    clear hR
    have h1ok := nodeW_ok hs hd0
    have hdeep := nodeW_deep (d := d) (s := s)
    have hnode := fun w hB => wnode_any s d B w hs ⟨hd0, hd1⟩ hB
    obtain ⟨S0, hS1⟩ : ∃ S1, nodeW d s = S1 := ⟨_, rfl⟩
    rw [hS1] at h1ok hdeep hnode hwk
    clear hS1
    have HIH1 := Lib.hid (fun (i : Nat) (hi : i < cs.length) v0 v1 v2 v3 d s w => wcond_any w0 B hB0 _ cs[i] v0 v1 v2 v3 d s w (Nat.le_refl _))
    have HIH2 := Lib.hid (fun (i : Nat) (hi : i < xs.length) v0 v1 v2 v3 d s w => wexpr_any w0 B hB0 _ xs[i] v0 v1 v2 v3 d s w (Nat.le_refl _))
    have HIH3 := Lib.hid (fun (i : Nat) (hi : i < ts.length) v0 v1 v2 v3 v4 v5 d s w => ih ts[i] v0 v1 v2 v3 v4 v5 d s w (by have := hmem _ (.inr (.inr (.inl (List.getElem_mem hi)))); omega))
    have HIH4 := Lib.hid (fun (i : Nat) (hi : i < es.length) v0 v1 v2 v3 v4 v5 d s w => ih es[i] v0 v1 v2 v3 v4 v5 d s w (by have := hmem _ (.inr (.inr (.inr (List.getElem_mem hi)))); omega))
    clear ih hmem
    have HB := Lib.hid hB; clear hB
    have HROW1 := Lib.hid hrow1; clear hrow1
    have HROW2 := Lib.hid hrow2; clear hrow2
    have HROW3 := Lib.hid hrow3; clear hrow3
    have HROW4 := Lib.hid hrow4; clear hrow4
    have hne : w.heap.size ≠ B := by omega
    by_cases hbad : S0.bad = 0
    · rw [if_neg (by simpa using hbad)] at hwk
      have HFIN := Lib.hid hwk; clear hwk
      have hd64 := hdeep hbad
      simp only [hbad, decide_true] at hnode
      clear hdeep
      have HN := Lib.hid hnode; clear hnode
      go_enter Tryz.func48, Tryz.ntmps48
      go_upto_block 0 with (first | (go_at_call 47; (with_reducible refine (HN.out _ (HB.out.alloc _)).mono ?_); rintro e w1 ⟨rfl, hB1, ho1⟩) | fail)
      have hE1 := (Blk.new w #[.int .i64 k, .string nm, .slice a xs.length c, .slice a2 cs.length c2, .slice a3 ts.length c3, .slice a4 es.length c4] 78).only ho1 (by omega)
      have hO1 := (Only.refl B w).alloc (.cells #[.int .i64 k, .string nm, .slice a xs.length c, .slice a2 cs.length c2, .slice a3 ts.length c3, .slice a4 es.length c4] 78) |>.trans ho1
      clear ho1 HN
      have HB0 := Lib.hid hB1; clear hB1
      have HE0 := Lib.hid hE1; clear hE1
      have HO0 := Lib.hid hO1; clear hO1
      have hok0 := h1ok; clear h1ok
      have hs1 := walkL_ok cs (d + 1) S0 hok0 (by omega)
      go_cut [6] (fun _ wx => Blk wx B (walkL cs (d + 1) S0).cells 70 ∧ Blk wx w.heap.size #[.int .i64 k, .string nm, .slice a xs.length c, .slice a2 cs.length c2, .slice a3 ts.length c3, .slice a4 es.length c4] 78 ∧ Only B w wx)
      case first =>
        go_wp2_with fail
        go_loopw [6] (fun x wr => ∃ i : Nat, x = .int .i64 i ∧ i ≤ cs.length ∧ Blk wr B (walkL (cs.take i) (d + 1) S0).cells 70 ∧ Blk wr w.heap.size #[.int .i64 k, .string nm, .slice a xs.length c, .slice a2 cs.length c2, .slice a3 ts.length c3, .slice a4 es.length c4] 78 ∧ Only B w wr) (fun x _ => cs.length - (intOf x).toNat)
        case atStart => exact ⟨0, rfl, by omega, by rw [List.take_zero, walkL]; exact HB0.out, HE0.out, HO0.out⟩
        case round =>
          obtain ⟨i, rfl, hi, hBr, hEr, hOr⟩ := hrel
          clear HB0 HE0 HO0
          have e3 : wr.cell? ⟨w.heap.size, 3, none⟩ = some (.slice a2 cs.length c2) := hEr.cell 3
          have b2 : wr.cell? ⟨B, 2, none⟩ = some (.int .i64 (walkL (cs.take i) (d + 1) S0).bad) := hBr.cell 2
          have hsok := walkL_ok (cs.take i) (d + 1) S0 hok0 (by omega)
          have hstop := walkL_stop (l := cs) (i := i) (d := d + 1) (s := S0)
          have htk := fun h => walkL_take (l := cs) (i := i) h (d + 1) S0
          have HE := Lib.hid hEr; clear hEr
          have HO := Lib.hid hOr; clear hOr
          by_cases hlt2 : i < cs.length
          · have hbi : (i : Int) + 1 ≤ 9223372036854775807 := by unfold maxLen at hcm1; omega
            obtain ⟨S, hS⟩ : ∃ S, walkL (cs.take i) (d + 1) S0 = S := ⟨_, rfl⟩
            rw [hS] at hBr b2 hsok hstop htk
            clear hS
            have HBr := Lib.hid hBr; clear hBr
            have hxl : ¬ cs.length = 0 := by omega
            obtain ⟨b, o, rfl, hrow⟩ := HROW1.out.resolve_left hxl
            by_cases hb : S.bad = 0
            · rw [hb] at b2
              have hold : Below w0.heap.size w0 wr := hw.trans (HO.out.old hB0 hw.size)
              obtain ⟨hty, u0, u1, u2, u3, m0, m1, m2, m3, hnd⟩ := SlIn.item4 rfl hrow i hlt2
              have kk := keeps_below hold
              have k0 := kk _ _ _ m0
              have k1 := kk _ _ _ m1
              have k2 := kk _ _ _ m2
              have k3 := kk _ _ _ m3
              have HC := Lib.hid (HIH1.out i hlt2 u0 u1 u2 u3 (d + 1) S wr hty hnd hold hsok (by omega) (by omega) HBr.out)
              have HTK := Lib.hid (htk hlt2)
              clear m0 m1 m2 m3 hnd hty hold kk hstop htk hrow
              go_wp2_with fail
              refine HC.out.mono ?_
              rintro e w2 ⟨rfl, hB2, hO2⟩
              rw [← HTK.out] at hB2
              have hE2 := HE.out.only hO2 hne
              have hO3 := HO.out.trans hO2
              have HB2 := Lib.hid hB2; clear hB2
              have HE2 := Lib.hid hE2; clear hE2
              clear hO2
              have HO3 := Lib.hid hO3; clear hO3
              go_wp2
              go_roundw
              case rel => exact ⟨i + 1, by go_num, by omega, HB2.out, HE2.out, HO3.out⟩
              case measure => simp [intOf]; omega
            · have hb2 : (S.bad == 0) = false := by simpa using hb
              have HST := Lib.hid (hstop hb)
              clear hstop htk
              go_wp2
              go_meet
              exact ⟨by rw [HST.out]; exact HBr.out, HE.out, HO.out⟩
          · obtain rfl : i = cs.length := by omega
            rw [List.take_length] at hBr
            have HBr := Lib.hid hBr; clear hBr
            clear hstop htk b2 hsok
            go_wp2
            go_meet
            exact ⟨HBr.out, HE.out, HO.out⟩
      case rest =>
        clear HB0 HE0 HO0
        obtain ⟨hBr, hEr, hOr⟩ := hcut
        obtain ⟨S1, hSS⟩ : ∃ S, walkL cs (d + 1) S0 = S := ⟨_, rfl⟩
        rw [hSS] at hBr hs1 HFIN
        clear hSS
        have hok1 := hs1; clear hs1
        have HB1 := Lib.hid hBr; clear hBr
        have HE1 := Lib.hid hEr; clear hEr
        have HO1 := Lib.hid hOr; clear hOr
        go_upto_block 2 with fail
        have hs2 := walkL_ok xs (d + 1) S1 hok1 (by omega)
        go_cut [7] (fun _ wx => Blk wx B (walkL xs (d + 1) S1).cells 70 ∧ Blk wx w.heap.size #[.int .i64 k, .string nm, .slice a xs.length c, .slice a2 cs.length c2, .slice a3 ts.length c3, .slice a4 es.length c4] 78 ∧ Only B w wx)
        case first =>
          go_wp2_with fail
          go_loopw [7] (fun x wr => ∃ i : Nat, x = .int .i64 i ∧ i ≤ xs.length ∧ Blk wr B (walkL (xs.take i) (d + 1) S1).cells 70 ∧ Blk wr w.heap.size #[.int .i64 k, .string nm, .slice a xs.length c, .slice a2 cs.length c2, .slice a3 ts.length c3, .slice a4 es.length c4] 78 ∧ Only B w wr) (fun x _ => xs.length - (intOf x).toNat)
          case atStart => exact ⟨0, rfl, by omega, by rw [List.take_zero, walkL]; exact HB1.out, HE1.out, HO1.out⟩
          case round =>
            obtain ⟨i, rfl, hi, hBr, hEr, hOr⟩ := hrel
            clear HB1 HE1 HO1
            have e3 : wr.cell? ⟨w.heap.size, 2, none⟩ = some (.slice a xs.length c) := hEr.cell 2
            have b2 : wr.cell? ⟨B, 2, none⟩ = some (.int .i64 (walkL (xs.take i) (d + 1) S1).bad) := hBr.cell 2
            have hsok := walkL_ok (xs.take i) (d + 1) S1 hok1 (by omega)
            have hstop := walkL_stop (l := xs) (i := i) (d := d + 1) (s := S1)
            have htk := fun h => walkL_take (l := xs) (i := i) h (d + 1) S1
            have HE := Lib.hid hEr; clear hEr
            have HO := Lib.hid hOr; clear hOr
            by_cases hlt2 : i < xs.length
            · have hbi : (i : Int) + 1 ≤ 9223372036854775807 := by unfold maxLen at hcm2; omega
              obtain ⟨S, hS⟩ : ∃ S, walkL (xs.take i) (d + 1) S1 = S := ⟨_, rfl⟩
              rw [hS] at hBr b2 hsok hstop htk
              clear hS
              have HBr := Lib.hid hBr; clear hBr
              have hxl : ¬ xs.length = 0 := by omega
              obtain ⟨b, o, rfl, hrow⟩ := HROW2.out.resolve_left hxl
              by_cases hb : S.bad = 0
              · rw [hb] at b2
                have hold : Below w0.heap.size w0 wr := hw.trans (HO.out.old hB0 hw.size)
                obtain ⟨hty, u0, u1, u2, u3, m0, m1, m2, m3, hnd⟩ := SlIn.item4 rfl hrow i hlt2
                have kk := keeps_below hold
                have k0 := kk _ _ _ m0
                have k1 := kk _ _ _ m1
                have k2 := kk _ _ _ m2
                have k3 := kk _ _ _ m3
                have HC := Lib.hid (HIH2.out i hlt2 u0 u1 u2 u3 (d + 1) S wr hty hnd hold hsok (by omega) (by omega) HBr.out)
                have HTK := Lib.hid (htk hlt2)
                clear m0 m1 m2 m3 hnd hty hold kk hstop htk hrow
                go_wp2_with fail
                refine HC.out.mono ?_
                rintro e w2 ⟨rfl, hB2, hO2⟩
                rw [← HTK.out] at hB2
                have hE2 := HE.out.only hO2 hne
                have hO3 := HO.out.trans hO2
                have HB2 := Lib.hid hB2; clear hB2
                have HE2 := Lib.hid hE2; clear hE2
                clear hO2
                have HO3 := Lib.hid hO3; clear hO3
                go_wp2
                go_roundw
                case rel => exact ⟨i + 1, by go_num, by omega, HB2.out, HE2.out, HO3.out⟩
                case measure => simp [intOf]; omega
              · have hb2 : (S.bad == 0) = false := by simpa using hb
                have HST := Lib.hid (hstop hb)
                clear hstop htk
                go_wp2
                go_meet
                exact ⟨by rw [HST.out]; exact HBr.out, HE.out, HO.out⟩
            · obtain rfl : i = xs.length := by omega
              rw [List.take_length] at hBr
              have HBr := Lib.hid hBr; clear hBr
              clear hstop htk b2 hsok
              go_wp2
              go_meet
              exact ⟨HBr.out, HE.out, HO.out⟩
        case rest =>
          clear HB1 HE1 HO1
          obtain ⟨hBr, hEr, hOr⟩ := hcut
          obtain ⟨S2, hSS⟩ : ∃ S, walkL xs (d + 1) S1 = S := ⟨_, rfl⟩
          rw [hSS] at hBr hs2 HFIN
          clear hSS
          have hok2 := hs2; clear hs2
          have HB2 := Lib.hid hBr; clear hBr
          have HE2 := Lib.hid hEr; clear hEr
          have HO2 := Lib.hid hOr; clear hOr
          go_upto_block 4 with fail
          have hs3 := walkL_ok ts (d + 1) S2 hok2 (by omega)
          go_cut [8] (fun _ wx => Blk wx B (walkL ts (d + 1) S2).cells 70 ∧ Blk wx w.heap.size #[.int .i64 k, .string nm, .slice a xs.length c, .slice a2 cs.length c2, .slice a3 ts.length c3, .slice a4 es.length c4] 78 ∧ Only B w wx)
          case first =>
            go_wp2_with fail
            go_loopw [8] (fun x wr => ∃ i : Nat, x = .int .i64 i ∧ i ≤ ts.length ∧ Blk wr B (walkL (ts.take i) (d + 1) S2).cells 70 ∧ Blk wr w.heap.size #[.int .i64 k, .string nm, .slice a xs.length c, .slice a2 cs.length c2, .slice a3 ts.length c3, .slice a4 es.length c4] 78 ∧ Only B w wr) (fun x _ => ts.length - (intOf x).toNat)
            case atStart => exact ⟨0, rfl, by omega, by rw [List.take_zero, walkL]; exact HB2.out, HE2.out, HO2.out⟩
            case round =>
              obtain ⟨i, rfl, hi, hBr, hEr, hOr⟩ := hrel
              clear HB2 HE2 HO2
              have e3 : wr.cell? ⟨w.heap.size, 4, none⟩ = some (.slice a3 ts.length c3) := hEr.cell 4
              have b2 : wr.cell? ⟨B, 2, none⟩ = some (.int .i64 (walkL (ts.take i) (d + 1) S2).bad) := hBr.cell 2
              have hsok := walkL_ok (ts.take i) (d + 1) S2 hok2 (by omega)
              have hstop := walkL_stop (l := ts) (i := i) (d := d + 1) (s := S2)
              have htk := fun h => walkL_take (l := ts) (i := i) h (d + 1) S2
              have HE := Lib.hid hEr; clear hEr
              have HO := Lib.hid hOr; clear hOr
              by_cases hlt2 : i < ts.length
              · have hbi : (i : Int) + 1 ≤ 9223372036854775807 := by unfold maxLen at hcm3; omega
                obtain ⟨S, hS⟩ : ∃ S, walkL (ts.take i) (d + 1) S2 = S := ⟨_, rfl⟩
                rw [hS] at hBr b2 hsok hstop htk
                clear hS
                have HBr := Lib.hid hBr; clear hBr
                have hxl : ¬ ts.length = 0 := by omega
                obtain ⟨b, o, rfl, hrow⟩ := HROW3.out.resolve_left hxl
                by_cases hb : S.bad = 0
                · rw [hb] at b2
                  have hold : Below w0.heap.size w0 wr := hw.trans (HO.out.old hB0 hw.size)
                  obtain ⟨hty, u0, u1, u2, u3, u4, u5, m0, m1, m2, m3, m4, m5, hnd⟩ := SlIn.item6 rfl hrow i hlt2
                  have kk := keeps_below hold
                  have k0 := kk _ _ _ m0
                  have k1 := kk _ _ _ m1
                  have k2 := kk _ _ _ m2
                  have k3 := kk _ _ _ m3
                  have k4 := kk _ _ _ m4
                  have k5 := kk _ _ _ m5
                  have HC := Lib.hid (HIH3.out i hlt2 u0 u1 u2 u3 u4 u5 (d + 1) S wr hty hnd hold hsok (by omega) (by omega) HBr.out)
                  have HTK := Lib.hid (htk hlt2)
                  clear m0 m1 m2 m3 m4 m5 hnd hty hold kk hstop htk hrow
                  go_wp2_with fail
                  refine HC.out.mono ?_
                  rintro e w2 ⟨rfl, hB2, hO2⟩
                  rw [← HTK.out] at hB2
                  have hE2 := HE.out.only hO2 hne
                  have hO3 := HO.out.trans hO2
                  have HB2 := Lib.hid hB2; clear hB2
                  have HE2 := Lib.hid hE2; clear hE2
                  clear hO2
                  have HO3 := Lib.hid hO3; clear hO3
                  go_wp2
                  go_roundw
                  case rel => exact ⟨i + 1, by go_num, by omega, HB2.out, HE2.out, HO3.out⟩
                  case measure => simp [intOf]; omega
                · have hb2 : (S.bad == 0) = false := by simpa using hb
                  have HST := Lib.hid (hstop hb)
                  clear hstop htk
                  go_wp2
                  go_meet
                  exact ⟨by rw [HST.out]; exact HBr.out, HE.out, HO.out⟩
              · obtain rfl : i = ts.length := by omega
                rw [List.take_length] at hBr
                have HBr := Lib.hid hBr; clear hBr
                clear hstop htk b2 hsok
                go_wp2
                go_meet
                exact ⟨HBr.out, HE.out, HO.out⟩
          case rest =>
            clear HB2 HE2 HO2
            obtain ⟨hBr, hEr, hOr⟩ := hcut
            obtain ⟨S3, hSS⟩ : ∃ S, walkL ts (d + 1) S2 = S := ⟨_, rfl⟩
            rw [hSS] at hBr hs3 HFIN
            clear hSS
            have hok3 := hs3; clear hs3
            have HB3 := Lib.hid hBr; clear hBr
            have HE3 := Lib.hid hEr; clear hEr
            have HO3 := Lib.hid hOr; clear hOr
            go_wp2_with fail
            have hs4 := walkL_ok es (d + 1) S3 hok3 (by omega)
            go_loopw [9] (fun x wr => ∃ i : Nat, x = .int .i64 i ∧ i ≤ es.length ∧ Blk wr B (walkL (es.take i) (d + 1) S3).cells 70 ∧ Blk wr w.heap.size #[.int .i64 k, .string nm, .slice a xs.length c, .slice a2 cs.length c2, .slice a3 ts.length c3, .slice a4 es.length c4] 78 ∧ Only B w wr) (fun x _ => es.length - (intOf x).toNat)
            case atStart => exact ⟨0, rfl, by omega, by rw [List.take_zero, walkL]; exact HB3.out, HE3.out, HO3.out⟩
            case round =>
              obtain ⟨i, rfl, hi, hBr, hEr, hOr⟩ := hrel
              clear HB3 HE3 HO3
              have e3 : wr.cell? ⟨w.heap.size, 5, none⟩ = some (.slice a4 es.length c4) := hEr.cell 5
              have b2 : wr.cell? ⟨B, 2, none⟩ = some (.int .i64 (walkL (es.take i) (d + 1) S3).bad) := hBr.cell 2
              have hsok := walkL_ok (es.take i) (d + 1) S3 hok3 (by omega)
              have hstop := walkL_stop (l := es) (i := i) (d := d + 1) (s := S3)
              have htk := fun h => walkL_take (l := es) (i := i) h (d + 1) S3
              have HE := Lib.hid hEr; clear hEr
              have HO := Lib.hid hOr; clear hOr
              by_cases hlt2 : i < es.length
              · have hbi : (i : Int) + 1 ≤ 9223372036854775807 := by unfold maxLen at hcm4; omega
                obtain ⟨S, hS⟩ : ∃ S, walkL (es.take i) (d + 1) S3 = S := ⟨_, rfl⟩
                rw [hS] at hBr b2 hsok hstop htk
                clear hS
                have HBr := Lib.hid hBr; clear hBr
                have hxl : ¬ es.length = 0 := by omega
                obtain ⟨b, o, rfl, hrow⟩ := HROW4.out.resolve_left hxl
                by_cases hb : S.bad = 0
                · rw [hb] at b2
                  have hold : Below w0.heap.size w0 wr := hw.trans (HO.out.old hB0 hw.size)
                  obtain ⟨hty, u0, u1, u2, u3, u4, u5, m0, m1, m2, m3, m4, m5, hnd⟩ := SlIn.item6 rfl hrow i hlt2
                  have kk := keeps_below hold
                  have k0 := kk _ _ _ m0
                  have k1 := kk _ _ _ m1
                  have k2 := kk _ _ _ m2
                  have k3 := kk _ _ _ m3
                  have k4 := kk _ _ _ m4
                  have k5 := kk _ _ _ m5
                  have HC := Lib.hid (HIH4.out i hlt2 u0 u1 u2 u3 u4 u5 (d + 1) S wr hty hnd hold hsok (by omega) (by omega) HBr.out)
                  have HTK := Lib.hid (htk hlt2)
                  clear m0 m1 m2 m3 m4 m5 hnd hty hold kk hstop htk hrow
                  go_wp2_with fail
                  refine HC.out.mono ?_
                  rintro e w2 ⟨rfl, hB2, hO2⟩
                  rw [← HTK.out] at hB2
                  have hE2 := HE.out.only hO2 hne
                  have hO3 := HO.out.trans hO2
                  have HB2 := Lib.hid hB2; clear hB2
                  have HE2 := Lib.hid hE2; clear hE2
                  clear hO2
                  have HO3 := Lib.hid hO3; clear hO3
                  go_wp2
                  go_roundw
                  case rel => exact ⟨i + 1, by go_num, by omega, HB2.out, HE2.out, HO3.out⟩
                  case measure => simp [intOf]; omega
                · have hb2 : (S.bad == 0) = false := by simpa using hb
                  have HST := Lib.hid (hstop hb)
                  clear hstop htk
                  go_wp2
                  go_end0
                  exact ⟨rfl, by rw [HFIN.out, HST.out]; exact HBr.out, HO.out⟩
              · obtain rfl : i = es.length := by omega
                rw [List.take_length] at hBr
                have HBr := Lib.hid hBr; clear hBr
                clear hstop htk b2 hsok
                go_wp2
                go_end0
                exact ⟨rfl, by rw [HFIN.out]; exact HBr.out, HO.out⟩
    · rw [if_pos hbad] at hwk
      have HFIN := Lib.hid hwk; clear hwk
      have hf : decide (S0.bad = 0) = false := by simpa using hbad
      simp only [hf] at hnode
      clear hdeep hf
      have HN := Lib.hid hnode; clear hnode
      go_enter Tryz.func48, Tryz.ntmps48
      go_wp2_with (first | (go_at_call 47; (with_reducible refine (HN.out _ (HB.out.alloc _)).mono ?_); rintro e w1 ⟨rfl, hB1, ho1⟩) | fail)
      go_end0
      exact ⟨rfl, by rw [HFIN.out]; exact hB1, (Only.refl B w).alloc _ |>.trans ho1⟩
end Go.Proofs.YtbchibmmkmldiaaGreatDoor
