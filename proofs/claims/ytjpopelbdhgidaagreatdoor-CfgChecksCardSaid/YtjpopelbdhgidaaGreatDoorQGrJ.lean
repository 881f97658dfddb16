/-
  Order: proved is that it answers the plain order of every graph that is one, or the error.
-/
import Derived.Test.YtjpopelbdhgidaaGreatDoorQGrArg
import Derived.BigQuiet
import Derived.Deep.QuietTactic
import Derived.Test.YtjpopelbdhgidaaGreatDoorQGrI
import Derived.StillTailTactics
import Derived.Test.YtjpopelbdhgidaaGreatDoorQGrE
import Derived.Test.YtjpopelbdhgidaaGreatDoorQCfgR
import Derived.Test.YtjpopelbdhgidaaGreatDoorShelf
import Derived.Lib.OwnBridge
/-
  A graph's checks: contrary, together, all[[]int]: proved is that they tell whether edges may be all from one point.
-/
namespace Go.Proofs.YtjpopelbdhgidaaGreatDoor
open Go Go.RowKit Go.Maps

abbrev edcA (e : Ed) : Array Value := #[.int .i64 e.fr, .int .i64 e.dt, .int .i64 e.kd, .int .i64 e.dst, .int .i64 e.arr, .int .i64 e.op, .int .i64 e.av, .int .i64 e.an, .int .i64 e.bv, .int .i64 e.bn]
set_option maxRecDepth 100000 in
set_option maxHeartbeats 4000000 in
theorem contrary_any (e f : Ed) (w : World) : Calls Tryz.prog 112 #[edgeV e, edgeV f] w (fun r w' => r = .returned (.bool (ctr e f)) ∧ Below w.heap.size w w') := by
  obtain ⟨W1, hW1⟩ : ∃ W1, (w.alloc (.cells (edcA e) 40)).alloc (.cells (edcA f) 40) = W1 := ⟨_, rfl⟩
  obtain ⟨X, hX⟩ : ∃ X, w.heap.size = X := ⟨_, rfl⟩
  obtain ⟨Y, hY⟩ : ∃ Y, (w.alloc (.cells (edcA e) 40)).heap.size = Y := ⟨_, rfl⟩
  have hx : Blk W1 X (edcA e) 40 := by rw [← hW1, ← hX]; exact (Blk.new w _ _).alloc _
  have hy : Blk W1 Y (edcA f) 40 := by rw [← hW1, ← hY]; exact Blk.new _ _ _
  have hb1 : Below w.heap.size w W1 := by rw [← hW1]; exact ((Below.refl _ w).alloc (Nat.le_refl _) _).alloc (by simp) _
  have hXY : X + 1 = Y := by rw [← hX, ← hY, World.size_alloc]
  have HN := fun w => cnot_any e.op w
  have HQA := fun w => eq_opnd e.av e.an f.av f.an w
  have HQB := fun w => eq_opnd e.bv e.bn f.bv f.bn w
  have hc : ctr e f = (e.kd == 12 && f.kd == 12 && (e.av == f.av && e.an == f.an) && (e.bv == f.bv && e.bn == f.bn) && f.op == notI e.op) := rfl
  rw [hc]
  obtain ⟨A, hA⟩ : ∃ b, (e.av == f.av && e.an == f.an) = b := ⟨_, rfl⟩
  obtain ⟨B, hB⟩ : ∃ b, (e.bv == f.bv && e.bn == f.bn) = b := ⟨_, rfl⟩
  obtain ⟨NO, hNO⟩ : ∃ n, notI e.op = n := ⟨_, rfl⟩
  rw [hA, hB, hNO]
  rw [hNO] at HN
  simp only [hA] at HQA
  simp only [hB] at HQB
  have KS := fun w' (hW : Below W1.heap.size W1 w') => (⟨(hx.below hW hx.lt).cell 2, (hx.below hW hx.lt).cell 5, (hx.below hW hx.lt).cell 6, (hx.below hW hx.lt).cell 7, (hx.below hW hx.lt).cell 8, (hx.below hW hx.lt).cell 9, (hy.below hW hy.lt).cell 2, (hy.below hW hy.lt).cell 5, (hy.below hW hy.lt).cell 6, (hy.below hW hy.lt).cell 7, (hy.below hW hy.lt).cell 8, (hy.below hW hy.lt).cell 9, hW⟩ : (fun w' => w'.cell? ⟨X, 2, none⟩ = some (.int .i64 e.kd) ∧ w'.cell? ⟨X, 5, none⟩ = some (.int .i64 e.op) ∧ w'.cell? ⟨X, 6, none⟩ = some (.int .i64 e.av) ∧ w'.cell? ⟨X, 7, none⟩ = some (.int .i64 e.an) ∧ w'.cell? ⟨X, 8, none⟩ = some (.int .i64 e.bv) ∧ w'.cell? ⟨X, 9, none⟩ = some (.int .i64 e.bn) ∧ w'.cell? ⟨Y, 2, none⟩ = some (.int .i64 f.kd) ∧ w'.cell? ⟨Y, 5, none⟩ = some (.int .i64 f.op) ∧ w'.cell? ⟨Y, 6, none⟩ = some (.int .i64 f.av) ∧ w'.cell? ⟨Y, 7, none⟩ = some (.int .i64 f.an) ∧ w'.cell? ⟨Y, 8, none⟩ = some (.int .i64 f.bv) ∧ w'.cell? ⟨Y, 9, none⟩ = some (.int .i64 f.bn) ∧ Below W1.heap.size W1 w') w')
  have x0 := KS W1 (Below.refl _ W1)
  have H1 := Lib.hid hb1
  have HE := Lib.hid (And.intro hW1 (And.intro hX (And.intro hXY hY)))
  clear hx hy hb1 hW1 hX hXY hY hc hA hB hNO
  obtain ⟨b1, h1⟩ : ∃ b, (e.kd == 12) = b := ⟨_, rfl⟩
  obtain ⟨b2, h2⟩ : ∃ b, (f.kd == 12) = b := ⟨_, rfl⟩
  rw [h1, h2]
  have hcase : b1 = false ∨ (b1 = true ∧ b2 = false) ∨ (b1 = true ∧ b2 = true ∧ A = false) ∨ (b1 = true ∧ b2 = true ∧ A = true ∧ B = false) ∨ (b1 = true ∧ b2 = true ∧ A = true ∧ B = true) := by
    cases b1 <;> cases b2 <;> cases A <;> cases B <;> simp
  obtain ⟨s0, s1, s2, s3, s4, s5, s6, s7, s8, s9, s10, s11, -⟩ := x0
  rcases hcase with rfl | ⟨rfl, rfl⟩ | ⟨rfl, rfl, rfl⟩ | ⟨rfl, rfl, rfl, rfl⟩ | ⟨rfl, rfl, rfl, rfl⟩
  case inr.inr.inr.inr =>
    go_enter Tryz.func112, Tryz.ntmps112
    go_upto_region 1 with fail
    simp only [HE.out.1, HE.out.2.1, HE.out.2.2.1]
    first | (go_region_held3 (fun w' => w'.cell? ⟨X, 2, none⟩ = some (.int .i64 e.kd) ∧ w'.cell? ⟨X, 5, none⟩ = some (.int .i64 e.op) ∧ w'.cell? ⟨X, 6, none⟩ = some (.int .i64 e.av) ∧ w'.cell? ⟨X, 7, none⟩ = some (.int .i64 e.an) ∧ w'.cell? ⟨X, 8, none⟩ = some (.int .i64 e.bv) ∧ w'.cell? ⟨X, 9, none⟩ = some (.int .i64 e.bn) ∧ w'.cell? ⟨Y, 2, none⟩ = some (.int .i64 f.kd) ∧ w'.cell? ⟨Y, 5, none⟩ = some (.int .i64 f.op) ∧ w'.cell? ⟨Y, 6, none⟩ = some (.int .i64 f.av) ∧ w'.cell? ⟨Y, 7, none⟩ = some (.int .i64 f.an) ∧ w'.cell? ⟨Y, 8, none⟩ = some (.int .i64 f.bv) ∧ w'.cell? ⟨Y, 9, none⟩ = some (.int .i64 f.bn) ∧ Below W1.heap.size W1 w')
      ((with_reducible refine KS _ ?_; repeat (with_reducible (first | exact Below.refl _ W1 | refine below_drew ?_ | refine below_next ?_ hb2 | fail))))
      (first | (go_at_call 150; (with_reducible refine (HN _).mono ?_); rintro e w2 ⟨rfl, hb2⟩))) | fail
    all_goals (go_wp2_with fail; go_ret; exact ⟨rfl, bel H1.out (by repeat (with_reducible (first | exact Below.refl _ W1 | refine below_drew ?_ | refine below_next ?_ hb2 | fail)))⟩)
  all_goals
    go_enter Tryz.func112, Tryz.ntmps112
    go_upto_region 1 with fail
    simp only [HE.out.1, HE.out.2.1, HE.out.2.2.1]
    go_quiet (fail)
    go_wp2_with fail
    go_ret
    exact ⟨rfl, ⟨H1.out.os, H1.out.tape, H1.out.output, H1.out.size, H1.out.block⟩⟩
end Go.Proofs.YtjpopelbdhgidaaGreatDoor

/-
  A graph's checks: together, all[[]int]: proved is that they tell whether the edges of each point may be all from it.
-/
namespace Go.Proofs.YtjpopelbdhgidaaGreatDoor
open Go Go.RowKit Go.Maps

/-- Numbers at a slice. -/
def NumsAt (w : World) (l : List Nat) (a : Option Addr) : Prop := l.length = 0 ∨ ∃ b, a = some ⟨b, 0, none⟩ ∧ ∀ i (hi : i < l.length), w.cell? ⟨b, i, none⟩ = some (.int .i64 (l[i] : Int))
theorem NumsAt.keep {w w' : World} {l : List Nat} {a : Option Addr} (h : NumsAt w l a) (hk : Keeps w w') : NumsAt w' l a := h.imp id fun ⟨b, h1, h2⟩ => ⟨b, h1, fun i hi => hk _ _ _ (h2 i hi)⟩
set_option maxRecDepth 100000 in
set_option maxHeartbeats 8000000 in
theorem together_any (g : Gf) (av aa ae : Option Addr) (cv ca ce : Nat) (l : List Nat) (a : Option Addr) (c : Nat) (w : World) (hes : EdsAt w g.es (.slice ae g.es.length ce)) (hl : ∀ x ∈ l, x < g.es.length) (hll : l.length ≤ 1099511627776) (hrow : NumsAt w l a) :
    Calls Tryz.prog 75 #[grS g av cv aa ca ae ce, .slice a l.length c] w (fun r w' => r = .returned (.bool (tog g.es l)) ∧ Below w.heap.size w w') := by
  obtain ⟨W1, hW1⟩ : ∃ W1, w.alloc (.cells (grB g av cv aa ca ae ce) 144) = W1 := ⟨_, rfl⟩
  obtain ⟨X, hX⟩ : ∃ X, w.heap.size = X := ⟨_, rfl⟩
  have hx : Blk W1 X (grB g av cv aa ca ae ce) 144 := by rw [← hW1, ← hX]; exact Blk.new w _ _
  have hb1 : Below w.heap.size w W1 := by rw [← hW1]; exact (Below.refl _ w).alloc (Nat.le_refl _) _
  have hrow1 := hrow.keep (keeps_below hb1)
  have hes1 := hes.keep (keeps_below hb1)
  obtain ⟨_, _, hs, -, -, her⟩ := hes1
  cases hs
  have x5 : W1.cell? ⟨X, 5, none⟩ = some (.slice ae g.es.length ce) := hx.cell 5
  have H1 := Lib.hid (And.intro hx (And.intro hb1 her))
  have HE := Lib.hid (And.intro hW1 hX)
  clear hx hb1 her hW1 hX hrow hes
  have hcase : l = [] ∨ (∃ x, l = [x]) ∨ (∃ x y, l = [x, y]) ∨ (3 ≤ l.length ∧ tog g.es l = false) := by
    match l with
    | [] => exact .inl rfl
    | [x] => exact .inr (.inl ⟨x, rfl⟩)
    | [x, y] => exact .inr (.inr (.inl ⟨x, y, rfl⟩))
    | x :: y :: z :: r => exact .inr (.inr (.inr ⟨by simp, rfl⟩))
  rcases hcase with rfl | ⟨x, rfl⟩ | ⟨x, y, rfl⟩ | ⟨hm3, htf⟩
  · clear hl hrow1 hll
    go_enter Tryz.func75, Tryz.ntmps75
    go_upto_region 1 with fail
    simp only [HE.out.1, HE.out.2]
    go_wp2_with fail
    go_ret
    exact ⟨rfl, H1.out.2.1⟩
  · obtain ⟨b, rfl, hc⟩ := hrow1.resolve_left (by simp)
    have n0 : W1.cell? ⟨b, 0, none⟩ = some (.int .i64 (x : Int)) := hc 0 (by simp)
    have hxl : x < g.es.length := hl x (by simp)
    have hxi : (x : Int) < (g.es.length : Int) := by omega
    obtain ⟨eb, eo, rfl, he⟩ := H1.out.2.2.resolve_left (by omega)
    obtain ⟨-, -, k2, -⟩ := eds_at he x hxl
    have hge : g.es.getD x noE = g.es[x] := by rw [List.getD_eq_getElem?_getD, List.getElem?_eq_getElem hxl, Option.getD_some]
    have hr : tog g.es [x] = (g.es[x].kd != 12) := by show ((g.es.getD x noE).kd != 12) = _; rw [hge]
    rw [hr]
    obtain ⟨K, hK⟩ : ∃ k, g.es[x].kd = k := ⟨_, rfl⟩
    rw [hK] at k2 ⊢
    have hl1 : (([x] : List Nat).length : Int) = 1 := rfl
    clear hr hge hK he hl hll hc hrow1
    go_enter Tryz.func75, Tryz.ntmps75
    go_upto_region 1 with fail
    simp only [HE.out.1, HE.out.2]
    go_upto_region 5 with fail
    go_quiet (fail)
    go_wp2_with fail
    go_ret
    exact ⟨rfl, ⟨H1.out.2.1.os, H1.out.2.1.tape, H1.out.2.1.output, H1.out.2.1.size, H1.out.2.1.block⟩⟩
  · obtain ⟨b, rfl, hc⟩ := hrow1.resolve_left (by simp)
    have n0 : W1.cell? ⟨b, 0, none⟩ = some (.int .i64 (x : Int)) := hc 0 (by simp)
    have n1 : W1.cell? ⟨b, 1, none⟩ = some (.int .i64 (y : Int)) := hc 1 (by simp)
    have hxl : x < g.es.length := hl x (by simp)
    have hyl : y < g.es.length := hl y (by simp)
    have hxi : (x : Int) < (g.es.length : Int) := by omega
    have hyi : (y : Int) < (g.es.length : Int) := by omega
    obtain ⟨eb, eo, rfl, he⟩ := H1.out.2.2.resolve_left (by omega)
    obtain ⟨k0, k1, k2, k3, k4, k5, k6, k7, k8, k9⟩ := eds_at he x hxl
    obtain ⟨j0, j1, j2, j3, j4, j5, j6, j7, j8, j9⟩ := eds_at he y hyl
    have hgx : g.es.getD x noE = g.es[x] := by rw [List.getD_eq_getElem?_getD, List.getElem?_eq_getElem hxl, Option.getD_some]
    have hgy : g.es.getD y noE = g.es[y] := by rw [List.getD_eq_getElem?_getD, List.getElem?_eq_getElem hyl, Option.getD_some]
    have hr : tog g.es [x, y] = ctr g.es[x] g.es[y] := by show ctr (g.es.getD x noE) (g.es.getD y noE) = _; rw [hgx, hgy]
    rw [hr]
    obtain ⟨e, he1⟩ : ∃ k, g.es[x] = k := ⟨_, rfl⟩
    obtain ⟨f, hf1⟩ : ∃ k, g.es[y] = k := ⟨_, rfl⟩
    rw [he1] at k0 k1 k2 k3 k4 k5 k6 k7 k8 k9
    rw [hf1] at j0 j1 j2 j3 j4 j5 j6 j7 j8 j9
    rw [he1, hf1]
    have HC := fun w => contrary_any e f w
    obtain ⟨R, hR⟩ : ∃ r, ctr e f = r := ⟨_, rfl⟩
    rw [hR] at HC ⊢
    clear hr hgx hgy he1 hf1 hR he hl hll hc hrow1 hxl hyl
    go_enter Tryz.func75, Tryz.ntmps75
    go_upto_region 1 with fail
    simp only [HE.out.1, HE.out.2]
    go_upto_region 7 with fail
    go_still_tail 14, (by kernel_rfl)
    change wpList _ _ _ _ _ W1.drew
    go_wp2_with (first | (go_at_call 112; (with_reducible refine (HC _).mono ?_); rintro q w2 ⟨rfl, hb2⟩) | fail)
    go_ret
    exact ⟨rfl, bel H1.out.2.1 ((Below.refl W1.heap.size W1).drew.trans hb2)⟩
  · rw [htf]
    obtain ⟨m, hm⟩ : ∃ m, l.length = m := ⟨_, rfl⟩
    rw [hm] at hll hm3 ⊢
    have e0 : ((m : Int) == 0) = false := by simp; omega
    have e1 : ((m : Int) == 1) = false := by simp; omega
    have e2 : ((m : Int) == 2) = false := by simp; omega
    clear hl hrow1 hm hm3 htf
    go_enter Tryz.func75, Tryz.ntmps75
    go_upto_region 1 with fail
    simp only [HE.out.1, HE.out.2]
    go_wp2_with fail
    go_ret
    exact ⟨rfl, H1.out.2.1⟩
set_option maxRecDepth 100000 in
set_option maxHeartbeats 8000000 in
theorem all_rows (g : Gf) (av aa ae : Option Addr) (cv ca ce n L : Nat) (vs : Nat → Value) (w : World) (hr : RwIn w L n (outL g.es) vs) (hes : EdsAt w g.es (.slice ae g.es.length ce)) (hn : n ≤ 4096) (hne : g.es.length ≤ 8192) :
    Calls Tryz.prog 74 #[.slice (some ⟨L, 0, none⟩) n n, .func (.func 75) #[grS g av cv aa ca ae ce] #[]] w (fun e w' => e = .returned (.bool ((List.range n).all fun p => tog g.es (outL g.es p))) ∧ Below w.heap.size w w') := by
  obtain ⟨PR, hPR⟩ : ∃ p, (fun p => tog g.es (outL g.es p)) = p := ⟨_, rfl⟩
  rw [hPR]
  obtain ⟨R, hR⟩ : ∃ R, (List.range n).all PR = R := ⟨_, rfl⟩
  rw [hR]
  have hR0 : R = ((List.range n).drop 0).all PR := by rw [List.drop_zero]; exact hR.symm
  have HH := Lib.hid (And.intro hr (And.intro hes (And.intro hne hPR)))
  clear hr hes hR hPR
  go_enter Tryz.func74, Tryz.ntmps74
  go_wp2_with fail
  go_loopw [9] (fun x wr => ∃ i : Nat, x = .int .i64 i ∧ i ≤ n ∧ R = ((List.range n).drop i).all PR ∧ Below w.heap.size w wr) (fun x _ => n - (intOf x).toNat)
  case atStart => exact ⟨0, rfl, by omega, hR0, Below.refl _ _⟩
  case round =>
    obtain ⟨i, rfl, hi, hRi, hbr⟩ := hrel
    clear hR0
    have HBR := Lib.hid hbr
    by_cases hlt : i < n
    · have hbi : (i : Int) + 1 ≤ 9223372036854775807 := by omega
      obtain ⟨a, c, hv, hlc, hcm, hcl, hrow⟩ := HH.out.1.at i hlt
      have hc2 := keeps_below hbr _ _ _ hcl
      rw [all_drop PR (List.range n) i (by simpa using hlt), List.getElem_range] at hRi
      have hPi : PR i = tog g.es (outL g.es i) := by rw [← HH.out.2.2.2]
      have hll : (outL g.es i).length ≤ g.es.length := outT_len _ _ _
      have HS := Lib.hid (together_any g av aa ae cv ca ce (outL g.es i) a c wr (HH.out.2.1.keep (keeps_below hbr)) (fun x hx => (outT_lt hx).1) (by have := HH.out.2.2.1; omega) (hrow.imp id fun ⟨b, h1, _, _, h4⟩ => ⟨b, h1, fun k hk => keeps_below hbr _ _ _ (h4 k hk)⟩))
      rw [← hPi] at HS
      obtain ⟨B, hB⟩ : ∃ B, PR i = B := ⟨_, rfl⟩
      rw [hB] at hRi HS
      obtain ⟨ll, hl⟩ : ∃ k, (outL g.es i).length = k := ⟨_, rfl⟩
      rw [hl] at hc2 HS
      have HRI := Lib.hid hRi
      clear hbr hv hlc hcm hcl hrow hPi hll hB hRi hl
      cases B with
      | false =>
        go_wp2_with (first | (go_at_call 75; (with_reducible refine HS.out.mono ?_); rintro e w2 ⟨rfl, hb2⟩) | fail)
        go_ret
        exact ⟨by rw [HRI.out]; rfl, HBR.out.trans (hb2.mono HBR.out.size)⟩
      | true =>
        go_wp2_with (first | (go_at_call 75; (with_reducible refine HS.out.mono ?_); rintro e w2 ⟨rfl, hb2⟩) | fail)
        go_roundw
        case rel => exact ⟨i + 1, by go_num, by omega, by rw [HRI.out]; rfl, HBR.out.trans (hb2.mono HBR.out.size)⟩
        case measure => simp [intOf]; omega
    · obtain rfl : i = n := by omega
      clear hbr
      go_wp2_with fail
      go_ret
      exact ⟨by rw [hRi, List.drop_eq_nil_of_le (by simp)]; rfl, HBR.out⟩
end Go.Proofs.YtjpopelbdhgidaaGreatDoor

/-
  A graph's checks: all[api.Edge], formed, Check: proved is that they tell whether a graph is one.
-/
namespace Go.Proofs.YtjpopelbdhgidaaGreatDoor
open Go Go.RowKit Go.Maps

set_option maxRecDepth 100000 in
set_option maxHeartbeats 4000000 in
theorem all_edge (g : Gf) (av aa ae : Option Addr) (cv ca ce : Nat) (h0 : 0 ≤ g.nv) (h1 : g.nv ≤ 1099511627776) (w : World) (h : EdsAt w g.es (.slice ae g.es.length ce)) (htab : TabF w) : Calls Tryz.prog 72 #[.slice ae g.es.length ce, .func (.func 73) #[grS g av cv aa ca ae ce] #[]] w (fun e w' => e = .returned (.bool (rightG g)) ∧ Below w.heap.size w w') := by
  have HRT := Lib.hid (fun e w' (hb : Below w.heap.size w w') => right_any g av aa ae cv ca ce h0 h1 e w' (htab.next hb))
  obtain ⟨a, c, hs, hlc, hcm, hrow⟩ := h
  cases hs
  have HR := Lib.hid hrow
  have hb63 : (g.es.length : Int) ≤ 9223372036854775807 := by unfold maxLen at hcm; omega
  obtain ⟨PR, hPR⟩ : ∃ p, edR g.nv (g.ar.length : Int) g.pts g.ext = p := ⟨_, rfl⟩
  have hrg : rightG g = g.es.all PR := by rw [← hPR]; rfl
  have hPR2 : ∀ e, edR g.nv (g.ar.length : Int) g.pts g.ext e = PR e := fun e => by rw [hPR]
  obtain ⟨l, hl⟩ : ∃ l, g.es = l := ⟨_, rfl⟩
  obtain ⟨R, hR⟩ : ∃ R, rightG g = R := ⟨_, rfl⟩
  rw [hR]
  have hR0 : R = (g.es.drop 0).all PR := by rw [List.drop_zero, ← hR]; exact hrg
  have HP := Lib.hid hPR2
  clear hrow hlc hcm hR hrg hPR hPR2 h0 h1 htab hl l
  go_enter Tryz.func72, Tryz.ntmps72
  go_wp2_with fail
  go_loopw [9] (fun x wr => ∃ i : Nat, x = .int .i64 i ∧ i ≤ g.es.length ∧ R = (g.es.drop i).all PR ∧ Below w.heap.size w wr) (fun x _ => g.es.length - (intOf x).toNat)
  case atStart => exact ⟨0, rfl, by omega, hR0, Below.refl _ _⟩
  case round =>
    obtain ⟨i, rfl, hi, hRi, hbr⟩ := hrel
    clear hR0
    have HBR := Lib.hid hbr
    by_cases hlt : i < g.es.length
    · have hbi : (i : Int) + 1 ≤ 9223372036854775807 := by omega
      obtain ⟨b, o, rfl, hrw⟩ := HR.out.resolve_left (by omega)
      obtain ⟨k0, k1, k2, k3, k4, k5, k6, k7, k8, k9⟩ := eds_at hrw i hlt
      have kk := keeps_below hbr
      have m0 := kk _ _ _ k0
      have m1 := kk _ _ _ k1
      have m2 := kk _ _ _ k2
      have m3 := kk _ _ _ k3
      have m4 := kk _ _ _ k4
      have m5 := kk _ _ _ k5
      have m6 := kk _ _ _ k6
      have m7 := kk _ _ _ k7
      have m8 := kk _ _ _ k8
      have m9 := kk _ _ _ k9
      rw [all_drop PR g.es i hlt] at hRi
      obtain ⟨e, he⟩ : ∃ e, g.es[i] = e := ⟨_, rfl⟩
      rw [he] at m0 m1 m2 m3 m4 m5 m6 m7 m8 m9 hRi
      have HS := Lib.hid (fun w' (hb : Below w.heap.size w w') => HRT.out e w' hb)
      rw [HP.out e] at HS
      obtain ⟨B, hB⟩ : ∃ B, PR e = B := ⟨_, rfl⟩
      rw [hB] at hRi HS
      have HRI := Lib.hid hRi
      clear hbr hrw k0 k1 k2 k3 k4 k5 k6 k7 k8 k9 kk he hB hRi
      cases B with
      | false =>
        go_wp2_with (first | (go_at_call 73; (with_reducible refine (HS.out _ (HBR.out.alloc HBR.out.size _)).mono ?_); rintro e w2 ⟨rfl, hb2⟩) | fail)
        go_ret
        exact ⟨by rw [HRI.out]; rfl, (HBR.out.alloc HBR.out.size _).trans (hb2.mono (HBR.out.alloc HBR.out.size _).size)⟩
      | true =>
        go_wp2_with (first | (go_at_call 73; (with_reducible refine (HS.out _ (HBR.out.alloc HBR.out.size _)).mono ?_); rintro e w2 ⟨rfl, hb2⟩) | fail)
        go_roundw
        case rel => exact ⟨i + 1, by go_num, by omega, by rw [HRI.out]; rfl, (HBR.out.alloc HBR.out.size _).trans (hb2.mono (HBR.out.alloc HBR.out.size _).size)⟩
        case measure => simp [intOf]; omega
    · obtain rfl : i = g.es.length := by omega
      clear hbr
      go_wp2_with fail
      go_ret
      exact ⟨by rw [hRi, List.drop_length]; rfl, HBR.out⟩
theorem bel_drewN {B : Nat} {a w : World} (h : Below B a w) (n : Nat) : Below B a (w.drewN n) := ⟨h.os, h.tape, h.output, h.size, h.block⟩
theorem right_fr {g : Gf} (h : rightG g = true) : ∀ e ∈ g.es, 0 ≤ e.fr ∧ e.fr < g.pts := by
  intro e he
  have h2 := List.all_eq_true.1 h e he
  unfold edR endR at h2
  simp only [Bool.and_eq_true] at h2
  exact amg_true h2.2.1.1.1.1.1
set_option maxRecDepth 100000 in
set_option maxHeartbeats 8000000 in
theorem formed_any (g : Gf) (av aa ae : Option Addr) (cv ca ce : Nat) (w : World) (hg : GrIn w g (.slice av g.vs.length cv) (.slice aa g.ar.length ca) (.slice ae g.es.length ce)) (htab : TabF w) (h0 : 0 ≤ g.nv) (h1 : g.nv ≤ 1099511627776) (hp1 : 1 ≤ g.pts) (hp2 : g.pts ≤ 4096) (hne : g.es.length ≤ 8192) :
    Calls Tryz.prog 48 #[grS g av cv aa ca ae ce] w (fun e w' => e = .returned (.bool (frm g)) ∧ Below w.heap.size w w') := by
  obtain ⟨n, hn⟩ : ∃ n : Nat, g.pts = n := ⟨g.pts.toNat, by omega⟩
  have hgn : g.n = n := by unfold Gf.n; omega
  obtain ⟨W1, hW1⟩ : ∃ W1, w.alloc (.cells (grB g av cv aa ca ae ce) 30) = W1 := ⟨_, rfl⟩
  obtain ⟨X, hX⟩ : ∃ X, w.heap.size = X := ⟨_, rfl⟩
  obtain ⟨W2, hW2⟩ : ∃ W2, W1.alloc (.cells (grB g av cv aa ca ae ce) 144) = W2 := ⟨_, rfl⟩
  obtain ⟨Y, hY⟩ : ∃ Y, W1.heap.size = Y := ⟨_, rfl⟩
  have hx1 : Blk W1 X (grB g av cv aa ca ae ce) 30 := by rw [← hW1, ← hX]; exact Blk.new w _ _
  have hb1 : Below w.heap.size w W1 := by rw [← hW1]; exact (Below.refl _ w).alloc (Nat.le_refl _) _
  have hx : Blk W2 X (grB g av cv aa ca ae ce) 30 := by rw [← hW2]; exact hx1.alloc _
  have hy : Blk W2 Y (grB g av cv aa ca ae ce) 144 := by rw [← hW2, ← hY]; exact Blk.new _ _ _
  have hb2 : Below w.heap.size w W2 := by rw [← hW2]; exact hb1.alloc hb1.size _
  have hg2 := hg.next hb2
  have htab2 := htab.next hb2
  have HDC := Lib.hid (all_decl g.ar _ W2 hg2.ar)
  have HAM := fun w => among_any g.ext g.pts w
  have HED := Lib.hid (fun w' (hb : Below W2.heap.size W2 w') => all_edge g av aa ae cv ca ce h0 h1 w' (hg2.next hb).es (htab2.next hb))
  have HFR := Lib.hid (fun w' (hb : Below W2.heap.size W2 w') hr => efrom_any g av aa ae cv ca ce n hn (by omega) hne w' (hg2.next hb).es (right_fr hr))
  have HRW := Lib.hid (fun L vs w' (hb : Below W2.heap.size W2 w') hr => all_rows g av aa ae cv ca ce n L vs w' hr (hg2.next hb).es (by omega) hne)
  have hfk : forkG g = (List.range n).all fun p => tog g.es (outL g.es p) := by unfold forkG; rw [hgn]
  have hfrm : frm g = (sizedG g && amg g.ext g.pts && rightG g && forkG g) := rfl
  rw [hfrm, hfk]
  have hsz : sizedG g = (decide (g.ar.length ≤ 16) && g.ar.all szD) := rfl
  have d16 : decide ((g.ar.length : Int) ≤ 16) = decide (g.ar.length ≤ 16) := decide_eq_decide.2 (by omega)
  obtain ⟨D16, hD16⟩ : ∃ b, decide (g.ar.length ≤ 16) = b := ⟨_, rfl⟩
  obtain ⟨AD, hAD⟩ : ∃ b, g.ar.all szD = b := ⟨_, rfl⟩
  rw [hD16] at d16
  rw [hD16, hAD] at hsz
  rw [hAD] at HDC
  obtain ⟨SZ, hSZ⟩ : ∃ b, sizedG g = b := ⟨_, rfl⟩
  rw [hSZ] at hsz ⊢
  obtain ⟨AM, hAM⟩ : ∃ b, amg g.ext g.pts = b := ⟨_, rfl⟩
  rw [hAM] at HAM ⊢
  obtain ⟨RB, hRB⟩ : ∃ b, rightG g = b := ⟨_, rfl⟩
  rw [hRB] at HED HFR ⊢
  obtain ⟨FK, hFK⟩ : ∃ b, ((List.range n).all fun p => tog g.es (outL g.es p)) = b := ⟨_, rfl⟩
  rw [hFK] at HRW ⊢
  have xc := fun w' (hW : Below W2.heap.size W2 w') => (hx.below hW hx.lt)
  have yc := fun w' (hW : Below W2.heap.size W2 w') => (hy.below hW hy.lt)
  have x1 : ∀ i, W1.cell? ⟨X, i, none⟩ = (grB g av cv aa ca ae ce)[i]? := fun i => hx1.cell i
  have x2 : W2.cell? ⟨X, 2, none⟩ = some (.slice aa g.ar.length ca) := hx.cell 2
  have H2 := Lib.hid (And.intro hb2 (And.intro xc yc))
  have HE := Lib.hid (And.intro hW1 (And.intro hX (And.intro hW2 hY)))
  clear hn hgn hW1 hX hW2 hY hx1 hb1 hx hy hb2 hg2 htab2 hg htab h0 h1 hp1 hp2 hne hfk hfrm hD16 hAD hSZ hAM hRB hFK xc yc
  go_enter Tryz.func48, Tryz.ntmps48
  go_upto_region 1 with fail
  rw [HE.out.1, HE.out.2.1]
  go_upto_region 2 with fail
  rw [HE.out.2.2.1, HE.out.2.2.2]
  clear x1
  go_cut [4] (fun s wx => s = .bool SZ ∧ Below W2.heap.size W2 wx)
  case first =>
    cases D16
    · go_wp2_with fail
      go_meet
      exact ⟨by rw [hsz]; rfl, Below.refl _ _⟩
    · go_wp2_with (first | (go_at_call 70; (with_reducible refine HDC.out.mono ?_); rintro e w3 ⟨rfl, hb3⟩) | fail)
      go_meet
      exact ⟨by rw [hsz]; rfl, hb3⟩
  case rest =>
    obtain ⟨rfl, hbc⟩ := hcut
    clear x2 HDC d16 hsz
    have KS := fun w' (hW : Below wc.heap.size wc w') => (⟨(H2.out.2.1 _ (bel hbc hW)).cell 0, (H2.out.2.1 _ (bel hbc hW)).cell 1, (H2.out.2.1 _ (bel hbc hW)).cell 2, (H2.out.2.1 _ (bel hbc hW)).cell 3, (H2.out.2.1 _ (bel hbc hW)).cell 4, (H2.out.2.1 _ (bel hbc hW)).cell 5, (H2.out.2.2 _ (bel hbc hW)).cell 0, (H2.out.2.2 _ (bel hbc hW)).cell 1, (H2.out.2.2 _ (bel hbc hW)).cell 2, (H2.out.2.2 _ (bel hbc hW)).cell 3, (H2.out.2.2 _ (bel hbc hW)).cell 4, (H2.out.2.2 _ (bel hbc hW)).cell 5, hW⟩ : (fun w' => w'.cell? ⟨X, 0, none⟩ = some (.slice av g.vs.length cv) ∧ w'.cell? ⟨X, 1, none⟩ = some (.int .i64 g.tmp) ∧ w'.cell? ⟨X, 2, none⟩ = some (.slice aa g.ar.length ca) ∧ w'.cell? ⟨X, 3, none⟩ = some (.int .i64 g.pts) ∧ w'.cell? ⟨X, 4, none⟩ = some (.int .i64 g.ext) ∧ w'.cell? ⟨X, 5, none⟩ = some (.slice ae g.es.length ce) ∧ w'.cell? ⟨Y, 0, none⟩ = some (.slice av g.vs.length cv) ∧ w'.cell? ⟨Y, 1, none⟩ = some (.int .i64 g.tmp) ∧ w'.cell? ⟨Y, 2, none⟩ = some (.slice aa g.ar.length ca) ∧ w'.cell? ⟨Y, 3, none⟩ = some (.int .i64 g.pts) ∧ w'.cell? ⟨Y, 4, none⟩ = some (.int .i64 g.ext) ∧ w'.cell? ⟨Y, 5, none⟩ = some (.slice ae g.es.length ce) ∧ Below wc.heap.size wc w') w')
    obtain ⟨s0, s1, s2, s3, s4, s5, s6, s7, s8, s9, s10, s11, -⟩ := KS wc (Below.refl _ _)
    have HBC := Lib.hid hbc
    clear hbc
    go_upto_region 3 with fail
    have hcase : SZ = false ∨ (SZ = true ∧ AM = false) ∨ (SZ = true ∧ AM = true ∧ RB = false) ∨ (SZ = true ∧ AM = true ∧ RB = true) := by cases SZ <;> cases AM <;> cases RB <;> simp
    rcases hcase with rfl | ⟨rfl, rfl⟩ | ⟨rfl, rfl, rfl⟩ | ⟨rfl, rfl, rfl⟩
    · go_quiet (fail)
      go_wp2_with fail
      go_ret
      exact ⟨rfl, bel_drewN (bel H2.out.1 HBC.out) _⟩
    · refine wp_region_any (by kernel_rfl) ?_
      refine wpAny_vals [15, 16, 17, 18, 19, 20, 21, 22, 23, 24, 25, 26, 27, 28, 29, 30, 31, 32, 33, 34, 35, 36, 2] [.bool true, .bool true, .pointer (some ⟨X, 4, none⟩), .int .i64 g.ext, .pointer (some ⟨X, 3, none⟩), .int .i64 g.pts, .bool false, .bool false, .bool false, undef, undef, undef, undef, undef, .bool false, .bool false, undef, undef, undef, undef, undef, .bool false, .bool false] (fun w' => Below wc.heap.size wc w') rfl (by kernel_rfl) (by decide) (by kernel_rfl) ?hs ?he ?hj
      case hj => exact (Below.refl _ _).drew
      case hs =>
        intro i o ho fr0 hv hx w' hJ
        have hi : i < 23 := (Array.getElem?_eq_some_iff.1 ho).1
        obtain ⟨c0, c1, c2, c3, c4, c5, c6, c7, c8, c9, c10, c11, -⟩ := KS w' hJ
        have HJ := Lib.hid hJ
        clear hJ
        have hcase : i = 0 ∨ i = 1 ∨ i = 2 ∨ i = 3 ∨ i = 4 ∨ i = 5 ∨ i = 6 ∨ i = 7 ∨ i = 8 ∨ i = 9 ∨ i = 10 ∨ i = 11 ∨ i = 12 ∨ i = 13 ∨ i = 14 ∨ i = 15 ∨ i = 16 ∨ i = 17 ∨ i = 18 ∨ i = 19 ∨ i = 20 ∨ i = 21 ∨ i = 22 := by omega
        clear hi
        rcases hcase with rfl | rfl | rfl | rfl | rfl | rfl | rfl | rfl | rfl | rfl | rfl | rfl | rfl | rfl | rfl | rfl | rfl | rfl | rfl | rfl | rfl | rfl | rfl
        · obtain rfl := Option.some.inj ho.symm
          clear ho
          have x4 : fr0.tmps[(4 : Nat)]? = some (.bool true) := hx 4 (by decide)
          clear hv hx
          refine wpOp_step rfl (fun K hK => ?_)
          go_simp
          exact hK _ _ ⟨rfl, HJ.out⟩
        · obtain rfl := Option.some.inj ho.symm
          clear ho
          have d0 : fr0.tmps[(15 : Nat)]? = some (.bool true) := hv ⟨0, .data⟩ (by simp) rfl
          clear hv hx
          refine wpOp_step rfl (fun K hK => ?_)
          go_simp
          exact hK _ _ ⟨rfl, HJ.out⟩
        · obtain rfl := Option.some.inj ho.symm
          clear ho
          have d1 : fr0.tmps[(16 : Nat)]? = some (.bool true) := hv ⟨1, .guard⟩ (by simp) rfl
          have x1 : fr0.tmps[(1 : Nat)]? = some (.pointer (some ⟨X, 0, none⟩)) := hx 1 (by decide)
          clear hv hx
          refine wpOp_step rfl (fun K hK => ?_)
          go_simp
          exact hK _ _ ⟨rfl, HJ.out⟩
        · obtain rfl := Option.some.inj ho.symm
          clear ho
          have d2 : fr0.tmps[(17 : Nat)]? = some (.pointer (some ⟨X, 4, none⟩)) := hv ⟨2, .data⟩ (by simp) rfl
          have d1 : fr0.tmps[(16 : Nat)]? = some (.bool true) := hv ⟨1, .guard⟩ (by simp) rfl
          clear hv hx
          refine wpOp_step rfl (fun K hK => ?_)
          go_simp
          exact hK _ _ ⟨rfl, HJ.out⟩
        · obtain rfl := Option.some.inj ho.symm
          clear ho
          have d1 : fr0.tmps[(16 : Nat)]? = some (.bool true) := hv ⟨1, .guard⟩ (by simp) rfl
          have x1 : fr0.tmps[(1 : Nat)]? = some (.pointer (some ⟨X, 0, none⟩)) := hx 1 (by decide)
          clear hv hx
          refine wpOp_step rfl (fun K hK => ?_)
          go_simp
          exact hK _ _ ⟨rfl, HJ.out⟩
        · obtain rfl := Option.some.inj ho.symm
          clear ho
          have d4 : fr0.tmps[(19 : Nat)]? = some (.pointer (some ⟨X, 3, none⟩)) := hv ⟨4, .data⟩ (by simp) rfl
          have d1 : fr0.tmps[(16 : Nat)]? = some (.bool true) := hv ⟨1, .guard⟩ (by simp) rfl
          clear hv hx
          refine wpOp_step rfl (fun K hK => ?_)
          go_simp
          exact hK _ _ ⟨rfl, HJ.out⟩
        · obtain rfl := Option.some.inj ho.symm
          clear ho
          have d3 : fr0.tmps[(18 : Nat)]? = some (.int .i64 g.ext) := hv ⟨3, .data⟩ (by simp) rfl
          have d5 : fr0.tmps[(20 : Nat)]? = some (.int .i64 g.pts) := hv ⟨5, .data⟩ (by simp) rfl
          have d1 : fr0.tmps[(16 : Nat)]? = some (.bool true) := hv ⟨1, .guard⟩ (by simp) rfl
          clear hv hx
          refine wpOp_step rfl (fun K hK => ?_)
          go_simp
          refine (HAM _).mono ?_
          rintro r w3 ⟨rfl, rfl⟩
          exact hK _ _ ⟨rfl, HJ.out⟩
        · obtain rfl := Option.some.inj ho.symm
          clear ho
          have d1 : fr0.tmps[(16 : Nat)]? = some (.bool true) := hv ⟨1, .data⟩ (by simp) rfl
          have d6 : fr0.tmps[(21 : Nat)]? = some (.bool false) := hv ⟨6, .data⟩ (by simp) rfl
          clear hv hx
          refine wpOp_step rfl (fun K hK => ?_)
          go_simp
          exact hK _ _ ⟨rfl, HJ.out⟩
        · obtain rfl := Option.some.inj ho.symm
          clear ho
          have d7 : fr0.tmps[(22 : Nat)]? = some (.bool false) := hv ⟨7, .data⟩ (by simp) rfl
          clear hv hx
          refine wpOp_step rfl (fun K hK => ?_)
          go_simp
          exact hK _ _ ⟨rfl, HJ.out⟩
        · obtain rfl := Option.some.inj ho.symm
          clear ho
          have d8 : fr0.tmps[(23 : Nat)]? = some (.bool false) := hv ⟨8, .guard⟩ (by simp) rfl
          have x1 : fr0.tmps[(1 : Nat)]? = some (.pointer (some ⟨X, 0, none⟩)) := hx 1 (by decide)
          clear hv hx
          refine wpOp_step rfl (fun K hK => ?_)
          go_simp
          exact hK _ _ ⟨rfl, HJ.out⟩
        · obtain rfl := Option.some.inj ho.symm
          clear ho
          have d9 : fr0.tmps[(24 : Nat)]? = some (undef) := hv ⟨9, .data⟩ (by simp) rfl
          have d8 : fr0.tmps[(23 : Nat)]? = some (.bool false) := hv ⟨8, .guard⟩ (by simp) rfl
          clear hv hx
          refine wpOp_step rfl (fun K hK => ?_)
          go_simp
          exact hK _ _ ⟨rfl, HJ.out⟩
        · obtain rfl := Option.some.inj ho.symm
          clear ho
          have d8 : fr0.tmps[(23 : Nat)]? = some (.bool false) := hv ⟨8, .guard⟩ (by simp) rfl
          have x3 : fr0.tmps[(3 : Nat)]? = some (.pointer (some ⟨Y, 0, none⟩)) := hx 3 (by decide)
          clear hv hx
          refine wpOp_step rfl (fun K hK => ?_)
          go_simp
          exact hK _ _ ⟨rfl, HJ.out⟩
        · obtain rfl := Option.some.inj ho.symm
          clear ho
          have d11 : fr0.tmps[(26 : Nat)]? = some (undef) := hv ⟨11, .data⟩ (by simp) rfl
          have d8 : fr0.tmps[(23 : Nat)]? = some (.bool false) := hv ⟨8, .guard⟩ (by simp) rfl
          clear hv hx
          refine wpOp_step rfl (fun K hK => ?_)
          go_simp
          exact hK _ _ ⟨rfl, HJ.out⟩
        · obtain rfl := Option.some.inj ho.symm
          clear ho
          have d10 : fr0.tmps[(25 : Nat)]? = some (undef) := hv ⟨10, .data⟩ (by simp) rfl
          have d12 : fr0.tmps[(27 : Nat)]? = some (undef) := hv ⟨12, .data⟩ (by simp) rfl
          have d8 : fr0.tmps[(23 : Nat)]? = some (.bool false) := hv ⟨8, .guard⟩ (by simp) rfl
          clear hv hx
          refine wpOp_step rfl (fun K hK => ?_)
          go_simp
          exact hK _ _ ⟨rfl, HJ.out⟩
        · obtain rfl := Option.some.inj ho.symm
          clear ho
          have d8 : fr0.tmps[(23 : Nat)]? = some (.bool false) := hv ⟨8, .data⟩ (by simp) rfl
          have d13 : fr0.tmps[(28 : Nat)]? = some (undef) := hv ⟨13, .data⟩ (by simp) rfl
          clear hv hx
          refine wpOp_step rfl (fun K hK => ?_)
          go_simp
          exact hK _ _ ⟨rfl, HJ.out⟩
        · obtain rfl := Option.some.inj ho.symm
          clear ho
          have d14 : fr0.tmps[(29 : Nat)]? = some (.bool false) := hv ⟨14, .data⟩ (by simp) rfl
          clear hv hx
          refine wpOp_step rfl (fun K hK => ?_)
          go_simp
          exact hK _ _ ⟨rfl, HJ.out⟩
        · obtain rfl := Option.some.inj ho.symm
          clear ho
          have d15 : fr0.tmps[(30 : Nat)]? = some (.bool false) := hv ⟨15, .guard⟩ (by simp) rfl
          have x1 : fr0.tmps[(1 : Nat)]? = some (.pointer (some ⟨X, 0, none⟩)) := hx 1 (by decide)
          clear hv hx
          refine wpOp_step rfl (fun K hK => ?_)
          go_simp
          exact hK _ _ ⟨rfl, HJ.out⟩
        · obtain rfl := Option.some.inj ho.symm
          clear ho
          have d16 : fr0.tmps[(31 : Nat)]? = some (undef) := hv ⟨16, .data⟩ (by simp) rfl
          have d15 : fr0.tmps[(30 : Nat)]? = some (.bool false) := hv ⟨15, .guard⟩ (by simp) rfl
          clear hv hx
          refine wpOp_step rfl (fun K hK => ?_)
          go_simp
          exact hK _ _ ⟨rfl, HJ.out⟩
        · obtain rfl := Option.some.inj ho.symm
          clear ho
          have d15 : fr0.tmps[(30 : Nat)]? = some (.bool false) := hv ⟨15, .guard⟩ (by simp) rfl
          have x3 : fr0.tmps[(3 : Nat)]? = some (.pointer (some ⟨Y, 0, none⟩)) := hx 3 (by decide)
          clear hv hx
          refine wpOp_step rfl (fun K hK => ?_)
          go_simp
          exact hK _ _ ⟨rfl, HJ.out⟩
        · obtain rfl := Option.some.inj ho.symm
          clear ho
          have d18 : fr0.tmps[(33 : Nat)]? = some (undef) := hv ⟨18, .data⟩ (by simp) rfl
          have d15 : fr0.tmps[(30 : Nat)]? = some (.bool false) := hv ⟨15, .guard⟩ (by simp) rfl
          clear hv hx
          refine wpOp_step rfl (fun K hK => ?_)
          go_simp
          exact hK _ _ ⟨rfl, HJ.out⟩
        · obtain rfl := Option.some.inj ho.symm
          clear ho
          have d17 : fr0.tmps[(32 : Nat)]? = some (undef) := hv ⟨17, .data⟩ (by simp) rfl
          have d19 : fr0.tmps[(34 : Nat)]? = some (undef) := hv ⟨19, .data⟩ (by simp) rfl
          have d15 : fr0.tmps[(30 : Nat)]? = some (.bool false) := hv ⟨15, .guard⟩ (by simp) rfl
          clear hv hx
          refine wpOp_step rfl (fun K hK => ?_)
          go_simp
          exact hK _ _ ⟨rfl, HJ.out⟩
        · obtain rfl := Option.some.inj ho.symm
          clear ho
          have d15 : fr0.tmps[(30 : Nat)]? = some (.bool false) := hv ⟨15, .data⟩ (by simp) rfl
          have d20 : fr0.tmps[(35 : Nat)]? = some (undef) := hv ⟨20, .data⟩ (by simp) rfl
          clear hv hx
          refine wpOp_step rfl (fun K hK => ?_)
          go_simp
          exact hK _ _ ⟨rfl, HJ.out⟩
        · obtain rfl := Option.some.inj ho.symm
          clear ho
          have d21 : fr0.tmps[(36 : Nat)]? = some (.bool false) := hv ⟨21, .data⟩ (by simp) rfl
          clear hv hx
          refine wpOp_step rfl (fun K hK => ?_)
          go_simp
          exact hK _ _ ⟨rfl, HJ.out⟩
      case he =>
        intro w' hJ
        simp only [putF, valsAt, Nat.reduceAdd, Nat.zero_add, List.getD_cons_zero, List.getD_cons_succ, Act.put, List.setIfInBounds_toArray, List.set_cons_succ, List.set_cons_zero]
        go_wp2_with fail
        go_ret
        exact ⟨rfl, H2.out.1.trans ((bel HBC.out hJ).mono H2.out.1.size)⟩
    · refine wp_region_any (by kernel_rfl) ?_
      refine wpAny_vals [15, 16, 17, 18, 19, 20, 21, 22, 23, 24, 25, 26, 27, 28, 29, 30, 31, 32, 33, 34, 35, 36, 2] [.bool true, .bool true, .pointer (some ⟨X, 4, none⟩), .int .i64 g.ext, .pointer (some ⟨X, 3, none⟩), .int .i64 g.pts, .bool true, .bool true, .bool true, .pointer (some ⟨X, 5, none⟩), .slice ae g.es.length ce, .agg #[.slice av g.vs.length cv, .int .i64 g.tmp, .slice aa g.ar.length ca, .int .i64 g.pts, .int .i64 g.ext, .slice ae g.es.length ce], .func (.func 73) #[.agg #[.slice av g.vs.length cv, .int .i64 g.tmp, .slice aa g.ar.length ca, .int .i64 g.pts, .int .i64 g.ext, .slice ae g.es.length ce]] #[], .bool false, .bool false, .bool false, undef, undef, undef, undef, undef, .bool false, .bool false] (fun w' => Below wc.heap.size wc w') rfl (by kernel_rfl) (by decide) (by kernel_rfl) ?hs ?he ?hj
      case hj => exact (Below.refl _ _).drew
      case hs =>
        intro i o ho fr0 hv hx w' hJ
        have hi : i < 23 := (Array.getElem?_eq_some_iff.1 ho).1
        obtain ⟨c0, c1, c2, c3, c4, c5, c6, c7, c8, c9, c10, c11, -⟩ := KS w' hJ
        have HJ := Lib.hid hJ
        clear hJ
        have hcase : i = 0 ∨ i = 1 ∨ i = 2 ∨ i = 3 ∨ i = 4 ∨ i = 5 ∨ i = 6 ∨ i = 7 ∨ i = 8 ∨ i = 9 ∨ i = 10 ∨ i = 11 ∨ i = 12 ∨ i = 13 ∨ i = 14 ∨ i = 15 ∨ i = 16 ∨ i = 17 ∨ i = 18 ∨ i = 19 ∨ i = 20 ∨ i = 21 ∨ i = 22 := by omega
        clear hi
        rcases hcase with rfl | rfl | rfl | rfl | rfl | rfl | rfl | rfl | rfl | rfl | rfl | rfl | rfl | rfl | rfl | rfl | rfl | rfl | rfl | rfl | rfl | rfl | rfl
        · obtain rfl := Option.some.inj ho.symm
          clear ho
          have x4 : fr0.tmps[(4 : Nat)]? = some (.bool true) := hx 4 (by decide)
          clear hv hx
          refine wpOp_step rfl (fun K hK => ?_)
          go_simp
          exact hK _ _ ⟨rfl, HJ.out⟩
        · obtain rfl := Option.some.inj ho.symm
          clear ho
          have d0 : fr0.tmps[(15 : Nat)]? = some (.bool true) := hv ⟨0, .data⟩ (by simp) rfl
          clear hv hx
          refine wpOp_step rfl (fun K hK => ?_)
          go_simp
          exact hK _ _ ⟨rfl, HJ.out⟩
        · obtain rfl := Option.some.inj ho.symm
          clear ho
          have d1 : fr0.tmps[(16 : Nat)]? = some (.bool true) := hv ⟨1, .guard⟩ (by simp) rfl
          have x1 : fr0.tmps[(1 : Nat)]? = some (.pointer (some ⟨X, 0, none⟩)) := hx 1 (by decide)
          clear hv hx
          refine wpOp_step rfl (fun K hK => ?_)
          go_simp
          exact hK _ _ ⟨rfl, HJ.out⟩
        · obtain rfl := Option.some.inj ho.symm
          clear ho
          have d2 : fr0.tmps[(17 : Nat)]? = some (.pointer (some ⟨X, 4, none⟩)) := hv ⟨2, .data⟩ (by simp) rfl
          have d1 : fr0.tmps[(16 : Nat)]? = some (.bool true) := hv ⟨1, .guard⟩ (by simp) rfl
          clear hv hx
          refine wpOp_step rfl (fun K hK => ?_)
          go_simp
          exact hK _ _ ⟨rfl, HJ.out⟩
        · obtain rfl := Option.some.inj ho.symm
          clear ho
          have d1 : fr0.tmps[(16 : Nat)]? = some (.bool true) := hv ⟨1, .guard⟩ (by simp) rfl
          have x1 : fr0.tmps[(1 : Nat)]? = some (.pointer (some ⟨X, 0, none⟩)) := hx 1 (by decide)
          clear hv hx
          refine wpOp_step rfl (fun K hK => ?_)
          go_simp
          exact hK _ _ ⟨rfl, HJ.out⟩
        · obtain rfl := Option.some.inj ho.symm
          clear ho
          have d4 : fr0.tmps[(19 : Nat)]? = some (.pointer (some ⟨X, 3, none⟩)) := hv ⟨4, .data⟩ (by simp) rfl
          have d1 : fr0.tmps[(16 : Nat)]? = some (.bool true) := hv ⟨1, .guard⟩ (by simp) rfl
          clear hv hx
          refine wpOp_step rfl (fun K hK => ?_)
          go_simp
          exact hK _ _ ⟨rfl, HJ.out⟩
        · obtain rfl := Option.some.inj ho.symm
          clear ho
          have d3 : fr0.tmps[(18 : Nat)]? = some (.int .i64 g.ext) := hv ⟨3, .data⟩ (by simp) rfl
          have d5 : fr0.tmps[(20 : Nat)]? = some (.int .i64 g.pts) := hv ⟨5, .data⟩ (by simp) rfl
          have d1 : fr0.tmps[(16 : Nat)]? = some (.bool true) := hv ⟨1, .guard⟩ (by simp) rfl
          clear hv hx
          refine wpOp_step rfl (fun K hK => ?_)
          go_simp
          refine (HAM _).mono ?_
          rintro r w3 ⟨rfl, rfl⟩
          exact hK _ _ ⟨rfl, HJ.out⟩
        · obtain rfl := Option.some.inj ho.symm
          clear ho
          have d1 : fr0.tmps[(16 : Nat)]? = some (.bool true) := hv ⟨1, .data⟩ (by simp) rfl
          have d6 : fr0.tmps[(21 : Nat)]? = some (.bool true) := hv ⟨6, .data⟩ (by simp) rfl
          clear hv hx
          refine wpOp_step rfl (fun K hK => ?_)
          go_simp
          exact hK _ _ ⟨rfl, HJ.out⟩
        · obtain rfl := Option.some.inj ho.symm
          clear ho
          have d7 : fr0.tmps[(22 : Nat)]? = some (.bool true) := hv ⟨7, .data⟩ (by simp) rfl
          clear hv hx
          refine wpOp_step rfl (fun K hK => ?_)
          go_simp
          exact hK _ _ ⟨rfl, HJ.out⟩
        · obtain rfl := Option.some.inj ho.symm
          clear ho
          have d8 : fr0.tmps[(23 : Nat)]? = some (.bool true) := hv ⟨8, .guard⟩ (by simp) rfl
          have x1 : fr0.tmps[(1 : Nat)]? = some (.pointer (some ⟨X, 0, none⟩)) := hx 1 (by decide)
          clear hv hx
          refine wpOp_step rfl (fun K hK => ?_)
          go_simp
          exact hK _ _ ⟨rfl, HJ.out⟩
        · obtain rfl := Option.some.inj ho.symm
          clear ho
          have d9 : fr0.tmps[(24 : Nat)]? = some (.pointer (some ⟨X, 5, none⟩)) := hv ⟨9, .data⟩ (by simp) rfl
          have d8 : fr0.tmps[(23 : Nat)]? = some (.bool true) := hv ⟨8, .guard⟩ (by simp) rfl
          clear hv hx
          refine wpOp_step rfl (fun K hK => ?_)
          go_simp
          exact hK _ _ ⟨rfl, HJ.out⟩
        · obtain rfl := Option.some.inj ho.symm
          clear ho
          have d8 : fr0.tmps[(23 : Nat)]? = some (.bool true) := hv ⟨8, .guard⟩ (by simp) rfl
          have x3 : fr0.tmps[(3 : Nat)]? = some (.pointer (some ⟨Y, 0, none⟩)) := hx 3 (by decide)
          clear hv hx
          refine wpOp_step rfl (fun K hK => ?_)
          go_simp
          exact hK _ _ ⟨rfl, HJ.out⟩
        · obtain rfl := Option.some.inj ho.symm
          clear ho
          have d11 : fr0.tmps[(26 : Nat)]? = some (.agg #[.slice av g.vs.length cv, .int .i64 g.tmp, .slice aa g.ar.length ca, .int .i64 g.pts, .int .i64 g.ext, .slice ae g.es.length ce]) := hv ⟨11, .data⟩ (by simp) rfl
          have d8 : fr0.tmps[(23 : Nat)]? = some (.bool true) := hv ⟨8, .guard⟩ (by simp) rfl
          clear hv hx
          refine wpOp_step rfl (fun K hK => ?_)
          go_simp
          exact hK _ _ ⟨rfl, HJ.out⟩
        · obtain rfl := Option.some.inj ho.symm
          clear ho
          have d10 : fr0.tmps[(25 : Nat)]? = some (.slice ae g.es.length ce) := hv ⟨10, .data⟩ (by simp) rfl
          have d12 : fr0.tmps[(27 : Nat)]? = some (.func (.func 73) #[.agg #[.slice av g.vs.length cv, .int .i64 g.tmp, .slice aa g.ar.length ca, .int .i64 g.pts, .int .i64 g.ext, .slice ae g.es.length ce]] #[]) := hv ⟨12, .data⟩ (by simp) rfl
          have d8 : fr0.tmps[(23 : Nat)]? = some (.bool true) := hv ⟨8, .guard⟩ (by simp) rfl
          clear hv hx
          refine wpOp_step rfl (fun K hK => ?_)
          go_simp
          refine (HED.out _ (bel HBC.out HJ.out)).mono ?_
          rintro r w3 ⟨rfl, hb3⟩
          exact hK _ _ ⟨rfl, HJ.out.trans (hb3.mono HJ.out.size)⟩
        · obtain rfl := Option.some.inj ho.symm
          clear ho
          have d8 : fr0.tmps[(23 : Nat)]? = some (.bool true) := hv ⟨8, .data⟩ (by simp) rfl
          have d13 : fr0.tmps[(28 : Nat)]? = some (.bool false) := hv ⟨13, .data⟩ (by simp) rfl
          clear hv hx
          refine wpOp_step rfl (fun K hK => ?_)
          go_simp
          exact hK _ _ ⟨rfl, HJ.out⟩
        · obtain rfl := Option.some.inj ho.symm
          clear ho
          have d14 : fr0.tmps[(29 : Nat)]? = some (.bool false) := hv ⟨14, .data⟩ (by simp) rfl
          clear hv hx
          refine wpOp_step rfl (fun K hK => ?_)
          go_simp
          exact hK _ _ ⟨rfl, HJ.out⟩
        · obtain rfl := Option.some.inj ho.symm
          clear ho
          have d15 : fr0.tmps[(30 : Nat)]? = some (.bool false) := hv ⟨15, .guard⟩ (by simp) rfl
          have x1 : fr0.tmps[(1 : Nat)]? = some (.pointer (some ⟨X, 0, none⟩)) := hx 1 (by decide)
          clear hv hx
          refine wpOp_step rfl (fun K hK => ?_)
          go_simp
          exact hK _ _ ⟨rfl, HJ.out⟩
        · obtain rfl := Option.some.inj ho.symm
          clear ho
          have d16 : fr0.tmps[(31 : Nat)]? = some (undef) := hv ⟨16, .data⟩ (by simp) rfl
          have d15 : fr0.tmps[(30 : Nat)]? = some (.bool false) := hv ⟨15, .guard⟩ (by simp) rfl
          clear hv hx
          refine wpOp_step rfl (fun K hK => ?_)
          go_simp
          exact hK _ _ ⟨rfl, HJ.out⟩
        · obtain rfl := Option.some.inj ho.symm
          clear ho
          have d15 : fr0.tmps[(30 : Nat)]? = some (.bool false) := hv ⟨15, .guard⟩ (by simp) rfl
          have x3 : fr0.tmps[(3 : Nat)]? = some (.pointer (some ⟨Y, 0, none⟩)) := hx 3 (by decide)
          clear hv hx
          refine wpOp_step rfl (fun K hK => ?_)
          go_simp
          exact hK _ _ ⟨rfl, HJ.out⟩
        · obtain rfl := Option.some.inj ho.symm
          clear ho
          have d18 : fr0.tmps[(33 : Nat)]? = some (undef) := hv ⟨18, .data⟩ (by simp) rfl
          have d15 : fr0.tmps[(30 : Nat)]? = some (.bool false) := hv ⟨15, .guard⟩ (by simp) rfl
          clear hv hx
          refine wpOp_step rfl (fun K hK => ?_)
          go_simp
          exact hK _ _ ⟨rfl, HJ.out⟩
        · obtain rfl := Option.some.inj ho.symm
          clear ho
          have d17 : fr0.tmps[(32 : Nat)]? = some (undef) := hv ⟨17, .data⟩ (by simp) rfl
          have d19 : fr0.tmps[(34 : Nat)]? = some (undef) := hv ⟨19, .data⟩ (by simp) rfl
          have d15 : fr0.tmps[(30 : Nat)]? = some (.bool false) := hv ⟨15, .guard⟩ (by simp) rfl
          clear hv hx
          refine wpOp_step rfl (fun K hK => ?_)
          go_simp
          exact hK _ _ ⟨rfl, HJ.out⟩
        · obtain rfl := Option.some.inj ho.symm
          clear ho
          have d15 : fr0.tmps[(30 : Nat)]? = some (.bool false) := hv ⟨15, .data⟩ (by simp) rfl
          have d20 : fr0.tmps[(35 : Nat)]? = some (undef) := hv ⟨20, .data⟩ (by simp) rfl
          clear hv hx
          refine wpOp_step rfl (fun K hK => ?_)
          go_simp
          exact hK _ _ ⟨rfl, HJ.out⟩
        · obtain rfl := Option.some.inj ho.symm
          clear ho
          have d21 : fr0.tmps[(36 : Nat)]? = some (.bool false) := hv ⟨21, .data⟩ (by simp) rfl
          clear hv hx
          refine wpOp_step rfl (fun K hK => ?_)
          go_simp
          exact hK _ _ ⟨rfl, HJ.out⟩
      case he =>
        intro w' hJ
        simp only [putF, valsAt, Nat.reduceAdd, Nat.zero_add, List.getD_cons_zero, List.getD_cons_succ, Act.put, List.setIfInBounds_toArray, List.set_cons_succ, List.set_cons_zero]
        go_wp2_with fail
        go_ret
        exact ⟨rfl, H2.out.1.trans ((bel HBC.out hJ).mono H2.out.1.size)⟩
    · have HFR2 := Lib.hid (fun w' (hb : Below W2.heap.size W2 w') => HFR.out w' hb rfl)
      go_region_held3 (fun w' => w'.cell? ⟨X, 0, none⟩ = some (.slice av g.vs.length cv) ∧ w'.cell? ⟨X, 1, none⟩ = some (.int .i64 g.tmp) ∧ w'.cell? ⟨X, 2, none⟩ = some (.slice aa g.ar.length ca) ∧ w'.cell? ⟨X, 3, none⟩ = some (.int .i64 g.pts) ∧ w'.cell? ⟨X, 4, none⟩ = some (.int .i64 g.ext) ∧ w'.cell? ⟨X, 5, none⟩ = some (.slice ae g.es.length ce) ∧ w'.cell? ⟨Y, 0, none⟩ = some (.slice av g.vs.length cv) ∧ w'.cell? ⟨Y, 1, none⟩ = some (.int .i64 g.tmp) ∧ w'.cell? ⟨Y, 2, none⟩ = some (.slice aa g.ar.length ca) ∧ w'.cell? ⟨Y, 3, none⟩ = some (.int .i64 g.pts) ∧ w'.cell? ⟨Y, 4, none⟩ = some (.int .i64 g.ext) ∧ w'.cell? ⟨Y, 5, none⟩ = some (.slice ae g.es.length ce) ∧ Below wc.heap.size wc w')
          ((with_reducible refine KS _ ?_; repeat (with_reducible (first | exact Below.refl _ _ | refine below_drew ?_ | refine below_next ?_ hb5 | refine below_next ?_ hb4 | refine below_next ?_ hb3 | fail))))
          (first | (go_at_call 43; (with_reducible refine (HAM _).mono ?_); rintro e w2 ⟨rfl, rfl⟩) | (go_at_call 72; (with_reducible refine (HED.out _ (bel HBC.out (by repeat (with_reducible (first | exact Below.refl _ _ | refine below_drew ?_ | fail))))).mono ?_); rintro e w3 ⟨rfl, hb3⟩) | (go_at_call 44; (with_reducible refine (HFR2.out _ (bel HBC.out (by repeat (with_reducible (first | exact Below.refl _ _ | refine below_drew ?_ | refine below_next ?_ hb3 | fail))))).mono ?_); rintro e w4 ⟨L, vs, rfl, -, hrw, hb4⟩) | (go_at_call 74; (with_reducible refine (HRW.out L vs _ (bel HBC.out (by repeat (with_reducible (first | exact Below.refl _ _ | refine below_drew ?_ | refine below_next ?_ hb4 | refine below_next ?_ hb3 | fail)))) hrw).mono ?_); rintro e w5 ⟨rfl, hb5⟩))
      all_goals (go_wp2_with fail; go_ret; exact ⟨rfl, H2.out.1.trans ((bel HBC.out (by repeat (with_reducible (first | exact Below.refl _ _ | refine below_drew ?_ | refine below_next ?_ hb5 | refine below_next ?_ hb4 | refine below_next ?_ hb3 | fail)))).mono H2.out.1.size)⟩)
/-- What Check tells. -/
def chkG (g : Gf) : Int := if outF (g.vs.length : Int) g.tmp g.pts (g.es.length : Int) ≠ 0 then outF (g.vs.length : Int) g.tmp g.pts (g.es.length : Int) else if frm g then 0 else 92
theorem out_zero {nv tmp pts ne : Int} (h : outF nv tmp pts ne = 0) : 0 ≤ tmp ∧ tmp ≤ 64 - nv ∧ 1 ≤ pts ∧ pts ≤ 4096 ∧ ne ≤ 8192 := by
  unfold outF at h
  split at h
  · omega
  · split at h
    · omega
    · omega
theorem chk_zero {g : Gf} (h : chkG g = 0) : outF (g.vs.length : Int) g.tmp g.pts (g.es.length : Int) = 0 ∧ frm g = true := by
  unfold chkG at h
  split at h
  · rename_i h1; exact absurd h h1
  · rename_i h1
    split at h
    · rename_i h2; exact ⟨Decidable.not_not.1 h1, h2⟩
    · omega
set_option maxRecDepth 100000 in
set_option maxHeartbeats 8000000 in
theorem check_any (g : Gf) (av aa ae : Option Addr) (cv ca ce : Nat) (w : World) (hg : GrIn w g (.slice av g.vs.length cv) (.slice aa g.ar.length ca) (.slice ae g.es.length ce)) (hnv : g.vs.length ≤ 9223372036854775807) (htab : TabF w) :
    Calls Tryz.prog 16 #[grS g av cv aa ca ae ce] w (fun e w' => e = .returned (.int .i64 (chkG g)) ∧ Below w.heap.size w w') := by
  obtain ⟨W1, hW1⟩ : ∃ W1, w.alloc (.cells (grB g av cv aa ca ae ce) 30) = W1 := ⟨_, rfl⟩
  obtain ⟨X, hX⟩ : ∃ X, w.heap.size = X := ⟨_, rfl⟩
  have hx1 : Blk W1 X (grB g av cv aa ca ae ce) 30 := by rw [← hW1, ← hX]; exact Blk.new w _ _
  have hb1 : Below w.heap.size w W1 := by rw [← hW1]; exact (Below.refl _ w).alloc (Nat.le_refl _) _
  have HOG := Lib.hid (outgrown_any av aa ae g.vs.length cv g.ar.length ca g.es.length ce hnv g.tmp g.pts g.ext W1)
  have HFM := Lib.hid (fun w' (hb : Below w.heap.size w w') h0 h1 h2 h3 h4 => formed_any g av aa ae cv ca ce w' (hg.next hb) (htab.next hb) h0 h1 h2 h3 h4)
  obtain ⟨F, hF⟩ : ∃ f, outF (g.vs.length : Int) g.tmp g.pts (g.es.length : Int) = f := ⟨_, rfl⟩
  have hck : chkG g = if F ≠ 0 then F else if frm g then 0 else 92 := by rw [← hF]; rfl
  rw [hF] at HOG
  rw [hck]
  have x0 := hx1.cell 0
  have x1 := hx1.cell 1
  have x2 := hx1.cell 2
  have x3 := hx1.cell 3
  have x4 := hx1.cell 4
  have x5 := hx1.cell 5
  simp only [grB, List.getElem?_toArray, List.getElem?_cons_zero, List.getElem?_cons_succ] at x0 x1 x2 x3 x4 x5
  have H1 := Lib.hid (And.intro hx1 (And.intro hb1 hF))
  have HE := Lib.hid (And.intro hW1 hX)
  clear hx1 hb1 hW1 hX hg hnv htab hF hck
  by_cases hz : F = 0
  · subst hz
    obtain ⟨q1, q2, q3, q4, q5⟩ := out_zero H1.out.2.2
    have HFM2 := Lib.hid (fun w' (hb : Below w.heap.size w w') => HFM.out w' hb (show 0 ≤ g.nv by unfold Gf.nv; omega) (show g.nv ≤ 1099511627776 by unfold Gf.nv; omega) q3 q4 (by omega))
    obtain ⟨B, hB⟩ : ∃ b, frm g = b := ⟨_, rfl⟩
    rw [hB] at HFM2 ⊢
    clear hB HFM q1 q2 q3 q4 q5
    cases B
    all_goals
      go_enter Tryz.func16, Tryz.ntmps16
      go_upto_region 1 with fail
      rw [HE.out.1, HE.out.2]
      go_upto_region 4 with (first | (go_at_call 31; (with_reducible refine HOG.out.mono ?_); rintro e w2 ⟨rfl, hb2⟩; have z := (H1.out.1.next hb2).cell; have HB2 := Lib.hid (H1.out.2.1.trans (hb2.mono H1.out.2.1.size)); clear hb2 x0 x1 x2 x3 x4 x5) | fail)
      go_wp2_with (first | (go_at_call 48; (with_reducible refine (HFM2.out _ HB2.out).mono ?_); rintro e w3 ⟨rfl, hb3⟩) | fail)
      go_ret
      exact ⟨rfl, HB2.out.trans (hb3.mono HB2.out.size)⟩
  · have t1 : (F != 0) = true := by simpa using hz
    rw [if_pos hz]
    clear hz HFM
    go_enter Tryz.func16, Tryz.ntmps16
    go_upto_region 1 with fail
    rw [HE.out.1, HE.out.2]
    go_wp2_with (first | (go_at_call 31; (with_reducible refine HOG.out.mono ?_); rintro e w2 ⟨rfl, hb2⟩) | fail)
    go_ret
    exact ⟨rfl, H1.out.2.1.trans (hb2.mono H1.out.2.1.size)⟩
end Go.Proofs.YtjpopelbdhgidaaGreatDoor

/-
  Order: proved is that it answers the plain order of every graph that is one, or the error.
-/
namespace Go.Proofs.YtjpopelbdhgidaaGreatDoor
open Go Go.RowKit Go.Maps

theorem cellsN_enc (l : List Nat) : cellsN l = (l.map fun (x : Nat) => (x : Int)).map (Value.int .i64) := by simp [cellsN]
/-- slices.Reverse at a row of one's own. -/
theorem rev_any (l : List Nat) (base : Nat) (a : Option Addr) (c : Nat) (w : World) (h : w.ownsRow base 3 1 (.slice a l.length c) l.length (cellsN l)) (hl : l.length ≤ 4096) :
    Calls Tryz.prog 47 #[.slice a l.length c] w (fun e w' => e = .returned (.tuple #[]) ∧ w'.ownsRow base 3 1 (.slice a l.length c) l.length (cellsN l.reverse) ∧ Below base w w') := by
  cases l with
  | nil =>
    refine (Tryz.slices_Reverse_int_empty a c w).mono ?_
    rintro e w' ⟨rfl, rfl⟩
    exact ⟨rfl, h, Below.refl _ _⟩
  | cons x r =>
    obtain ⟨l, hl'⟩ : ∃ l, x :: r = l := ⟨_, rfl⟩
    have hne : ¬ l.length = 0 := by rw [← hl']; simp
    rw [hl'] at h hl ⊢
    rw [cellsN_enc] at h
    obtain ⟨g, cap, hv, hg, hlt, h1, h2, h3, hH⟩ := Lib.holds_of_ownsRow h (by intro e; simp only [Value.slice.injEq] at e; omega)
    simp only [Value.slice.injEq] at hv
    obtain ⟨rfl, -, rfl⟩ := hv
    have hc := Tryz.slices_Reverse_int g 0 c (l.map fun (x : Nat) => (x : Int)) w hH (by rw [h3]; omega)
    rw [h3] at hc
    refine hc.mono ?_
    rintro e w' ⟨rfl, q, rfl⟩
    have ho := Lib.ownsRow_putRow (q := q) (k := l.length) (ys := (l.map fun (x : Nat) => (x : Int)).reverse) h (by simp) (Nat.le_refl _)
    refine ⟨rfl, ?_, Lib.below_putRow (Below.refl _ _) hg⟩
    rw [cellsN_enc, List.map_reverse]
    rw [List.take_of_length_le (by simp)] at ho
    exact ho
/-- What Order comes to. -/
def OrdTo (w : World) (g : Gf) : Ending → World → Prop := fun e w' => ∃ u, e = .returned (.tuple #[u, .int .i64 (chkG g)]) ∧ Below w.heap.size w w' ∧ (chkG g = 0 → w'.ownsRow w.heap.size 3 1 u (orderG g).length (cellsN (orderG g))) ∧ (chkG g ≠ 0 → u = .slice none 0 0)
theorem right_to {g : Gf} (h : rightG g = true) : ∀ e ∈ g.es, 0 ≤ e.dt ∧ e.dt < g.pts := by
  intro e he
  have h2 := List.all_eq_true.1 h e he
  unfold edR endR at h2
  simp only [Bool.and_eq_true] at h2
  exact amg_true h2.2.1.1.1.1.2
theorem frm_right {g : Gf} (h : frm g = true) : rightG g = true := by
  unfold frm at h
  simp only [Bool.and_eq_true] at h
  exact h.1.2
set_option maxRecDepth 100000 in
set_option maxHeartbeats 8000000 in
theorem order_any (g : Gf) (av aa ae : Option Addr) (cv ca ce : Nat) (w : World) (hg : GrIn w g (.slice av g.vs.length cv) (.slice aa g.ar.length ca) (.slice ae g.es.length ce)) (hnv : g.vs.length ≤ 9223372036854775807) (htab : TabF w) :
    Calls Tryz.prog 15 #[grS g av cv aa ca ae ce] w (OrdTo w g) := by
  obtain ⟨W1, hW1⟩ : ∃ W1, w.alloc (.cells (grB g av cv aa ca ae ce) 30) = W1 := ⟨_, rfl⟩
  obtain ⟨X, hX⟩ : ∃ X, w.heap.size = X := ⟨_, rfl⟩
  have hx1 : Blk W1 X (grB g av cv aa ca ae ce) 30 := by rw [← hW1, ← hX]; exact Blk.new w _ _
  have hb1 : Below w.heap.size w W1 := by rw [← hW1]; exact (Below.refl _ w).alloc (Nat.le_refl _) _
  have HCK := Lib.hid (check_any g av aa ae cv ca ce W1 (hg.next hb1) hnv (htab.next hb1))
  obtain ⟨F, hF⟩ : ∃ f, chkG g = f := ⟨_, rfl⟩
  unfold OrdTo
  rw [hF] at HCK ⊢
  have x0 := hx1.cell 0
  have x1 := hx1.cell 1
  have x2 := hx1.cell 2
  have x3 := hx1.cell 3
  have x4 := hx1.cell 4
  have x5 := hx1.cell 5
  simp only [grB, List.getElem?_toArray, List.getElem?_cons_zero, List.getElem?_cons_succ] at x0 x1 x2 x3 x4 x5
  have H1 := Lib.hid (And.intro hx1 (And.intro hb1 (And.intro hF hg)))
  have HE := Lib.hid (And.intro hW1 hX)
  clear hx1 hb1 hW1 hX hg hnv htab hF
  by_cases hz : F = 0
  · subst hz
    obtain ⟨q0, qf⟩ := chk_zero H1.out.2.2.1
    obtain ⟨q1, q2, q3, q4, q5⟩ := out_zero q0
    obtain ⟨n, hn⟩ : ∃ n : Nat, g.pts = n := ⟨g.pts.toNat, by omega⟩
    have hgn : g.n = n := by unfold Gf.n; omega
    have HVI := Lib.hid (fun w' (hb : Below w.heap.size w w') => visits_any g av aa ae cv ca ce n hn (by omega) (by omega) (by omega) w' (H1.out.2.2.2.next hb).es (right_fr (frm_right qf)) (right_to (frm_right qf)))
    have hok := walkG_ok g (by omega)
    rw [hgn] at hok
    have hord : orderG g = (walkG g).dn.reverse ++ restT (walkG g) n := by unfold orderG; rw [hgn]
    have HO := Lib.hid (And.intro hok (And.intro hord (And.intro (show n ≤ 4096 by omega) hn)))
    obtain ⟨s, hs⟩ : ∃ s, walkG g = s := ⟨_, rfl⟩
    rw [hs] at HVI HO
    clear q0 qf q1 q2 q3 q4 q5 hn hgn hok hord hs
    go_enter Tryz.func15, Tryz.ntmps15
    go_upto_region 1 with fail
    rw [HE.out.1, HE.out.2]
    go_upto_region 4 with (first | (go_at_call 16; (with_reducible refine HCK.out.mono ?_); rintro e w2 ⟨rfl, hb2⟩; have HB2 := Lib.hid (And.intro (H1.out.1.next hb2) (H1.out.2.1.trans (hb2.mono H1.out.2.1.size))); clear hb2 x0 x1 x2 x3 x4 x5) | fail)
    have x0 := HB2.out.1.cell 0
    have x1 := HB2.out.1.cell 1
    have x2 := HB2.out.1.cell 2
    have x3 := HB2.out.1.cell 3
    have x4 := HB2.out.1.cell 4
    have x5 := HB2.out.1.cell 5
    simp only [grB, List.getElem?_toArray, List.getElem?_cons_zero, List.getElem?_cons_succ] at x0 x1 x2 x3 x4 x5
    go_upto_region 5 with (first | (go_at_call 45; (with_reducible refine (HVI.out _ HB2.out.2).mono ?_); rintro e w3 ⟨B, da, dc, rfl, hB, hbo, hdo, hb3⟩; have HV := Lib.hid (And.intro hB (And.intro hbo (And.intro hdo hb3))); clear hB hbo hdo hb3 x0 x1 x2 x3 x4 x5) | fail)
    have HRV := Lib.hid (rev_any s.dn (B + 1) da dc w3 HV.out.2.2.1 (by have := HO.out.1.cnt; have := HO.out.2.2.1; omega))
    go_upto_region 6 with (first | (go_at_call 47; (with_reducible refine HRV.out.mono ?_); rintro e w4 ⟨rfl, ho4, hb4⟩; have H4 := Lib.hid (And.intro ho4 hb4); clear ho4 hb4) | fail)
    have hlt3 : B < w3.heap.size := HV.out.2.1.lt
    have hb3 : Below w.heap.size w w3 := bel HB2.out.2 HV.out.2.2.2
    have hwB : w.heap.size ≤ B := Nat.le_trans HB2.out.2.size HV.out.1
    have hb4 : Below w.heap.size w w4 := hb3.trans (H4.out.2.mono (by omega))
    have hbo4 : w4.rowIs B 4 n (boolsV s.bg) := HV.out.2.1.of_block (H4.out.2.block B (by omega))
    have x3 : w4.cell? ⟨X, 3, none⟩ = some (.int .i64 (n : Int)) := by
      rw [← HO.out.2.2.2]
      have hXB : X < B + 1 := by have := HE.out.2; omega
      exact ((HB2.out.1.next HV.out.2.2.2).below H4.out.2 hXB).cell 3
    obtain ⟨i0, hi0, hz0, hz1, hz2⟩ := info_parts info_icell
    have HI0 := Lib.hid (And.intro hi0 (And.intro hz0 (And.intro hz1 hz2)))
    have hsz4 : B + 1 ≤ w4.heap.size := by have := H4.out.2.size; omega
    have H5 := Lib.hid (And.intro hb4 (And.intro hbo4 (And.intro hwB hsz4)))
    clear hlt3 hb3 hwB hb4 hbo4 hi0 hz0 hz1 hz2 hsz4
    go_wp2_with fail
    go_loopw [6, 22] (fun ov x wr => ∃ i : Nat, x = .int .i64 i ∧ i ≤ n ∧ wr.ownsRow (B + 1) 3 1 ov (s.dn.reverse ++ restT s i).length (cellsN (s.dn.reverse ++ restT s i)) ∧ Below (B + 1) w4 wr) (fun _ x _ => n - (intOf x).toNat)
    case atStart => exact ⟨0, rfl, by omega, by simpa [restT] using H4.out.1, Below.refl _ _⟩
    case round =>
      obtain ⟨i, rfl, hi, hov, hbr⟩ := hrel
      have HOV := Lib.hid (And.intro hov hbr)
      clear x3
      by_cases hlt : i < n
      · have hbi : (i : Int) + 1 ≤ 9223372036854775807 := by have := HO.out.2.2.1; omega
        have hii : (i : Int) < (n : Int) := by omega
        have hbc : wr.cell? ⟨B, i, none⟩ = some (boolsV s.bg i) := (H5.out.2.1.of_block (hbr.block B (by omega))).cell hlt
        have hlen : (s.dn.reverse ++ restT s i).length ≤ 8192 := by
          rw [List.length_append, List.length_reverse]
          have h1 := HO.out.1.cnt
          have h2 : (restT s i).length ≤ i := by unfold restT; exact Nat.le_trans (List.length_filter_le _ _) (by simp)
          have := HO.out.2.2.1
          omega
        have hrs := restT_succ s i
        have hgd : s.bg.getD i true = s.bg.getD i false := by
          have : i < s.bg.length := by rw [HO.out.1.len]; exact hlt
          rw [List.getD_eq_getElem?_getD, List.getD_eq_getElem?_getD, List.getElem?_eq_getElem this]
          rfl
        rw [hgd] at hrs
        unfold boolsV at hbc
        obtain ⟨b, hb⟩ : ∃ b, s.bg.getD i false = b := ⟨_, rfl⟩
        rw [hb] at hbc hrs
        obtain ⟨l, hl⟩ : ∃ l, s.dn.reverse ++ restT s i = l := ⟨_, rfl⟩
        rw [hl] at hov hlen HOV
        have hnx : s.dn.reverse ++ restT s (i + 1) = l ++ (if b = true then [] else [i]) := by rw [hrs, ← List.append_assoc, hl]
        obtain ⟨N, hN⟩ : ∃ N, l.length = N := ⟨_, rfl⟩
        rw [hN] at hov hlen HOV
        have HNX := Lib.hid (And.intro hnx hN)
        clear hov hbr hrs hgd hb hl hnx hN
        cases b with
        | true =>
          go_wp2_with fail
          go_roundw
          case rel => exact ⟨i + 1, by go_num, by omega, by rw [HNX.out.1]; simp only [if_true, List.append_nil]; rw [HNX.out.2]; exact HOV.out.1, HOV.out.2⟩
          case measure => simp [intOf]; omega
        | false =>
          have HNW := Lib.hid (World.news_of_block (cs := #[.int .i64 (i : Int)]) (t := 3) (fr := (0, 0)) (heap_alloc_new wr (.cells #[.int .i64 (i : Int)] 3)))
          have HSZ := Lib.hid (show B + 1 ≤ (wr.alloc (.cells #[.int .i64 (i : Int)] 3)).heap.size by rw [World.size_alloc]; have h1 := HOV.out.2.size; have h2 := H5.out.2.2.2; omega)
          have HNN := Lib.hid (And.intro (show N + 1 ≤ maxLen by unfold maxLen; omega) (show (N + 1) * 8 ≤ 140737488355328 by omega))
          clear hlen
          go_wp2_with (first | (at_builtin; (with_reducible refine wpList_append_lies _ rfl (.tmp 30) (.tmp 32) 44 rfl (B + 1) 3 i0 _ 1 8 Tryz.underlying44 HI0.out.1 HI0.out.2.1 HI0.out.2.2.1 HI0.out.2.2.2 rfl (by omega) _ N (cellsN l) rfl (HOV.out.1.alloc _) ⟨_, 0, none⟩ 1 1 [.int .i64 (i : Int)] rfl rfl HNW.out (one_int _) (by omega) HNN.out.1 HNN.out.2 HSZ.out _ rfl ?_); (intro gg cap w6 hown6 hgrow hat hlt6)) | fail)
          go_roundw
          case rel =>
            refine ⟨i + 1, by go_num, by omega, ?_, ?_⟩
            · rw [HNX.out.1]
              simp only [Bool.false_eq_true, if_false]
              rw [List.length_append, HNX.out.2, cellsN_snoc]
              exact hown6
            · have h5 : Below (B + 1) w4 (wr.alloc (.cells #[.int .i64 (i : Int)] 3)) := HOV.out.2.alloc (by have h1 := HOV.out.2.size; have h2 := H5.out.2.2.2; omega) _
              exact h5.grown hgrow HSZ.out (fun k hk => (HOV.out.1.lt k hk).1)
          case measure => simp [intOf]; omega
      · obtain rfl : i = n := by omega
        clear hbr hov
        go_wp2_with fail
        go_ret2
        refine ⟨_, rfl, H5.out.1.trans (HOV.out.2.mono (by have := H5.out.2.2.1; omega)), fun _ => ?_, fun h => absurd rfl h⟩
        rw [HO.out.2.1]
        exact HOV.out.1.mono (by have := H5.out.2.2.1; omega)
  · have t1 : (F != 0) = true := by simpa using hz
    have HZ := Lib.hid hz
    clear hz
    go_enter Tryz.func15, Tryz.ntmps15
    go_upto_region 1 with fail
    rw [HE.out.1, HE.out.2]
    go_wp2_with (first | (go_at_call 16; (with_reducible refine HCK.out.mono ?_); rintro e w2 ⟨rfl, hb2⟩; have HB2 := Lib.hid (H1.out.2.1.trans (hb2.mono H1.out.2.1.size)); clear hb2) | fail)
    go_ret2
    exact ⟨_, rfl, HB2.out, fun h => absurd h HZ.out, fun _ => rfl⟩
end Go.Proofs.YtjpopelbdhgidaaGreatDoor
