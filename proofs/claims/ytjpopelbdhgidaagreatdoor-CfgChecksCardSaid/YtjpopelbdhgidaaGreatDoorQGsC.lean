/-
  The document's graphs: fork: proved is that it tells whether edges may be all from one point.
-/
import Derived.Test.YtjpopelbdhgidaaGreatDoorQGrArg
import Derived.Deep.DeepCutAuto
import Derived.Deep.CutBlock
import Derived.Test.YtjpopelbdhgidaaGreatDoorQGrJ
import Derived.BigRegion
import Derived.Deep.RegionHeld3
/-
  The document's graphs: None, operand, All, Right: proved is that they tell what the plain words tell.
-/
namespace Go.Proofs.YtjpopelbdhgidaaGreatDoor
open Go Go.RowKit Go.Maps

set_option maxRecDepth 100000 in
theorem snone_any (w : World) : Calls Tryz.prog 107 #[] w (fun e w' => e = .returned (.agg #[.int .i64 (-1), .int .i64 0]) ∧ Below w.heap.size w w') := by
  go_enter Tryz.func107, Tryz.ntmps107
  go_wp2_with fail
  refine bodyPost_ret (results_cell_row rfl _ _ w.heap.size _ #[.int .i64 (-1), .int .i64 0] _ _ rfl (heap_alloc_new w _) rfl rfl (by kernel_rfl)) rfl ?_
  exact ⟨rfl, (Below.refl w.heap.size w).alloc (Nat.le_refl _) _⟩
set_option maxRecDepth 100000 in
set_option maxHeartbeats 4000000 in
theorem soperand_any (has : Bool) (v m n : Int) (w : World) : Calls Tryz.prog 67 #[.agg #[.int .i64 v, .int .i64 m], .bool has, .int .i64 n] w (fun e w' => e = .returned (.bool (opd has v m n)) ∧ Below w.heap.size w w') := by
  obtain ⟨W1, hW1⟩ : ∃ W1, w.alloc (.cells #[.int .i64 v, .int .i64 m] 38) = W1 := ⟨_, rfl⟩
  obtain ⟨Y, hY⟩ : ∃ Y, w.heap.size = Y := ⟨_, rfl⟩
  have hy : Blk W1 Y #[.int .i64 v, .int .i64 m] 38 := by rw [← hW1, ← hY]; exact Blk.new _ _ _
  have hb1 : Below w.heap.size w W1 := by rw [← hW1]; exact (Below.refl _ w).alloc (Nat.le_refl _) _
  have HQ := fun w => eq_opnd v m (-1) 0 w
  have HN := fun w => snone_any w
  have y0 : W1.cell? ⟨Y, 0, none⟩ = some (.int .i64 v) := hy.cell 0
  have y1 : W1.cell? ⟨Y, 1, none⟩ = some (.int .i64 m) := hy.cell 1
  have H1 := Lib.hid (And.intro hy hb1)
  have HE := Lib.hid (And.intro hW1 hY)
  clear hy hb1 hW1 hY
  cases has with
  | false =>
    have ho : opd false v m n = ((v == -1) && (m == 0)) := rfl
    rw [ho]
    obtain ⟨B, hB⟩ : ∃ B, ((v == -1) && (m == 0)) = B := ⟨_, rfl⟩
    rw [hB]
    simp only [hB] at HQ
    clear ho hB
    go_enter Tryz.func67, Tryz.ntmps67
    go_upto_region 1 with fail
    rw [HE.out.1, HE.out.2]
    go_upto_region 2 with fail
    go_region_with (first | (go_at_call 107; (with_reducible refine (HN _).mono ?_); rintro e w2 ⟨rfl, hb2⟩; have hb3 : Below W1.heap.size W1 w2 := (Below.refl W1.heap.size W1).drew.trans hb2; have z0 : w2.cell? ⟨Y, 0, none⟩ = some (.int .i64 v) := (H1.out.1.next hb3).cell 0; have z1 : w2.cell? ⟨Y, 1, none⟩ = some (.int .i64 m) := (H1.out.1.next hb3).cell 1) | fail)
    all_goals (go_wp2_with fail; go_ret; exact ⟨rfl, bel H1.out.2 hb3⟩)
  | true =>
    have ho : opd true v m n = ((v == -1) || (decide (0 ≤ v) && decide (v < n) && m == 0)) := rfl
    rw [ho]
    clear ho HQ HN
    have hcase : (v == -1) = true ∨ ((v == -1) = false ∧ decide (0 ≤ v) = false) ∨ ((v == -1) = false ∧ decide (0 ≤ v) = true ∧ decide (v < n) = false) ∨ ((v == -1) = false ∧ decide (0 ≤ v) = true ∧ decide (v < n) = true) := by
      cases (v == -1) <;> cases decide (0 ≤ v) <;> cases decide (v < n) <;> simp
    rcases hcase with h1 | ⟨h1, h2⟩ | ⟨h1, h2, h3⟩ | ⟨h1, h2, h3⟩
    all_goals
      go_enter Tryz.func67, Tryz.ntmps67
      go_upto_region 1 with fail
      rw [HE.out.1, HE.out.2]
      go_wp2_with fail
      go_ret
      exact ⟨by simp only [*]; rfl, H1.out.2⟩
set_option maxRecDepth 100000 in
theorem sall_any (g : Gf) (av aa ae : Option Addr) (cv ca ce : Nat) (h0 : fitsI g.nv) (w : World) : Calls Tryz.prog 40 #[grS g av cv aa ca ae ce] w (fun e w' => e = .returned (.int .i64 g.nv) ∧ Below w.heap.size w w') := by
  have hw : IntKind.i64.wrap ((g.vs.length : Int) + g.tmp) = g.nv := fits_wrap h0
  clear h0
  go_enter Tryz.func40, Tryz.ntmps40
  go_wp2_with fail
  go_ret
  exact ⟨rfl, (Below.refl w.heap.size w).alloc (Nat.le_refl _) _⟩
end Go.Proofs.YtjpopelbdhgidaaGreatDoor

/-
  The document's graphs: Right: proved is that it tells whether an edge is right as to all but its ends.
-/
namespace Go.Proofs.YtjpopelbdhgidaaGreatDoor
open Go Go.RowKit Go.Maps

/-- Is an edge right as to all but its ends? -/
def rgtP (nv na : Int) (e : Ed) : Bool := kdR e.kd && (namR nv na e && opd (kA e.kd) e.av e.an nv && opd (kB e.kd) e.bv e.bn nv)
theorem edR_rgt (nv na pts ext : Int) (e : Ed) : edR nv na pts ext e = (endR pts ext e && rgtP nv na e) := by
  unfold edR rgtP
  cases kdR e.kd <;> cases endR pts ext e <;> simp
abbrev edB (e : Ed) : Array Value := #[.int .i64 e.fr, .int .i64 e.dt, .int .i64 e.kd, .int .i64 e.dst, .int .i64 e.arr, .int .i64 e.op, .int .i64 e.av, .int .i64 e.an, .int .i64 e.bv, .int .i64 e.bn]
theorem plc_not (b : Bool) (v n : Int) : (!plc b v n) = if b then (decide (v < 0) || decide (n ≤ v)) else (v != -1) := by
  unfold plc amg
  cases b
  · simp [bne]
  · by_cases h1 : v < 0 <;> by_cases h2 : n ≤ v
    · simp [h1, h2] <;> omega
    · simp [h1] <;> omega
    · simp [h1, h2]
    · simp [h1, h2] <;> omega
theorem cmps_not (b : Bool) (v : Int) : (!cmps b v) = if b then (decide (v < 1) || decide (6 < v)) else (v != 0) := by
  unfold cmps
  cases b
  · simp [bne]
  · by_cases h1 : v < 1 <;> by_cases h2 : 6 < v
    · simp [h1, h2] <;> omega
    · simp [h1] <;> omega
    · simp [h1, h2]
    · simp [h1, h2] <;> omega
set_option maxRecDepth 100000 in
set_option maxHeartbeats 8000000 in
theorem sright_any (e : Ed) (nv na : Int) (w : World) : Calls Tryz.prog 41 #[edgeV e, .int .i64 nv, .int .i64 na] w (fun r w' => r = .returned (.bool (rgtP nv na e)) ∧ Below w.heap.size w w') := by
  obtain ⟨W1, hW1⟩ : ∃ W1, w.alloc (.cells (edB e) 40) = W1 := ⟨_, rfl⟩
  obtain ⟨Y, hY⟩ : ∃ Y, w.heap.size = Y := ⟨_, rfl⟩
  have hy : Blk W1 Y (edB e) 40 := by rw [← hW1, ← hY]; exact Blk.new _ _ _
  have hb1 : Below w.heap.size w W1 := by rw [← hW1]; exact (Below.refl _ w).alloc (Nat.le_refl _) _
  obtain ⟨K, hK⟩ : ∃ k, e.kd = k := ⟨_, rfl⟩
  have y2 : W1.cell? ⟨Y, 2, none⟩ = some (.int .i64 K) := by rw [← hK]; exact hy.cell 2
  have y3 : W1.cell? ⟨Y, 3, none⟩ = some (.int .i64 e.dst) := hy.cell 3
  have y4 : W1.cell? ⟨Y, 4, none⟩ = some (.int .i64 e.arr) := hy.cell 4
  have y5 : W1.cell? ⟨Y, 5, none⟩ = some (.int .i64 e.op) := hy.cell 5
  have y6 : W1.cell? ⟨Y, 6, none⟩ = some (.int .i64 e.av) := hy.cell 6
  have y7 : W1.cell? ⟨Y, 7, none⟩ = some (.int .i64 e.an) := hy.cell 7
  have hrg : rgtP nv na e = (kdR K && ((plc (kDst K) e.dst nv && plc (kArr K) e.arr na && cmps (kOp K) e.op) && opd (kA K) e.av e.an nv && opd (kB K) e.bv e.bn nv)) := by rw [← hK]; rfl
  rw [hrg]
  have H1 := Lib.hid (And.intro hy (And.intro hb1 hK))
  have HE := Lib.hid (And.intro hW1 hY)
  have HO := Lib.hid (fun has v m w => soperand_any has v m nv w)
  clear hy hb1 hW1 hY hK hrg
  by_cases hk : ¬ (1 ≤ K ∧ K ≤ 14)
  · have hkd : kdR K = false := by unfold kdR; exact decide_eq_false hk
    rw [hkd]
    have n1 : (K == 1) = false := by simp; omega
    have n2 : (K == 2) = false := by simp; omega
    have n3 : (K == 3) = false := by simp; omega
    have n4 : (K == 4) = false := by simp; omega
    have n5 : (K == 5) = false := by simp; omega
    have n6 : (K == 6) = false := by simp; omega
    have n7 : (K == 7) = false := by simp; omega
    have n8 : (K == 8) = false := by simp; omega
    have n9 : (K == 9) = false := by simp; omega
    have n10 : (K == 10) = false := by simp; omega
    have n11 : (K == 11) = false := by simp; omega
    have n12 : (K == 12) = false := by simp; omega
    have n13 : (K == 13) = false := by simp; omega
    have n14 : (K == 14) = false := by simp; omega
    clear hk hkd
    go_enter Tryz.func41, Tryz.ntmps41
    go_upto_region 1 with fail
    rw [HE.out.1, HE.out.2]
    go_wp2_with fail
    go_ret
    exact ⟨rfl, H1.out.2.1⟩
  have hk := Decidable.not_not.1 hk
  have hkd : kdR K = true := by unfold kdR; exact decide_eq_true hk
  rw [hkd]
  obtain ⟨bD, hbD⟩ : ∃ b, kDst K = b := ⟨_, rfl⟩
  obtain ⟨bA, hbA⟩ : ∃ b, kA K = b := ⟨_, rfl⟩
  obtain ⟨bB, hbB⟩ : ∃ b, kB K = b := ⟨_, rfl⟩
  rw [hbD, hbA, hbB]
  obtain ⟨P1, hP1⟩ : ∃ b, plc bD e.dst nv = b := ⟨_, rfl⟩
  have hN1 := plc_not bD e.dst nv
  rw [hP1] at hN1 ⊢
  clear hP1
  have hkr : kArr K = ((K == 10) || (K == 11)) := by
    unfold kArr
    by_cases h1 : K = 10 <;> by_cases h2 : K = 11 <;> simp [h1, h2]
  obtain ⟨bR, hbR⟩ : ∃ b, kArr K = b := ⟨_, rfl⟩
  rw [hbR] at hkr ⊢
  clear hbR
  obtain ⟨P2, hP2⟩ : ∃ b, plc bR e.arr na = b := ⟨_, rfl⟩
  have hN2 := plc_not bR e.arr na
  rw [hP2] at hN2 ⊢
  clear hP2
  have hko : kOp K = (K == 12) := by
    unfold kOp
    by_cases h1 : K = 12 <;> simp [h1]
  rw [hko]
  obtain ⟨bO, hbO⟩ : ∃ b, (K == 12) = b := ⟨_, rfl⟩
  rw [hbO]
  obtain ⟨P3, hP3⟩ : ∃ b, cmps bO e.op = b := ⟨_, rfl⟩
  have hN3 := cmps_not bO e.op
  rw [hP3] at hN3 ⊢
  have HBO := Lib.hid hbO
  clear hP3 hko hbO
  have HA := Lib.hid (fun w => HO.out bA e.av e.an w)
  have HB := Lib.hid (fun w => HO.out bB e.bv e.bn w)
  obtain ⟨O1, hO1⟩ : ∃ b, opd bA e.av e.an nv = b := ⟨_, rfl⟩
  obtain ⟨O2, hO2⟩ : ∃ b, opd bB e.bv e.bn nv = b := ⟨_, rfl⟩
  rw [hO1] at HA ⊢
  rw [hO2] at HB ⊢
  clear hO1 hO2 HO
  go_enter Tryz.func41, Tryz.ntmps41
  go_upto_region 1 with fail
  rw [HE.out.1, HE.out.2]
  go_upto_block 0 with fail
  go_cut [7, 8, 9] (fun a b c wx => a = .bool bD ∧ b = .bool bA ∧ c = .bool bB ∧ wx = W1)
  case first =>
    have hcase : K = 1 ∨ K = 2 ∨ K = 3 ∨ K = 4 ∨ K = 5 ∨ K = 6 ∨ K = 7 ∨ K = 8 ∨ K = 9 ∨ K = 10 ∨ K = 11 ∨ K = 12 ∨ K = 13 ∨ K = 14 := by omega
    clear hk hkd
    rcases hcase with rfl | rfl | rfl | rfl | rfl | rfl | rfl | rfl | rfl | rfl | rfl | rfl | rfl | rfl
    all_goals
      go_wp2_with fail
      go_meet
      exact ⟨by rw [← hbD]; rfl, by rw [← hbA]; rfl, by rw [← hbB]; rfl, rfl⟩
  case rest =>
  obtain ⟨rfl, rfl, rfl, hw⟩ := hcut
  have hw2 := hw.symm
  subst hw2
  clear hw hk hkd hbD hbA hbB
  go_upto_region 23 with fail
  go_cut [53] (fun s wx => s = .bool (!P1) ∧ wx = W1)
  case first =>
    have hc : (bD = true ∧ decide (e.dst < 0) = true) ∨ (bD = true ∧ decide (e.dst < 0) = false ∧ decide (nv ≤ e.dst) = true) ∨ (bD = true ∧ decide (e.dst < 0) = false ∧ decide (nv ≤ e.dst) = false) ∨ (bD = false ∧ (e.dst != -1) = true) ∨ (bD = false ∧ (e.dst != -1) = false) := by
      cases bD <;> cases decide (e.dst < 0) <;> cases decide (nv ≤ e.dst) <;> cases (e.dst != -1) <;> simp
    rcases hc with ⟨rfl, h1⟩ | ⟨rfl, h1, h2⟩ | ⟨rfl, h1, h2⟩ | ⟨rfl, h1⟩ | ⟨rfl, h1⟩
    all_goals
      go_wp2_with fail
      go_meet
      exact ⟨by rw [hN1]; simp only [*]; rfl, rfl⟩
  case rest =>
  obtain ⟨rfl, hw⟩ := hcut
  have hw2 := hw.symm
  subst hw2
  clear hw
  clear hN1
  cases P1
  · simp only [Bool.not_false]
    go_wp2_with fail
    go_ret
    exact ⟨by simp, H1.out.2.1⟩
  simp only [Bool.not_true]
  obtain ⟨q1, hq1⟩ : ∃ b, (K == 10) = b := ⟨_, rfl⟩
  obtain ⟨q2, hq2⟩ : ∃ b, (K == 11) = b := ⟨_, rfl⟩
  rw [hq1, hq2] at hkr
  go_upto_region 25 with fail
  go_cut [10] (fun s wx => s = .bool (bR) ∧ wx = W1)
  case first =>
    have hc : q1 = true ∨ (q1 = false) := by cases q1 <;> simp
    rcases hc with rfl | rfl
    all_goals
      go_wp2_with fail
      go_meet
      exact ⟨by rw [hkr]; rfl, rfl⟩
  case rest =>
  obtain ⟨rfl, hw⟩ := hcut
  have hw2 := hw.symm
  subst hw2
  clear hw
  clear hkr hq1 hq2
  go_upto_region 26 with fail
  go_cut [82] (fun s wx => s = .bool (!P2) ∧ wx = W1)
  case first =>
    have hc : (bR = true ∧ decide (e.arr < 0) = true) ∨ (bR = true ∧ decide (e.arr < 0) = false ∧ decide (na ≤ e.arr) = true) ∨ (bR = true ∧ decide (e.arr < 0) = false ∧ decide (na ≤ e.arr) = false) ∨ (bR = false ∧ (e.arr != -1) = true) ∨ (bR = false ∧ (e.arr != -1) = false) := by
      cases bR <;> cases decide (e.arr < 0) <;> cases decide (na ≤ e.arr) <;> cases (e.arr != -1) <;> simp
    rcases hc with ⟨rfl, h1⟩ | ⟨rfl, h1, h2⟩ | ⟨rfl, h1, h2⟩ | ⟨rfl, h1⟩ | ⟨rfl, h1⟩
    all_goals
      go_wp2_with fail
      go_meet
      exact ⟨by rw [hN2]; simp only [*]; rfl, rfl⟩
  case rest =>
  obtain ⟨rfl, hw⟩ := hcut
  have hw2 := hw.symm
  subst hw2
  clear hw
  clear hN2
  cases P2
  · simp only [Bool.not_false]
    go_wp2_with fail
    go_ret
    exact ⟨by simp, H1.out.2.1⟩
  simp only [Bool.not_true]
  have hbO := HBO.out
  have hbn : (K != 12) = !bO := by rw [← hbO]; rfl
  go_upto_region 28 with fail
  go_cut [105] (fun s wx => s = .bool (!P3) ∧ wx = W1)
  case first =>
    have hc : (bO = true ∧ decide (e.op < 1) = true) ∨ (bO = true ∧ decide (e.op < 1) = false ∧ decide (6 < e.op) = true) ∨ (bO = true ∧ decide (e.op < 1) = false ∧ decide (6 < e.op) = false) ∨ (bO = false ∧ (e.op != 0) = true) ∨ (bO = false ∧ (e.op != 0) = false) := by
      cases bO <;> cases decide (e.op < 1) <;> cases decide (6 < e.op) <;> cases (e.op != 0) <;> simp
    rcases hc with ⟨rfl, h1⟩ | ⟨rfl, h1, h2⟩ | ⟨rfl, h1, h2⟩ | ⟨rfl, h1⟩ | ⟨rfl, h1⟩
    all_goals simp only [Bool.not_true, Bool.not_false] at hbn
    all_goals
      go_wp2_with fail
      go_meet
      exact ⟨by rw [hN3]; simp only [*]; rfl, rfl⟩
  case rest =>
  obtain ⟨rfl, hw⟩ := hcut
  have hw2 := hw.symm
  subst hw2
  clear hw
  clear hbn hbO
  clear hN3
  cases P3
  · simp only [Bool.not_false]
    go_wp2_with fail
    go_ret
    exact ⟨by simp, H1.out.2.1⟩
  simp only [Bool.not_true]
  clear y2 y3 y4 y5
  cases O1
  · go_wp2_with (first | (go_at_call 67; (with_reducible refine (HA.out _).mono ?_); rintro r w2 ⟨rfl, hb2⟩) | fail)
    go_ret
    exact ⟨by simp, bel H1.out.2.1 hb2⟩
  · go_wp2_with (first | (go_at_call 67; (with_reducible refine (HA.out _).mono ?_); rintro r w2 ⟨rfl, hb2⟩; have y8 : w2.cell? ⟨Y, 8, none⟩ = some (.int .i64 e.bv) := (H1.out.1.next hb2).cell 8; have y9 : w2.cell? ⟨Y, 9, none⟩ = some (.int .i64 e.bn) := (H1.out.1.next hb2).cell 9; have HB2 := Lib.hid hb2; clear hb2 y6 y7) | (go_at_call 67; (with_reducible refine (HB.out _).mono ?_); rintro r w3 ⟨rfl, hb3⟩) | fail)
    go_ret
    exact ⟨by simp, bel H1.out.2.1 (bel HB2.out hb3)⟩
end Go.Proofs.YtjpopelbdhgidaaGreatDoor

/-
  The document's graphs: fork: proved is that it tells whether edges may be all from one point.
-/
namespace Go.Proofs.YtjpopelbdhgidaaGreatDoor
open Go Go.RowKit Go.Maps

theorem snot_any (op : Int) (w : World) : Calls Tryz.prog 68 #[.int .i64 op] w fun e w' => e = .returned (.int .i64 (notI op)) ∧ w' = w := by
  by_cases h0 : op < 1 ∨ 6 < op
  · rw [not_out h0]
    exact rnot_0 op h0 w
  · have hc : op = 1 ∨ op = 2 ∨ op = 3 ∨ op = 4 ∨ op = 5 ∨ op = 6 := by omega
    rcases hc with rfl | rfl | rfl | rfl | rfl | rfl
    · exact rnot_1 w
    · exact rnot_2 w
    · exact rnot_3 w
    · exact rnot_4 w
    · exact rnot_5 w
    · exact rnot_6 w
set_option maxRecDepth 100000 in
set_option maxHeartbeats 8000000 in
theorem sfork_any (g : Gf) (av aa ae : Option Addr) (cv ca ce : Nat) (l : List Nat) (a : Option Addr) (c : Nat) (w : World) (hes : EdsAt w g.es (.slice ae g.es.length ce)) (hl : ∀ x ∈ l, x < g.es.length) (hll : l.length ≤ 1099511627776) (hrow : NumsAt w l a) :
    Calls Tryz.prog 42 #[grS g av cv aa ca ae ce, .slice a l.length c] w (fun r w' => r = .returned (.bool (tog g.es l)) ∧ Below w.heap.size w w') := by
  obtain ⟨W1, hW1⟩ : ∃ W1, w.alloc (.cells (grB g av cv aa ca ae ce) 30) = W1 := ⟨_, rfl⟩
  obtain ⟨X, hX⟩ : ∃ X, w.heap.size = X := ⟨_, rfl⟩
  have hx : Blk W1 X (grB g av cv aa ca ae ce) 30 := by rw [← hW1, ← hX]; exact Blk.new w _ _
  have hb1 : Below w.heap.size w W1 := by rw [← hW1]; exact (Below.refl _ w).alloc (Nat.le_refl _) _
  have hrow1 := hrow.keep (keeps_below hb1)
  have hes1 := hes.keep (keeps_below hb1)
  obtain ⟨_, _, hs, -, -, her⟩ := hes1
  cases hs
  have H1 := Lib.hid (And.intro hx (And.intro hb1 her))
  have HE := Lib.hid (And.intro hW1 hX)
  clear hx hb1 her hW1 hX hrow hes
  have hcase : l = [] ∨ (∃ x, l = [x]) ∨ (∃ x y r, l = x :: y :: r) := by
    match l with
    | [] => exact .inl rfl
    | [x] => exact .inr (.inl ⟨x, rfl⟩)
    | x :: y :: r => exact .inr (.inr ⟨x, y, r, rfl⟩)
  rcases hcase with rfl | ⟨x, rfl⟩ | ⟨x, y, r, rfl⟩
  · clear hl hrow1 hll
    go_enter Tryz.func42, Tryz.ntmps42
    go_upto_region 1 with fail
    simp only [HE.out.1, HE.out.2]
    go_wp2_with fail
    go_ret
    exact ⟨rfl, H1.out.2.1⟩
  · obtain ⟨b, rfl, hc⟩ := hrow1.resolve_left (by simp)
    have n0 : W1.cell? ⟨b, 0, none⟩ = some (.int .i64 (x : Int)) := hc 0 (by simp)
    have hxl : x < g.es.length := hl x (by simp)
    have hxi : (x : Int) < (g.es.length : Int) := by omega
    obtain ⟨eb, eo, rfl, he⟩ := H1.out.2.2.resolve_left (by omega)
    have hge : g.es.getD x noE = g.es[x] := by rw [List.getD_eq_getElem?_getD, List.getElem?_eq_getElem hxl, Option.getD_some]
    have hr : tog g.es [x] = (g.es[x].kd != 12) := by show ((g.es.getD x noE).kd != 12) = _; rw [hge]
    rw [hr]
    obtain ⟨k0, k1, k2, k3, k4, k5, k6, k7, k8, k9⟩ := eds_at he x hxl
    obtain ⟨e, he1⟩ : ∃ k, g.es[x] = k := ⟨_, rfl⟩
    rw [he1] at k0 k1 k2 k3 k4 k5 k6 k7 k8 k9 ⊢
    have x5 : W1.cell? ⟨X, 5, none⟩ = some (.slice (some ⟨eb, eo, none⟩) g.es.length ce) := H1.out.1.cell 5
    have hal : ∀ o, Below W1.heap.size W1 (W1.alloc o) := fun o => (Below.refl _ W1).alloc (Nat.le_refl _) o
    have ka := fun o => keeps_below (hal o)
    have m0 := fun o => ka o _ _ _ n0
    have m5 := fun o => ka o _ _ _ x5
    have p0 := fun o => ka o _ _ _ k0
    have p1 := fun o => ka o _ _ _ k1
    have p2 := fun o => ka o _ _ _ k2
    have p3 := fun o => ka o _ _ _ k3
    have p4 := fun o => ka o _ _ _ k4
    have p5 := fun o => ka o _ _ _ k5
    have p6 := fun o => ka o _ _ _ k6
    have p7 := fun o => ka o _ _ _ k7
    have p8 := fun o => ka o _ _ _ k8
    have p9 := fun o => ka o _ _ _ k9
    have hl1 : (([x] : List Nat).length : Int) = 1 := rfl
    clear hr hge he1 he hl hll hc hrow1 hal ka
    go_enter Tryz.func42, Tryz.ntmps42
    go_upto_region 1 with fail
    simp only [HE.out.1, HE.out.2]
    go_upto_region 3 with fail
    go_region
    all_goals
      go_wp2_with fail
      go_ret
      exact ⟨rfl, H1.out.2.1.drew.alloc H1.out.2.1.size _⟩
  · obtain ⟨b, rfl, hc⟩ := hrow1.resolve_left (by simp)
    have n0 : W1.cell? ⟨b, 0, none⟩ = some (.int .i64 (x : Int)) := hc 0 (by simp)
    have n1 : W1.cell? ⟨b, 1, none⟩ = some (.int .i64 (y : Int)) := hc 1 (by simp)
    have hxl : x < g.es.length := hl x (by simp)
    have hyl : y < g.es.length := hl y (by simp)
    have hxi : (x : Int) < (g.es.length : Int) := by omega
    have hyi : (y : Int) < (g.es.length : Int) := by omega
    obtain ⟨eb, eo, rfl, he⟩ := H1.out.2.2.resolve_left (by omega)
    have hgx : g.es.getD x noE = g.es[x] := by rw [List.getD_eq_getElem?_getD, List.getElem?_eq_getElem hxl, Option.getD_some]
    have hgy : g.es.getD y noE = g.es[y] := by rw [List.getD_eq_getElem?_getD, List.getElem?_eq_getElem hyl, Option.getD_some]
    obtain ⟨m, hm⟩ : ∃ m, (x :: y :: r).length = m := ⟨_, rfl⟩
    have hr : tog g.es (x :: y :: r) = (((m : Int) == 2) && ctr g.es[x] g.es[y]) := by
      cases r with
      | nil =>
        obtain rfl : 2 = m := by rw [← hm]; rfl
        show ctr (g.es.getD x noE) (g.es.getD y noE) = _
        rw [hgx, hgy]
        simp
      | cons z r =>
        have h2 : ((m : Int) == 2) = false := by simp; rw [← hm]; simp; omega
        rw [h2]
        rfl
    have hm2 : 2 ≤ m := by rw [← hm]; simp
    rw [hr]
    rw [hm] at hll ⊢
    obtain ⟨k0, k1, k2, k3, k4, k5, k6, k7, k8, k9⟩ := eds_at he x hxl
    obtain ⟨j0, j1, j2, j3, j4, j5, j6, j7, j8, j9⟩ := eds_at he y hyl
    obtain ⟨e, he1⟩ : ∃ k, g.es[x] = k := ⟨_, rfl⟩
    obtain ⟨f, hf1⟩ : ∃ k, g.es[y] = k := ⟨_, rfl⟩
    rw [he1] at k0 k1 k2 k3 k4 k5 k6 k7 k8 k9 ⊢
    rw [hf1] at j0 j1 j2 j3 j4 j5 j6 j7 j8 j9 ⊢
    have x5 : W1.cell? ⟨X, 5, none⟩ = some (.slice (some ⟨eb, eo, none⟩) g.es.length ce) := H1.out.1.cell 5
    have hal : ∀ o, Below W1.heap.size W1 (W1.alloc o) := fun o => (Below.refl _ W1).alloc (Nat.le_refl _) o
    have ka := fun o => keeps_below (hal o)
    have m0 := fun o => ka o _ _ _ n0
    have m5 := fun o => ka o _ _ _ x5
    have p0 := fun o => ka o _ _ _ k0
    have p1 := fun o => ka o _ _ _ k1
    have p2 := fun o => ka o _ _ _ k2
    have p3 := fun o => ka o _ _ _ k3
    have p4 := fun o => ka o _ _ _ k4
    have p5 := fun o => ka o _ _ _ k5
    have p6 := fun o => ka o _ _ _ k6
    have p7 := fun o => ka o _ _ _ k7
    have p8 := fun o => ka o _ _ _ k8
    have p9 := fun o => ka o _ _ _ k9
    have e0 : ((m : Int) == 0) = false := by simp; omega
    have e1 : ((m : Int) == 1) = false := by simp; omega
    have i0 : (0 : Int) < (m : Int) := by omega
    have i1 : (1 : Int) < (m : Int) := by omega
    have HY := Lib.hid (And.intro n1 (And.intro x5 (And.intro j0 (And.intro j1 (And.intro j2 (And.intro j3 (And.intro j4 (And.intro j5 (And.intro j6 (And.intro j7 (And.intro j8 j9)))))))))))
    have HN := fun w => snot_any e.op w
    have HQA := fun w => eq_opnd e.av e.an f.av f.an w
    have HQB := fun w => eq_opnd e.bv e.bn f.bv f.bn w
    have hct : ctr e f = (e.kd == 12 && f.kd == 12 && (e.av == f.av && e.an == f.an) && (e.bv == f.bv && e.bn == f.bn) && f.op == notI e.op) := rfl
    rw [hct]
    obtain ⟨A, hA⟩ : ∃ b, (e.av == f.av && e.an == f.an) = b := ⟨_, rfl⟩
    obtain ⟨B, hB⟩ : ∃ b, (e.bv == f.bv && e.bn == f.bn) = b := ⟨_, rfl⟩
    obtain ⟨NO, hNO⟩ : ∃ n, notI e.op = n := ⟨_, rfl⟩
    rw [hA, hB, hNO]
    rw [hNO] at HN
    simp only [hA] at HQA
    simp only [hB] at HQB
    obtain ⟨b1, h1⟩ : ∃ b, (e.kd == 12) = b := ⟨_, rfl⟩
    obtain ⟨b2, h2⟩ : ∃ b, (f.kd == 12) = b := ⟨_, rfl⟩
    obtain ⟨T2, h3⟩ : ∃ b, ((m : Int) == 2) = b := ⟨_, rfl⟩
    rw [h1, h2, h3]
    clear hr hgx hgy he1 hf1 he hl hc hrow1 hal ka hm hct hA hB hNO hxl hyl n1 j0 j1 j2 j3 j4 j5 j6 j7 j8 j9
    go_enter Tryz.func42, Tryz.ntmps42
    go_upto_region 1 with fail
    simp only [HE.out.1, HE.out.2]
    go_upto_region 3 with fail
    go_cut [5] (fun s wx => s = .pointer (some ⟨W1.heap.size, 0, none⟩) ∧ Blk wx W1.heap.size (edcA e) 40 ∧ Below W1.heap.size W1 wx)
    case first =>
      go_region
      all_goals
        go_wp2_with fail
        go_meet
        exact ⟨rfl, Blk.new W1 _ _, ((Below.refl W1.heap.size W1).alloc (Nat.le_refl _) _).drew⟩
    case rest =>
    obtain ⟨rfl, hA1, hbA⟩ := hcut
    obtain ⟨W2, hW2⟩ : ∃ x, x = wc := ⟨_, rfl⟩
    subst hW2
    have HA := Lib.hid (And.intro hA1 hbA)
    clear hA1 hbA m0 m5 n0 x5 p0 p1 p2 p3 p4 p5 p6 p7 p8 p9 k0 k1 k2 k3 k4 k5 k6 k7 k8 k9
    obtain ⟨n1, x5, j0, j1, j2, j3, j4, j5, j6, j7, j8, j9⟩ := HY.out
    have kw := keeps_below HA.out.2
    have n1 := kw _ _ _ n1
    have x5 := kw _ _ _ x5
    have j0 := kw _ _ _ j0
    have j1 := kw _ _ _ j1
    have j2 := kw _ _ _ j2
    have j3 := kw _ _ _ j3
    have j4 := kw _ _ _ j4
    have j5 := kw _ _ _ j5
    have j6 := kw _ _ _ j6
    have j7 := kw _ _ _ j7
    have j8 := kw _ _ _ j8
    have j9 := kw _ _ _ j9
    have hal : ∀ o, Below W2.heap.size W2 (W2.alloc o) := fun o => (Below.refl _ W2).alloc (Nat.le_refl _) o
    have ka := fun o => keeps_below (hal o)
    have m1 := fun o => ka o _ _ _ n1
    have m5 := fun o => ka o _ _ _ x5
    have q0 := fun o => ka o _ _ _ j0
    have q1 := fun o => ka o _ _ _ j1
    have q2 := fun o => ka o _ _ _ j2
    have q3 := fun o => ka o _ _ _ j3
    have q4 := fun o => ka o _ _ _ j4
    have q5 := fun o => ka o _ _ _ j5
    have q6 := fun o => ka o _ _ _ j6
    have q7 := fun o => ka o _ _ _ j7
    have q8 := fun o => ka o _ _ _ j8
    have q9 := fun o => ka o _ _ _ j9
    clear hal ka kw
    go_upto_region 6 with fail
    go_cut [6] (fun s wx => s = .pointer (some ⟨W2.heap.size, 0, none⟩) ∧ Blk wx W2.heap.size (edcA f) 40 ∧ Below W2.heap.size W2 wx)
    case first =>
      go_region
      all_goals
        go_wp2_with fail
        go_meet
        exact ⟨rfl, Blk.new W2 _ _, ((Below.refl W2.heap.size W2).alloc (Nat.le_refl _) _).drew⟩
    case rest =>
    obtain ⟨rfl, hB1, hbB⟩ := hcut
    obtain ⟨W3, hW3⟩ : ∃ x, x = wc := ⟨_, rfl⟩
    subst hW3
    obtain ⟨XA, hXA⟩ : ∃ x, W1.heap.size = x := ⟨_, rfl⟩
    obtain ⟨XB, hXB⟩ : ∃ x, W2.heap.size = x := ⟨_, rfl⟩
    have hx : Blk W3 XA (edcA e) 40 := by rw [← hXA]; exact HA.out.1.next hbB
    have hy : Blk W3 XB (edcA f) 40 := by rw [← hXB]; exact hB1
    have hb3 : Below w.heap.size w W3 := bel (bel H1.out.2.1 HA.out.2) hbB
    have H3 := Lib.hid hb3
    have KS := fun w' (hW : Below W3.heap.size W3 w') => (⟨(hx.below hW hx.lt).cell 2, (hx.below hW hx.lt).cell 5, (hx.below hW hx.lt).cell 6, (hx.below hW hx.lt).cell 7, (hx.below hW hx.lt).cell 8, (hx.below hW hx.lt).cell 9, (hy.below hW hy.lt).cell 2, (hy.below hW hy.lt).cell 5, (hy.below hW hy.lt).cell 6, (hy.below hW hy.lt).cell 7, (hy.below hW hy.lt).cell 8, (hy.below hW hy.lt).cell 9, hW⟩ : (fun w' => w'.cell? ⟨XA, 2, none⟩ = some (.int .i64 e.kd) ∧ w'.cell? ⟨XA, 5, none⟩ = some (.int .i64 e.op) ∧ w'.cell? ⟨XA, 6, none⟩ = some (.int .i64 e.av) ∧ w'.cell? ⟨XA, 7, none⟩ = some (.int .i64 e.an) ∧ w'.cell? ⟨XA, 8, none⟩ = some (.int .i64 e.bv) ∧ w'.cell? ⟨XA, 9, none⟩ = some (.int .i64 e.bn) ∧ w'.cell? ⟨XB, 2, none⟩ = some (.int .i64 f.kd) ∧ w'.cell? ⟨XB, 5, none⟩ = some (.int .i64 f.op) ∧ w'.cell? ⟨XB, 6, none⟩ = some (.int .i64 f.av) ∧ w'.cell? ⟨XB, 7, none⟩ = some (.int .i64 f.an) ∧ w'.cell? ⟨XB, 8, none⟩ = some (.int .i64 f.bv) ∧ w'.cell? ⟨XB, 9, none⟩ = some (.int .i64 f.bn) ∧ Below W3.heap.size W3 w') w')
    obtain ⟨s0, s1, s2, s3, s4, s5, s6, s7, s8, s9, s10, s11, -⟩ := KS W3 (Below.refl _ W3)
    rw [hXA, hXB]
    clear hXA hXB hx hy hb3 hB1 hbB HA n1 x5 m1 m5 q0 q1 q2 q3 q4 q5 q6 q7 q8 q9 j0 j1 j2 j3 j4 j5 j6 j7 j8 j9 e0 e1 i0 i1 hxi hyi
    go_upto_region 7 with fail
    have hcase : T2 = false ∨ (T2 = true ∧ b1 = false) ∨ (T2 = true ∧ b1 = true ∧ b2 = false) ∨ (T2 = true ∧ b1 = true ∧ b2 = true ∧ A = false) ∨ (T2 = true ∧ b1 = true ∧ b2 = true ∧ A = true ∧ B = false) ∨ (T2 = true ∧ b1 = true ∧ b2 = true ∧ A = true ∧ B = true) := by
      cases T2 <;> cases b1 <;> cases b2 <;> cases A <;> cases B <;> simp
    rcases hcase with rfl | ⟨rfl, rfl⟩ | ⟨rfl, rfl, rfl⟩ | ⟨rfl, rfl, rfl, rfl⟩ | ⟨rfl, rfl, rfl, rfl, rfl⟩ | ⟨rfl, rfl, rfl, rfl, rfl⟩
    case inr.inr.inr.inr.inr =>
      go_quiet ((go_at_call 68; exact Calls.quiet_of_same (HN _)))
      go_wp2_with fail
      go_ret
      exact ⟨rfl, ⟨H3.out.os, H3.out.tape, H3.out.output, H3.out.size, H3.out.block⟩⟩
    all_goals
      go_quiet (fail)
      go_wp2_with fail
      go_ret
      exact ⟨rfl, ⟨H3.out.os, H3.out.tape, H3.out.output, H3.out.size, H3.out.block⟩⟩
end Go.Proofs.YtjpopelbdhgidaaGreatDoor
