/-
  The lowering's compare: proved is that it lays the plain edges.
-/
import Derived.Test.YtjpopelbdhgidaaGreatDoorQArD
import Derived.Test.YtjpopelbdhgidaaGreatDoorQCfgG
/-
  num's comparisons once more: proved is that they leave all older memory as it is.
-/
namespace Go.Proofs.YtjpopelbdhgidaaGreatDoor
open Go Go.RowKit

set_option maxRecDepth 100000 in
set_option maxHeartbeats 4000000 in
theorem ofb_0 (op : Int) (h0 : op < 1 ∨ 6 < op) (w : World) :
    Calls Tryz.prog 161 #[.int .i64 op] w fun e w' => e = .returned (.agg #[.func (.func 215) #[] #[], .int .i64 0]) ∧ Below w.heap.size w w' := by
  have HA := fun w => all_any w
  have hsf := fun (a : Addr) (k : Nat) (w : World) => run_store Tryz.prog w a (.func (.func k) #[] #[]) .plain rfl
  have HI : ∀ w, (Instr.index 262 (Value.agg compsV) (Value.int IntKind.i64 0)).run Tryz.prog w = .ok (.agg #[.func (.func 215) #[] #[], .int .i64 0]) w := fun w => by rfl
  rcases h0 with h0 | h0
  · go_enter Tryz.func161, Tryz.ntmps161
    go_wp2_with (first | (go_at_call 195; (with_reducible refine (HA _).mono ?_); rintro e w' ⟨rfl, t, rfl⟩) | fail)
    refine bodyPost_ret (results_cell_row rfl _ _ w.heap.size _ #[.func (.func 215) #[] #[], .int .i64 0] _ _ rfl (heap_two w _ _) rfl rfl (by kernel_rfl)) rfl ?_
    exact ⟨rfl, ((Below.refl w.heap.size w).alloc (Nat.le_refl _) _).alloc (by simp) _⟩
  · have h1 : ¬ op < 1 := by omega
    go_enter Tryz.func161, Tryz.ntmps161
    go_wp2_with (first | (go_at_call 195; (with_reducible refine (HA _).mono ?_); rintro e w' ⟨rfl, t, rfl⟩) | fail)
    refine bodyPost_ret (results_cell_row rfl _ _ w.heap.size _ #[.func (.func 215) #[] #[], .int .i64 0] _ _ rfl (heap_two w _ _) rfl rfl (by kernel_rfl)) rfl ?_
    exact ⟨rfl, ((Below.refl w.heap.size w).alloc (Nat.le_refl _) _).alloc (by simp) _⟩
set_option maxRecDepth 100000 in
set_option maxHeartbeats 4000000 in
theorem ofb_1  (w : World) :
    Calls Tryz.prog 161 #[.int .i64 1] w fun e w' => e = .returned (.agg #[.func (.func 216) #[] #[], .int .i64 6]) ∧ Below w.heap.size w w' := by
  have HA := fun w => all_any w
  have hsf := fun (a : Addr) (k : Nat) (w : World) => run_store Tryz.prog w a (.func (.func k) #[] #[]) .plain rfl
  have HI : ∀ w, (Instr.index 262 (Value.agg compsV) (Value.int IntKind.i64 1)).run Tryz.prog w = .ok (.agg #[.func (.func 216) #[] #[], .int .i64 6]) w := fun w => by rfl
  go_enter Tryz.func161, Tryz.ntmps161
  go_wp2_with (first | (go_at_call 195; (with_reducible refine (HA _).mono ?_); rintro e w' ⟨rfl, t, rfl⟩) | fail)
  refine bodyPost_ret (results_cell_row rfl _ _ w.heap.size _ #[.func (.func 216) #[] #[], .int .i64 6] _ _ rfl (heap_two w _ _) rfl rfl (by kernel_rfl)) rfl ?_
  exact ⟨rfl, ((Below.refl w.heap.size w).alloc (Nat.le_refl _) _).alloc (by simp) _⟩
set_option maxRecDepth 100000 in
set_option maxHeartbeats 4000000 in
theorem ofb_2  (w : World) :
    Calls Tryz.prog 161 #[.int .i64 2] w fun e w' => e = .returned (.agg #[.func (.func 217) #[] #[], .int .i64 5]) ∧ Below w.heap.size w w' := by
  have HA := fun w => all_any w
  have hsf := fun (a : Addr) (k : Nat) (w : World) => run_store Tryz.prog w a (.func (.func k) #[] #[]) .plain rfl
  have HI : ∀ w, (Instr.index 262 (Value.agg compsV) (Value.int IntKind.i64 2)).run Tryz.prog w = .ok (.agg #[.func (.func 217) #[] #[], .int .i64 5]) w := fun w => by rfl
  go_enter Tryz.func161, Tryz.ntmps161
  go_wp2_with (first | (go_at_call 195; (with_reducible refine (HA _).mono ?_); rintro e w' ⟨rfl, t, rfl⟩) | fail)
  refine bodyPost_ret (results_cell_row rfl _ _ w.heap.size _ #[.func (.func 217) #[] #[], .int .i64 5] _ _ rfl (heap_two w _ _) rfl rfl (by kernel_rfl)) rfl ?_
  exact ⟨rfl, ((Below.refl w.heap.size w).alloc (Nat.le_refl _) _).alloc (by simp) _⟩
set_option maxRecDepth 100000 in
set_option maxHeartbeats 4000000 in
theorem ofb_3  (w : World) :
    Calls Tryz.prog 161 #[.int .i64 3] w fun e w' => e = .returned (.agg #[.func (.func 218) #[] #[], .int .i64 4]) ∧ Below w.heap.size w w' := by
  have HA := fun w => all_any w
  have hsf := fun (a : Addr) (k : Nat) (w : World) => run_store Tryz.prog w a (.func (.func k) #[] #[]) .plain rfl
  have HI : ∀ w, (Instr.index 262 (Value.agg compsV) (Value.int IntKind.i64 3)).run Tryz.prog w = .ok (.agg #[.func (.func 218) #[] #[], .int .i64 4]) w := fun w => by rfl
  go_enter Tryz.func161, Tryz.ntmps161
  go_wp2_with (first | (go_at_call 195; (with_reducible refine (HA _).mono ?_); rintro e w' ⟨rfl, t, rfl⟩) | fail)
  refine bodyPost_ret (results_cell_row rfl _ _ w.heap.size _ #[.func (.func 218) #[] #[], .int .i64 4] _ _ rfl (heap_two w _ _) rfl rfl (by kernel_rfl)) rfl ?_
  exact ⟨rfl, ((Below.refl w.heap.size w).alloc (Nat.le_refl _) _).alloc (by simp) _⟩
set_option maxRecDepth 100000 in
set_option maxHeartbeats 4000000 in
theorem ofb_4  (w : World) :
    Calls Tryz.prog 161 #[.int .i64 4] w fun e w' => e = .returned (.agg #[.func (.func 219) #[] #[], .int .i64 3]) ∧ Below w.heap.size w w' := by
  have HA := fun w => all_any w
  have hsf := fun (a : Addr) (k : Nat) (w : World) => run_store Tryz.prog w a (.func (.func k) #[] #[]) .plain rfl
  have HI : ∀ w, (Instr.index 262 (Value.agg compsV) (Value.int IntKind.i64 4)).run Tryz.prog w = .ok (.agg #[.func (.func 219) #[] #[], .int .i64 3]) w := fun w => by rfl
  go_enter Tryz.func161, Tryz.ntmps161
  go_wp2_with (first | (go_at_call 195; (with_reducible refine (HA _).mono ?_); rintro e w' ⟨rfl, t, rfl⟩) | fail)
  refine bodyPost_ret (results_cell_row rfl _ _ w.heap.size _ #[.func (.func 219) #[] #[], .int .i64 3] _ _ rfl (heap_two w _ _) rfl rfl (by kernel_rfl)) rfl ?_
  exact ⟨rfl, ((Below.refl w.heap.size w).alloc (Nat.le_refl _) _).alloc (by simp) _⟩
set_option maxRecDepth 100000 in
set_option maxHeartbeats 4000000 in
theorem ofb_5  (w : World) :
    Calls Tryz.prog 161 #[.int .i64 5] w fun e w' => e = .returned (.agg #[.func (.func 220) #[] #[], .int .i64 2]) ∧ Below w.heap.size w w' := by
  have HA := fun w => all_any w
  have hsf := fun (a : Addr) (k : Nat) (w : World) => run_store Tryz.prog w a (.func (.func k) #[] #[]) .plain rfl
  have HI : ∀ w, (Instr.index 262 (Value.agg compsV) (Value.int IntKind.i64 5)).run Tryz.prog w = .ok (.agg #[.func (.func 220) #[] #[], .int .i64 2]) w := fun w => by rfl
  go_enter Tryz.func161, Tryz.ntmps161
  go_wp2_with (first | (go_at_call 195; (with_reducible refine (HA _).mono ?_); rintro e w' ⟨rfl, t, rfl⟩) | fail)
  refine bodyPost_ret (results_cell_row rfl _ _ w.heap.size _ #[.func (.func 220) #[] #[], .int .i64 2] _ _ rfl (heap_two w _ _) rfl rfl (by kernel_rfl)) rfl ?_
  exact ⟨rfl, ((Below.refl w.heap.size w).alloc (Nat.le_refl _) _).alloc (by simp) _⟩
set_option maxRecDepth 100000 in
set_option maxHeartbeats 4000000 in
theorem ofb_6  (w : World) :
    Calls Tryz.prog 161 #[.int .i64 6] w fun e w' => e = .returned (.agg #[.func (.func 221) #[] #[], .int .i64 1]) ∧ Below w.heap.size w w' := by
  have HA := fun w => all_any w
  have hsf := fun (a : Addr) (k : Nat) (w : World) => run_store Tryz.prog w a (.func (.func k) #[] #[]) .plain rfl
  have HI : ∀ w, (Instr.index 262 (Value.agg compsV) (Value.int IntKind.i64 6)).run Tryz.prog w = .ok (.agg #[.func (.func 221) #[] #[], .int .i64 1]) w := fun w => by rfl
  go_enter Tryz.func161, Tryz.ntmps161
  go_wp2_with (first | (go_at_call 195; (with_reducible refine (HA _).mono ?_); rintro e w' ⟨rfl, t, rfl⟩) | fail)
  refine bodyPost_ret (results_cell_row rfl _ _ w.heap.size _ #[.func (.func 221) #[] #[], .int .i64 1] _ _ rfl (heap_two w _ _) rfl rfl (by kernel_rfl)) rfl ?_
  exact ⟨rfl, ((Below.refl w.heap.size w).alloc (Nat.le_refl _) _).alloc (by simp) _⟩

end Go.Proofs.YtjpopelbdhgidaaGreatDoor

/-
  num.Not: proved is that it tells the contrary, and leaves all older memory as it is.
-/
namespace Go.Proofs.YtjpopelbdhgidaaGreatDoor
open Go Go.RowKit

set_option maxRecDepth 100000 in
set_option maxHeartbeats 4000000 in
theorem cnot_0 (op : Int) (h0 : op < 1 ∨ 6 < op) (w : World) :
    Calls Tryz.prog 150 #[.int .i64 op] w fun e w' => e = .returned (.int .i64 0) ∧ Below w.heap.size w w' := by
  have HC := fun w => ofb_0 op h0 w
  have HF : ∀ (x y : Value) (w : World), (Instr.field 230 (.agg #[x, y]) 1).run Tryz.prog w = .ok y w := fun x y w => by rfl
  go_enter Tryz.func150, Tryz.ntmps150
  go_wp2_with (first | (go_at_call 161; (with_reducible refine (HC _).mono ?_); rintro e w' ⟨rfl, hg⟩) | fail)
  all_goals (go_ret; exact ⟨rfl, hg⟩)
set_option maxRecDepth 100000 in
set_option maxHeartbeats 4000000 in
theorem cnot_1 (w : World) :
    Calls Tryz.prog 150 #[.int .i64 1] w fun e w' => e = .returned (.int .i64 6) ∧ Below w.heap.size w w' := by
  have HC := fun w => ofb_1 w
  have HF : ∀ (x y : Value) (w : World), (Instr.field 230 (.agg #[x, y]) 1).run Tryz.prog w = .ok y w := fun x y w => by rfl
  go_enter Tryz.func150, Tryz.ntmps150
  go_wp2_with (first | (go_at_call 161; (with_reducible refine (HC _).mono ?_); rintro e w' ⟨rfl, hg⟩) | fail)
  all_goals (go_ret; exact ⟨rfl, hg⟩)
set_option maxRecDepth 100000 in
set_option maxHeartbeats 4000000 in
theorem cnot_2 (w : World) :
    Calls Tryz.prog 150 #[.int .i64 2] w fun e w' => e = .returned (.int .i64 5) ∧ Below w.heap.size w w' := by
  have HC := fun w => ofb_2 w
  have HF : ∀ (x y : Value) (w : World), (Instr.field 230 (.agg #[x, y]) 1).run Tryz.prog w = .ok y w := fun x y w => by rfl
  go_enter Tryz.func150, Tryz.ntmps150
  go_wp2_with (first | (go_at_call 161; (with_reducible refine (HC _).mono ?_); rintro e w' ⟨rfl, hg⟩) | fail)
  all_goals (go_ret; exact ⟨rfl, hg⟩)
set_option maxRecDepth 100000 in
set_option maxHeartbeats 4000000 in
theorem cnot_3 (w : World) :
    Calls Tryz.prog 150 #[.int .i64 3] w fun e w' => e = .returned (.int .i64 4) ∧ Below w.heap.size w w' := by
  have HC := fun w => ofb_3 w
  have HF : ∀ (x y : Value) (w : World), (Instr.field 230 (.agg #[x, y]) 1).run Tryz.prog w = .ok y w := fun x y w => by rfl
  go_enter Tryz.func150, Tryz.ntmps150
  go_wp2_with (first | (go_at_call 161; (with_reducible refine (HC _).mono ?_); rintro e w' ⟨rfl, hg⟩) | fail)
  all_goals (go_ret; exact ⟨rfl, hg⟩)
set_option maxRecDepth 100000 in
set_option maxHeartbeats 4000000 in
theorem cnot_4 (w : World) :
    Calls Tryz.prog 150 #[.int .i64 4] w fun e w' => e = .returned (.int .i64 3) ∧ Below w.heap.size w w' := by
  have HC := fun w => ofb_4 w
  have HF : ∀ (x y : Value) (w : World), (Instr.field 230 (.agg #[x, y]) 1).run Tryz.prog w = .ok y w := fun x y w => by rfl
  go_enter Tryz.func150, Tryz.ntmps150
  go_wp2_with (first | (go_at_call 161; (with_reducible refine (HC _).mono ?_); rintro e w' ⟨rfl, hg⟩) | fail)
  all_goals (go_ret; exact ⟨rfl, hg⟩)
set_option maxRecDepth 100000 in
set_option maxHeartbeats 4000000 in
theorem cnot_5 (w : World) :
    Calls Tryz.prog 150 #[.int .i64 5] w fun e w' => e = .returned (.int .i64 2) ∧ Below w.heap.size w w' := by
  have HC := fun w => ofb_5 w
  have HF : ∀ (x y : Value) (w : World), (Instr.field 230 (.agg #[x, y]) 1).run Tryz.prog w = .ok y w := fun x y w => by rfl
  go_enter Tryz.func150, Tryz.ntmps150
  go_wp2_with (first | (go_at_call 161; (with_reducible refine (HC _).mono ?_); rintro e w' ⟨rfl, hg⟩) | fail)
  all_goals (go_ret; exact ⟨rfl, hg⟩)
set_option maxRecDepth 100000 in
set_option maxHeartbeats 4000000 in
theorem cnot_6 (w : World) :
    Calls Tryz.prog 150 #[.int .i64 6] w fun e w' => e = .returned (.int .i64 1) ∧ Below w.heap.size w w' := by
  have HC := fun w => ofb_6 w
  have HF : ∀ (x y : Value) (w : World), (Instr.field 230 (.agg #[x, y]) 1).run Tryz.prog w = .ok y w := fun x y w => by rfl
  go_enter Tryz.func150, Tryz.ntmps150
  go_wp2_with (first | (go_at_call 161; (with_reducible refine (HC _).mono ?_); rintro e w' ⟨rfl, hg⟩) | fail)
  all_goals (go_ret; exact ⟨rfl, hg⟩)
theorem cnot_any (op : Int) (w : World) : Calls Tryz.prog 150 #[.int .i64 op] w fun e w' => e = .returned (.int .i64 (notI op)) ∧ Below w.heap.size w w' := by
  by_cases h0 : op < 1 ∨ 6 < op
  · rw [not_out h0]
    exact cnot_0 op h0 w
  · have hc : op = 1 ∨ op = 2 ∨ op = 3 ∨ op = 4 ∨ op = 5 ∨ op = 6 := by omega
    rcases hc with rfl | rfl | rfl | rfl | rfl | rfl
    · exact cnot_1 w
    · exact cnot_2 w
    · exact cnot_3 w
    · exact cnot_4 w
    · exact cnot_5 w
    · exact cnot_6 w
end Go.Proofs.YtjpopelbdhgidaaGreatDoor

/-
  The lowering's compare: proved is that it lays the plain edges.
-/
namespace Go.Proofs.YtjpopelbdhgidaaGreatDoor
open Go Go.RowKit Go.Maps

set_option maxRecDepth 100000 in
set_option maxHeartbeats 8000000 in
theorem compare_any (K : Le) (hk : K.ok) (w0 : World) (hH : w0.heap.size ≤ K.H0) (htab : TabK w0) (k op : Int) (xs : List Nd) (hlen : xs.length = 2) (hfx : fmL .E xs) (vx : Value) (hsl : SlIn w0 .E xs vx) (ap : Option Addr) (lp cp : Nat) (f y n : Int) (s : Lw) (r : Option Nat) (w : World) (hw : Below w0.heap.size w0 w) (h : La K w s r) (hf : Few s (4 * szL xs + 4)) (hd : szL xs ≤ 1099511627776) :
    Calls Tryz.prog 206 #[.pointer (some ⟨K.M, 0, none⟩), .agg #[.int .i64 k, .int .i64 op, vx, .slice ap lp cp], .int .i64 f, .int .i64 y, .int .i64 n] w (Lows K unitT r w (cmpE K.E op xs f y n s)) := by
  have hops := ops_any K hk w0 hH htab xs (by omega) hfx
  have hsv : ∃ a c, vx = .slice a xs.length c := by obtain ⟨a, c, h, -⟩ := hsl; exact ⟨a, c, h⟩
  obtain ⟨a, c, rfl⟩ := hsv
  unfold cmpE
  have hX0 := Tl.new h #[.int .i64 k, .int .i64 op, .slice a xs.length c, .slice ap lp cp] 183
  have h1 := h.alloc hk (.cells #[.int .i64 k, .int .i64 op, .slice a xs.length c, .slice ap lp cp] 183)
  have hkr : Kl K r r w (w.alloc (.cells #[.int .i64 k, .int .i64 op, .slice a xs.length c, .slice ap lp cp] 183)) := (Kl.refl K r w).alloc _
  obtain ⟨W1, hW1⟩ : ∃ W1, w.alloc (.cells #[.int .i64 k, .int .i64 op, .slice a xs.length c, .slice ap lp cp] 183) = W1 := ⟨_, rfl⟩
  rw [hW1] at hX0 h1 hkr
  obtain ⟨X, hX⟩ : ∃ X, w.heap.size = X := ⟨_, rfl⟩
  rw [hX] at hX0
  have hold1 : Below w0.heap.size w0 W1 := hw.trans ((hkr.old hk h).mono hH)
  have hgr := opsL_gr K.E xs f 0 s
  have HO := Lib.hid (hops _ f 0 s r W1 hsl hold1 h1 ⟨by have := hf.p; omega, by have := hf.e; omega⟩ (by omega) (by omega))
  obtain ⟨⟨os, q2, s2⟩, hop⟩ : ∃ p, opsL K.E xs f 0 s = p := ⟨_, rfl⟩
  rw [hop] at hgr
  simp only [hop] at HO hgr ⊢
  have hf2 : Few s2 2 := ⟨by have := hf.p; have := hgr.p1; omega, by have := hf.e; have := hgr.e1; omega⟩
  have x0 := hX0.blk.cell
  have HH := Lib.hid (And.intro h (And.intro hw hf2))
  have HB := Lib.hid (And.intro hX0 (And.intro h1 hkr))
  have HE := Lib.hid (And.intro hW1 hX)
  clear hX0 h1 hkr hW1 hX hold1 hgr hop hf2 hsl htab hf hops hd hw h hlen hfx
  go_enter Tryz.func206, Tryz.ntmps206
  go_upto_region 1 with fail
  rw [HE.out.1, HE.out.2]
  go_upto_region 2 with (first | (go_at_call 177; (with_reducible refine HO.out.mono ?_); rintro e w3 ⟨rfl, r3, hk3, h3⟩; have H3 := Lib.hid (And.intro hk3 h3); clear hk3 h3 x0) | fail)
  have hb4 : Below w3.heap.size w3 (w3.alloc (.cells #[.int .i64 (op0 os).1, .int .i64 (op0 os).2, .int .i64 (op1 os).1, .int .i64 (op1 os).2] 244)) := (Below.refl _ w3).alloc (Nat.le_refl _) _
  have hO4 := Tl.new H3.out.2 #[.int .i64 (op0 os).1, .int .i64 (op0 os).2, .int .i64 (op1 os).1, .int .i64 (op1 os).2] 244
  have h4 := H3.out.2.next hk hb4
  have hX4 := (HB.out.1.kr hk H3.out.1).next hb4
  have hkr4 := (HB.out.2.2.trans H3.out.1).trans (Kl.below hb4)
  obtain ⟨W4, hW4⟩ : ∃ W, w3.alloc (.cells #[.int .i64 (op0 os).1, .int .i64 (op0 os).2, .int .i64 (op1 os).1, .int .i64 (op1 os).2] 244) = W := ⟨_, rfl⟩
  obtain ⟨O, hO⟩ : ∃ O, w3.heap.size = O := ⟨_, rfl⟩
  rw [hW4] at hO4 h4 hX4 hkr4
  rw [hO] at hO4
  rw [hW4, hO]
  have hXO : X ≠ O := by have := (HB.out.1.kr hk H3.out.1).blk.lt; omega
  have HED := Lib.hid (fun w => show Calls Tryz.prog 174 #[.int .i64 q2, .int .i64 y, .int .i64 12] w (fun e w' => e = .returned (.agg #[.int .i64 q2, .int .i64 y, .int .i64 12, .int .i64 (-1), .int .i64 (-1), .int .i64 0, .int .i64 (-1), .int .i64 0, .int .i64 (-1), .int .i64 0]) ∧ Below w.heap.size w w') from cedge_any q2 y 12 w)
  have H4 := Lib.hid (And.intro hO4 (And.intro h4 (And.intro hX4 (And.intro hkr4 hXO))))
  clear hb4 hO4 h4 hX4 hkr4 hW4 hO hXO
  go_upto_region 3 with (first | (go_at_call 174; (with_reducible refine (HED.out _).mono ?_); rintro e w5 ⟨rfl, hb5⟩; have HB5 := Lib.hid hb5; clear hb5) | fail)
  have hb6 : Below W4.heap.size W4 (w5.alloc (.cells #[.int .i64 q2, .int .i64 y, .int .i64 12, .int .i64 (-1), .int .i64 (-1), .int .i64 0, .int .i64 (-1), .int .i64 0, .int .i64 (-1), .int .i64 0] 40)) := HB5.out.alloc HB5.out.size _
  have h5 := H4.out.2.1.next hk HB5.out
  have hL6 := Tl.new h5 #[.int .i64 q2, .int .i64 y, .int .i64 12, .int .i64 (-1), .int .i64 (-1), .int .i64 0, .int .i64 (-1), .int .i64 0, .int .i64 (-1), .int .i64 0] 40
  have h6 := H4.out.2.1.next hk hb6
  have hX6 := H4.out.2.2.1.next hb6
  have hO6 := H4.out.1.next hb6
  have hkr6 := H4.out.2.2.2.1.trans (Kl.below hb6)
  have hOL : O < w5.heap.size := Nat.lt_of_lt_of_le H4.out.1.blk.lt HB5.out.size
  obtain ⟨W6, hW6⟩ : ∃ W, w5.alloc (.cells #[.int .i64 q2, .int .i64 y, .int .i64 12, .int .i64 (-1), .int .i64 (-1), .int .i64 0, .int .i64 (-1), .int .i64 0, .int .i64 (-1), .int .i64 0] 40) = W := ⟨_, rfl⟩
  obtain ⟨L, hL⟩ : ∃ L, w5.heap.size = L := ⟨_, rfl⟩
  rw [hW6] at hL6 h6 hX6 hO6 hkr6
  rw [hL] at hL6 hOL
  rw [hW6, hL]
  have o0 := hO6.blk.cell 0
  have o1 := hO6.blk.cell 1
  have o2 := hO6.blk.cell 2
  have o3 := hO6.blk.cell 3
  have x1 : W6.cell? ⟨X, 1, none⟩ = some (.int .i64 op) := hX6.blk.cell 1
  have l0 := hL6.blk.cell
  have l1 := hL6.blk.free
  have hneO : O ≠ L := by omega
  have HGL := Lib.hid (show w.heap.size ≤ L by have := H4.out.2.2.2.1.size; have := HB5.out.size; omega)
  have hneX : X ≠ L := by have := H4.out.2.2.1.blk.lt; have := HB5.out.size; omega
  have H6 := Lib.hid (And.intro hL6 (And.intro h6 (And.intro hX6 (And.intro hO6 (And.intro hkr6 hneX)))))
  clear hb6 h5 hL6 h6 hX6 hO6 hkr6 hOL hW6 hL
  go_cut [22] (fun _ wx => Blk wx L #[.int .i64 q2, .int .i64 y, .int .i64 12, .int .i64 (-1), .int .i64 (-1), .int .i64 op, .int .i64 (op0 os).1, .int .i64 (op0 os).2, .int .i64 (op1 os).1, .int .i64 (op1 os).2] 40 ∧ Only L W6 wx)
  case first =>
    go_region
    all_goals
      go_wp2_with fail
      go_meet
      have b0 : Blk (W6.setCell ⟨L, 5, none⟩ (.int .i64 op)) L #[.int .i64 q2, .int .i64 y, .int .i64 12, .int .i64 (-1), .int .i64 (-1), .int .i64 op, .int .i64 (-1), .int .i64 0, .int .i64 (-1), .int .i64 0] 40 := H6.out.1.blk.set 5 (.int .i64 op)
      have b1 : Blk ((W6.setCell ⟨L, 5, none⟩ (.int .i64 op)).setCell ⟨L, 6, none⟩ (.int .i64 (op0 os).1)) L #[.int .i64 q2, .int .i64 y, .int .i64 12, .int .i64 (-1), .int .i64 (-1), .int .i64 op, .int .i64 (op0 os).1, .int .i64 0, .int .i64 (-1), .int .i64 0] 40 := b0.set 6 (.int .i64 (op0 os).1)
      have b2 : Blk (((W6.setCell ⟨L, 5, none⟩ (.int .i64 op)).setCell ⟨L, 6, none⟩ (.int .i64 (op0 os).1)).setCell ⟨L, 7, none⟩ (.int .i64 (op0 os).2)) L #[.int .i64 q2, .int .i64 y, .int .i64 12, .int .i64 (-1), .int .i64 (-1), .int .i64 op, .int .i64 (op0 os).1, .int .i64 (op0 os).2, .int .i64 (-1), .int .i64 0] 40 := b1.set 7 (.int .i64 (op0 os).2)
      have b3 : Blk ((((W6.setCell ⟨L, 5, none⟩ (.int .i64 op)).setCell ⟨L, 6, none⟩ (.int .i64 (op0 os).1)).setCell ⟨L, 7, none⟩ (.int .i64 (op0 os).2)).setCell ⟨L, 8, none⟩ (.int .i64 (op1 os).1)) L #[.int .i64 q2, .int .i64 y, .int .i64 12, .int .i64 (-1), .int .i64 (-1), .int .i64 op, .int .i64 (op0 os).1, .int .i64 (op0 os).2, .int .i64 (op1 os).1, .int .i64 0] 40 := b2.set 8 (.int .i64 (op1 os).1)
      have b4 : Blk (((((W6.setCell ⟨L, 5, none⟩ (.int .i64 op)).setCell ⟨L, 6, none⟩ (.int .i64 (op0 os).1)).setCell ⟨L, 7, none⟩ (.int .i64 (op0 os).2)).setCell ⟨L, 8, none⟩ (.int .i64 (op1 os).1)).setCell ⟨L, 9, none⟩ (.int .i64 (op1 os).2)) L #[.int .i64 q2, .int .i64 y, .int .i64 12, .int .i64 (-1), .int .i64 (-1), .int .i64 op, .int .i64 (op0 os).1, .int .i64 (op0 os).2, .int .i64 (op1 os).1, .int .i64 (op1 os).2] 40 := b3.set 9 (.int .i64 (op1 os).2)
      exact ⟨b4, ((((((Only.refl L W6).setCell (p := ⟨L, 5, none⟩) rfl (.int .i64 op)).setCell (p := ⟨L, 6, none⟩) rfl (.int .i64 (op0 os).1)).setCell (p := ⟨L, 7, none⟩) rfl (.int .i64 (op0 os).2)).setCell (p := ⟨L, 8, none⟩) rfl (.int .i64 (op1 os).1)).setCell (p := ⟨L, 9, none⟩) rfl (.int .i64 (op1 os).2)).trans (Only.below (B := L) (Below.refl _ _).drew)⟩
  case rest =>
    obtain ⟨hbc, hoc⟩ := hcut
    have hlc := H6.out.2.1.tmp hk H6.out.1.base H6.out.1.row hoc
    have hkc := H6.out.2.2.2.2.1.one hoc HGL.out
    have hxc : Tl K wc r3 X #[.int .i64 k, .int .i64 op, .slice a xs.length c, .slice ap lp cp] 183 := ⟨H6.out.2.2.1.blk.only hoc H6.out.2.2.2.2.2, H6.out.2.2.1.base, H6.out.2.2.1.row⟩
    have htl : Tl K wc r3 L #[.int .i64 q2, .int .i64 y, .int .i64 12, .int .i64 (-1), .int .i64 (-1), .int .i64 op, .int .i64 (op0 os).1, .int .i64 (op0 os).2, .int .i64 (op1 os).1, .int .i64 (op1 os).2] 40 := ⟨hbc, H6.out.1.base, H6.out.1.row⟩
    have l2 := hbc.cell
    have HC := Lib.hid (And.intro hlc (And.intro hkc (And.intro htl hxc)))
    clear hbc hoc hlc hkc htl hxc o0 o1 o2 o3 l0 l1 hneO x1 hneX
    go_upto_region 5 with fail
    have hb7 : Below wc.heap.size wc (wc.alloc (.cells #[.int .i64 q2, .int .i64 y, .int .i64 12, .int .i64 (-1), .int .i64 (-1), .int .i64 op, .int .i64 (op0 os).1, .int .i64 (op0 os).2, .int .i64 (op1 os).1, .int .i64 (op1 os).2] 40)) := (Below.refl _ wc).alloc (Nat.le_refl _) _
    have hF7 := Tl.new HC.out.1 #[.int .i64 q2, .int .i64 y, .int .i64 12, .int .i64 (-1), .int .i64 (-1), .int .i64 op, .int .i64 (op0 os).1, .int .i64 (op0 os).2, .int .i64 (op1 os).1, .int .i64 (op1 os).2] 40
    have h7 := HC.out.1.next hk hb7
    have hL7 := HC.out.2.2.1.next hb7
    have hX7 := HC.out.2.2.2.next hb7
    have hkr7 := HC.out.2.1.trans (Kl.below hb7)
    obtain ⟨W7, hW7⟩ : ∃ W, wc.alloc (.cells #[.int .i64 q2, .int .i64 y, .int .i64 12, .int .i64 (-1), .int .i64 (-1), .int .i64 op, .int .i64 (op0 os).1, .int .i64 (op0 os).2, .int .i64 (op1 os).1, .int .i64 (op1 os).2] 40) = W := ⟨_, rfl⟩
    obtain ⟨F, hF⟩ : ∃ F, wc.heap.size = F := ⟨_, rfl⟩
    rw [hW7] at hF7 h7 hL7 hX7 hkr7
    rw [hF] at hF7
    rw [hW7, hF]
    have hLF : L ≠ F := by have := HC.out.2.2.1.blk.lt; omega
    have HGF := Lib.hid (show w.heap.size ≤ F by have := HC.out.2.1.size; omega)
    have x1 : W7.cell? ⟨X, 1, none⟩ = some (.int .i64 op) := hX7.blk.cell 1
    have HN := Lib.hid (fun w => cnot_any op w)
    have H7 := Lib.hid (And.intro hF7 (And.intro h7 (And.intro hL7 (And.intro hkr7 hLF))))
    clear hb7 hF7 h7 hL7 hX7 hkr7 hW7 hF l2
    go_upto_region 6 with (first | (go_at_call 150; (with_reducible refine (HN.out _).mono ?_); rintro e w8 ⟨rfl, hb8⟩; have HB8 := Lib.hid hb8; have f0 := (H7.out.1.next hb8).blk.cell; have f1 := (H7.out.1.next hb8).blk.free; clear hb8 x1) | fail)
    have hF8 := H7.out.1.next HB8.out
    have hF9a := (hF8.set 1 (.int .i64 n)).set 5 (.int .i64 (notI op))
    have hF9 : Tl K ((w8.setCell ⟨F, 1, none⟩ (.int .i64 n)).setCell ⟨F, 5, none⟩ (.int .i64 (notI op))) r3 F #[.int .i64 q2, .int .i64 n, .int .i64 12, .int .i64 (-1), .int .i64 (-1), .int .i64 (notI op), .int .i64 (op0 os).1, .int .i64 (op0 os).2, .int .i64 (op1 os).1, .int .i64 (op1 os).2] 40 := hF9a
    have ho9 : Only F w8 ((w8.setCell ⟨F, 1, none⟩ (.int .i64 n)).setCell ⟨F, 5, none⟩ (.int .i64 (notI op))) := ((Only.refl F w8).setCell (p := ⟨F, 1, none⟩) rfl _).setCell (p := ⟨F, 5, none⟩) rfl _
    have h9 := (H7.out.2.1.next hk HB8.out).tmp hk hF8.base hF8.row ho9
    have hkr9 := (H7.out.2.2.2.1.trans (Kl.below HB8.out)).one ho9 HGF.out
    have hL9 : Tl K _ r3 L #[.int .i64 q2, .int .i64 y, .int .i64 12, .int .i64 (-1), .int .i64 (-1), .int .i64 op, .int .i64 (op0 os).1, .int .i64 (op0 os).2, .int .i64 (op1 os).1, .int .i64 (op1 os).2] 40 := ⟨(H7.out.2.2.1.next HB8.out).blk.only ho9 H7.out.2.2.2.2, H7.out.2.2.1.base, H7.out.2.2.1.row⟩
    obtain ⟨W9, hW9⟩ : ∃ W, (w8.setCell ⟨F, 1, none⟩ (.int .i64 n)).setCell ⟨F, 5, none⟩ (.int .i64 (notI op)) = W := ⟨_, rfl⟩
    rw [hW9] at hF9 h9 hkr9 hL9
    rw [hW9]
    have l9 := hL9.blk.cell
    have HA := Lib.hid (show Calls Tryz.prog 175 #[.pointer (some ⟨K.M, 0, none⟩), .agg #[.int .i64 q2, .int .i64 y, .int .i64 12, .int .i64 (-1), .int .i64 (-1), .int .i64 op, .int .i64 (op0 os).1, .int .i64 (op0 os).2, .int .i64 (op1 os).1, .int .i64 (op1 os).2]] W9 (Lows K unitT r3 W9 (s2.add ⟨q2, y, 12, -1, -1, op, (op0 os).1, (op0 os).2, (op1 os).1, (op1 os).2⟩)) from cadd_any K hk s2 r3 ⟨q2, y, 12, -1, -1, op, (op0 os).1, (op0 os).2, (op1 os).1, (op1 os).2⟩ W9 h9 ⟨by have := HH.out.2.2.p; omega, by have := HH.out.2.2.e; omega⟩)
    have HA2 := Lib.hid (fun r w (h : La K w (s2.add ⟨q2, y, 12, -1, -1, op, (op0 os).1, (op0 os).2, (op1 os).1, (op1 os).2⟩) r) => show Calls Tryz.prog 175 #[.pointer (some ⟨K.M, 0, none⟩), .agg #[.int .i64 q2, .int .i64 n, .int .i64 12, .int .i64 (-1), .int .i64 (-1), .int .i64 (notI op), .int .i64 (op0 os).1, .int .i64 (op0 os).2, .int .i64 (op1 os).1, .int .i64 (op1 os).2]] w (Lows K unitT r w ((s2.add ⟨q2, y, 12, -1, -1, op, (op0 os).1, (op0 os).2, (op1 os).1, (op1 os).2⟩).add ⟨q2, n, 12, -1, -1, notI op, (op0 os).1, (op0 os).2, (op1 os).1, (op1 os).2⟩)) from cadd_any K hk (s2.add ⟨q2, y, 12, -1, -1, op, (op0 os).1, (op0 os).2, (op1 os).1, (op1 os).2⟩) r ⟨q2, n, 12, -1, -1, notI op, (op0 os).1, (op0 os).2, (op1 os).1, (op1 os).2⟩ w h ⟨by have := HH.out.2.2.p; show s2.pts + _ ≤ _; omega, by have := HH.out.2.2.e; simp only [Lw.add, List.length_append, List.length_singleton]; omega⟩)
    have H9 := Lib.hid (And.intro hF9 hkr9)
    clear hF8 hF9a hF9 ho9 h9 hkr9 hL9 hW9 f0 f1
    go_upto_region 7 with (first | (go_at_call 175; (with_reducible refine HA.out.mono ?_); rintro e w10 ⟨rfl, r10, hk10, h10⟩; have H10 := Lib.hid (And.intro hk10 h10); have f9 := (H9.out.1.kr hk hk10).blk.cell; clear hk10 h10 l9) | fail)
    go_wp2_with (first | (go_at_call 175; (with_reducible refine (HA2.out _ _ H10.out.2).mono ?_); rintro e w11 ⟨rfl, r11, hk11, h11⟩) | fail)
    go_end0
    exact ⟨rfl, r11, (H9.out.2.trans H10.out.1).trans hk11, h11⟩
end Go.Proofs.YtjpopelbdhgidaaGreatDoor
