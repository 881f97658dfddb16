/-
  The lowering's way and block: proved is that a block lays the plain edges, if its statements do.
-/
import Derived.Test.YtjpopelbdhgidaaGreatDoorQCfgS
import Derived.Test.YtjpopelbdhgidaaGreatDoorQCfgKb

namespace Go.Proofs.YtjpopelbdhgidaaGreatDoor
open Go Go.RowKit Go.Maps

def wayF (k : Int) : Nat := if k = 1 then 135 else if k = 2 then 136 else if k = 3 then 137 else if k = 4 then 138 else if k = 5 then 139 else if k = 6 then 140 else 141
abbrev funV (F M : Nat) : Value := .func (.func F) #[.pointer (some ⟨M, 0, none⟩)] #[]
set_option maxRecDepth 100000 in
theorem way_1 (M : Nat) (nm : ByteArray) (a1 a2 a3 a4 : Option Addr) (l1 l2 l3 l4 c1 c2 c3 c4 : Nat) (w : World) :
    Calls Tryz.prog 87 #[.pointer (some ⟨M, 0, none⟩), .agg #[.int .i64 1, .string nm, .slice a1 l1 c1, .slice a2 l2 c2, .slice a3 l3 c3, .slice a4 l4 c4]] w (fun e w' => e = .returned (funV 135 M) ∧ Below w.heap.size w w') := by
  have hb : Below w.heap.size w (w.alloc (.cells #[.int .i64 1, .string nm, .slice a1 l1 c1, .slice a2 l2 c2, .slice a3 l3 c3, .slice a4 l4 c4] 72)) := (Below.refl _ w).alloc (Nat.le_refl _) _
  go_enter Tryz.func87, Tryz.ntmps87
  go_wp2_with fail
  go_ret
  exact ⟨rfl, hb⟩
set_option maxRecDepth 100000 in
theorem way_2 (M : Nat) (nm : ByteArray) (a1 a2 a3 a4 : Option Addr) (l1 l2 l3 l4 c1 c2 c3 c4 : Nat) (w : World) :
    Calls Tryz.prog 87 #[.pointer (some ⟨M, 0, none⟩), .agg #[.int .i64 2, .string nm, .slice a1 l1 c1, .slice a2 l2 c2, .slice a3 l3 c3, .slice a4 l4 c4]] w (fun e w' => e = .returned (funV 136 M) ∧ Below w.heap.size w w') := by
  have hb : Below w.heap.size w (w.alloc (.cells #[.int .i64 2, .string nm, .slice a1 l1 c1, .slice a2 l2 c2, .slice a3 l3 c3, .slice a4 l4 c4] 72)) := (Below.refl _ w).alloc (Nat.le_refl _) _
  go_enter Tryz.func87, Tryz.ntmps87
  go_wp2_with fail
  go_ret
  exact ⟨rfl, hb⟩
set_option maxRecDepth 100000 in
theorem way_3 (M : Nat) (nm : ByteArray) (a1 a2 a3 a4 : Option Addr) (l1 l2 l3 l4 c1 c2 c3 c4 : Nat) (w : World) :
    Calls Tryz.prog 87 #[.pointer (some ⟨M, 0, none⟩), .agg #[.int .i64 3, .string nm, .slice a1 l1 c1, .slice a2 l2 c2, .slice a3 l3 c3, .slice a4 l4 c4]] w (fun e w' => e = .returned (funV 137 M) ∧ Below w.heap.size w w') := by
  have hb : Below w.heap.size w (w.alloc (.cells #[.int .i64 3, .string nm, .slice a1 l1 c1, .slice a2 l2 c2, .slice a3 l3 c3, .slice a4 l4 c4] 72)) := (Below.refl _ w).alloc (Nat.le_refl _) _
  go_enter Tryz.func87, Tryz.ntmps87
  go_wp2_with fail
  go_ret
  exact ⟨rfl, hb⟩
set_option maxRecDepth 100000 in
theorem way_4 (M : Nat) (nm : ByteArray) (a1 a2 a3 a4 : Option Addr) (l1 l2 l3 l4 c1 c2 c3 c4 : Nat) (w : World) :
    Calls Tryz.prog 87 #[.pointer (some ⟨M, 0, none⟩), .agg #[.int .i64 4, .string nm, .slice a1 l1 c1, .slice a2 l2 c2, .slice a3 l3 c3, .slice a4 l4 c4]] w (fun e w' => e = .returned (funV 138 M) ∧ Below w.heap.size w w') := by
  have hb : Below w.heap.size w (w.alloc (.cells #[.int .i64 4, .string nm, .slice a1 l1 c1, .slice a2 l2 c2, .slice a3 l3 c3, .slice a4 l4 c4] 72)) := (Below.refl _ w).alloc (Nat.le_refl _) _
  go_enter Tryz.func87, Tryz.ntmps87
  go_wp2_with fail
  go_ret
  exact ⟨rfl, hb⟩
set_option maxRecDepth 100000 in
theorem way_5 (M : Nat) (nm : ByteArray) (a1 a2 a3 a4 : Option Addr) (l1 l2 l3 l4 c1 c2 c3 c4 : Nat) (w : World) :
    Calls Tryz.prog 87 #[.pointer (some ⟨M, 0, none⟩), .agg #[.int .i64 5, .string nm, .slice a1 l1 c1, .slice a2 l2 c2, .slice a3 l3 c3, .slice a4 l4 c4]] w (fun e w' => e = .returned (funV 139 M) ∧ Below w.heap.size w w') := by
  have hb : Below w.heap.size w (w.alloc (.cells #[.int .i64 5, .string nm, .slice a1 l1 c1, .slice a2 l2 c2, .slice a3 l3 c3, .slice a4 l4 c4] 72)) := (Below.refl _ w).alloc (Nat.le_refl _) _
  go_enter Tryz.func87, Tryz.ntmps87
  go_wp2_with fail
  go_ret
  exact ⟨rfl, hb⟩
set_option maxRecDepth 100000 in
theorem way_6 (M : Nat) (nm : ByteArray) (a1 a2 a3 a4 : Option Addr) (l1 l2 l3 l4 c1 c2 c3 c4 : Nat) (w : World) :
    Calls Tryz.prog 87 #[.pointer (some ⟨M, 0, none⟩), .agg #[.int .i64 6, .string nm, .slice a1 l1 c1, .slice a2 l2 c2, .slice a3 l3 c3, .slice a4 l4 c4]] w (fun e w' => e = .returned (funV 140 M) ∧ Below w.heap.size w w') := by
  have hb : Below w.heap.size w (w.alloc (.cells #[.int .i64 6, .string nm, .slice a1 l1 c1, .slice a2 l2 c2, .slice a3 l3 c3, .slice a4 l4 c4] 72)) := (Below.refl _ w).alloc (Nat.le_refl _) _
  go_enter Tryz.func87, Tryz.ntmps87
  go_wp2_with fail
  go_ret
  exact ⟨rfl, hb⟩
set_option maxRecDepth 100000 in
theorem way_7 (M : Nat) (nm : ByteArray) (a1 a2 a3 a4 : Option Addr) (l1 l2 l3 l4 c1 c2 c3 c4 : Nat) (w : World) :
    Calls Tryz.prog 87 #[.pointer (some ⟨M, 0, none⟩), .agg #[.int .i64 7, .string nm, .slice a1 l1 c1, .slice a2 l2 c2, .slice a3 l3 c3, .slice a4 l4 c4]] w (fun e w' => e = .returned (funV 141 M) ∧ Below w.heap.size w w') := by
  have hb : Below w.heap.size w (w.alloc (.cells #[.int .i64 7, .string nm, .slice a1 l1 c1, .slice a2 l2 c2, .slice a3 l3 c3, .slice a4 l4 c4] 72)) := (Below.refl _ w).alloc (Nat.le_refl _) _
  go_enter Tryz.func87, Tryz.ntmps87
  go_wp2_with fail
  go_ret
  exact ⟨rfl, hb⟩
theorem more_fresh (s : Lw) (i : Nat) : (s.more i).fresh = s.more (i + 1) := by
  unfold Lw.more Lw.fresh
  simp only [Lw.mk.injEq, and_true]
  omega
theorem more_zero (s : Lw) : s.more 0 = s := by
  unfold Lw.more
  cases s
  simp
theorem fresh_only (K : Le) (hk : K.ok) (s : Lw) (r : Option Nat) (w : World) (h : La K w s r) (hf : Few s 1) :
    Calls Tryz.prog 59 #[.pointer (some ⟨K.M, 0, none⟩)] w (fun e w' => e = .returned (.int .i64 s.pts) ∧ Only K.M w w' ∧ La K w' s.fresh r) := by
  obtain ⟨ve, hm, he⟩ := h
  have c4 : w.cell? ⟨K.M, 4, none⟩ = some (.int .i64 s.pts) := hm.mach.cell 4
  have z4 : w.frozen? ⟨K.M, 4, none⟩ = false := hm.mach.free 4
  have hp := hm.p0
  have hp1 := hf.p
  have hb : s.pts + 1 ≤ 9223372036854775807 := by omega
  have hb0 : -9223372036854775808 ≤ s.pts + 1 := by omega
  obtain ⟨T, hT⟩ : ∃ T : Int, s.pts = T := ⟨_, rfl⟩
  rw [hT] at c4 hb hb0 hp ⊢
  have hb1 : -9223372036854775808 ≤ T := by omega
  have HH := Lib.hid (And.intro hk (And.intro hm (And.intro hT (And.intro he hp))))
  clear hk hm hT he hf hp1 hp
  go_enter Tryz.func59, Tryz.ntmps59
  go_wp2_with fail
  go_ret
  obtain ⟨hk, hm, hT, he, hp⟩ := HH.out
  have ho : Only K.M w (w.setCell ⟨K.M, 4, none⟩ (.int .i64 (T + 1))) := (Only.refl K.M w).setCell (p := ⟨K.M, 4, none⟩) rfl _
  have hX2 := hm.mach.set 4 (.int .i64 (T + 1))
  have e2 : (lowV K s ve).setIfInBounds 4 (.int .i64 (T + 1)) = lowV K s.fresh ve := by unfold lowV; rw [← hT]; rfl
  rw [e2] at hX2
  exact ⟨rfl, ho, ve, hm.setM hk ho hX2 hm.eds (by show 0 ≤ s.pts + 1; omega) hm.t0 hm.t1, he⟩
theorem La.grown {K : Le} (hk : K.ok) {w w' : World} {s : Lw} {r row : Option Nat} (h : La K w s r) (hg : w.grownBy w' row) (hr : ∀ g, row = some g → K.B1 ≤ g ∧ r ≠ some g) : La K w' s r := by
  cases row with
  | none => exact h.next hk ⟨hg.os, hg.tape, hg.output, hg.size, fun k hlt => hg.block k hlt (by simp)⟩
  | some g => exact h.tmp hk (hr g rfl).1 (hr g rfl).2 ⟨hg.os, hg.tape, hg.output, hg.size, fun k hlt hne => hg.block k hlt (fun e => hne (Option.some.inj e))⟩
theorem Kl.far {K : Le} {r r' row : Option Nat} {a w w' : World} (h : Kl K r r' a w) (hg : w.grownBy w' row) (hr : ∀ g, row = some g → a.heap.size ≤ g) : Kl K r r' a w' where
  os := hg.os.trans h.os
  tape := hg.tape.trans h.tape
  output := hg.output.trans h.output
  size := Nat.le_trans h.size hg.size
  block := fun b hb h1 h4 => (hg.block b (Nat.lt_of_lt_of_le hb h.size) (fun e => by have := hr b e.symm; omega)).trans (h.block b hb h1 h4)
  row := h.row
theorem kindS_of {w : World} {x : Nd} {k : Int} {s : ByteArray} {v1 v2 v3 v4 : Value} (hty : x.ty = .S) (h : NdIn w x [.int .i64 k, .string s, v1, v2, v3, v4]) : kindN x = k := by
  obtain ⟨ty, k', n', nm', xs', cs', ts', es'⟩ := x
  simp only [Nd.ty] at hty
  subst hty
  unfold NdIn at h
  obtain ⟨-, -, -, -, vx, vc, vt, ve, e, -⟩ := h
  simp only [lay, List.cons.injEq, Value.int.injEq, true_and] at e
  exact e.1.symm
theorem sitem_at {w0 w : World} {xs : List Nd} {b0 o0 : Nat} (hr : RowIn w0 .S xs b0 o0) (hb : Below w0.heap.size w0 w) (i : Nat) (hi : i < xs.length) : ∃ k s a1 l1 c1 a2 l2 c2 a3 l3 c3 a4 l4 c4, kindN xs[i] = k ∧ NdIn w0 xs[i] [.int .i64 k, .string s, .slice a1 l1 c1, .slice a2 l2 c2, .slice a3 l3 c3, .slice a4 l4 c4] ∧ w.cell? ⟨b0, o0 + i * 6, none⟩ = some (.int .i64 k) ∧ w.cell? ⟨b0, o0 + i * 6 + 1, none⟩ = some (.string s) ∧ w.cell? ⟨b0, o0 + i * 6 + 2, none⟩ = some (.slice a1 l1 c1) ∧ w.cell? ⟨b0, o0 + i * 6 + 3, none⟩ = some (.slice a2 l2 c2) ∧ w.cell? ⟨b0, o0 + i * 6 + 4, none⟩ = some (.slice a3 l3 c3) ∧ w.cell? ⟨b0, o0 + i * 6 + 5, none⟩ = some (.slice a4 l4 c4) := by
  obtain ⟨hty, vs, hc, hnd⟩ := RowIn.at xs b0 o0 i hi hr
  have hl := hnd.len
  rw [hty] at hl
  obtain ⟨v0, v1, v2, v3, v4, v5, rfl⟩ : ∃ a b c d e f, vs = [a, b, c, d, e, f] := by
    match vs, hl with
    | [a, b, c, d, e, f], _ => exact ⟨_, _, _, _, _, _, rfl⟩
  obtain ⟨k, s, a1, l1, c1, a2, l2, c2, a3, l3, c3, a4, l4, c4, rfl, rfl, rfl, rfl, rfl, rfl⟩ := NdIn.formS hty hnd
  have hkd := kindS_of hty hnd
  have kk := keeps_below hb
  exact ⟨k, s, a1, l1, c1, a2, l2, c2, a3, l3, c3, a4, l4, c4, hkd, hnd, kk _ _ _ (hc 0 _ rfl), kk _ _ _ (hc 1 _ rfl), kk _ _ _ (hc 2 _ rfl), kk _ _ _ (hc 3 _ rfl), kk _ _ _ (hc 4 _ rfl), kk _ _ _ (hc 5 _ rfl)⟩
theorem info_intc : (Tryz.prog.info? 3).map (fun i => (i.zero, i.size, i.bytes)) = some (some (.int .i64 0), 1, 8) := by kernel_rfl
def endsV (p : Int) (n : Nat) : List Value := (List.range n).map (fun (j : Nat) => Value.int .i64 (p + (j : Int)))
theorem endsV_succ (p : Int) (n : Nat) : endsV p (n + 1) = endsV p n ++ [.int .i64 (p + (n : Int))] := by unfold endsV; rw [List.range_succ, List.map_append]; rfl
theorem endsV_len (p : Int) (n : Nat) : (endsV p n).length = n := by simp [endsV]
end Go.Proofs.YtjpopelbdhgidaaGreatDoor
