/-
  The project's text of an expression (writer.expr, item, arg): proved is that it is written behind what is there.
-/
import Derived.Test.YtbchibmmkmldiaaGreatDoorPrintP
import Derived.Test.YtbchibmmkmldiaaGreatDoorTwalkS
import Derived.Test.YtbchibmmkmldiaaGreatDoorShelf
import Derived.Lib.AppendIntMem
import Derived.Deep.RegionWith
namespace Go.Proofs.YtbchibmmkmldiaaGreatDoor
open Go Go.RowKit Go.Shelf

theorem tab_next {w w' : World} {k : IntKind} {n : String} {zs : List Int} (h : Lib.TabIs Tryz.prog w n k zs) (hb : Below w.heap.size w w') : Lib.TabIs Tryz.prog w' n k zs := by
  unfold Lib.TabIs World.var? at h ⊢
  cases hg : Tryz.prog.globalNamed n with
  | none => rw [hg] at h; cases h
  | some g =>
    rw [hg] at h
    simp only [Option.bind_some] at h ⊢
    have hlt : g < w.heap.size := by
      rcases Nat.lt_or_ge g w.heap.size with h' | h'
      · exact h'
      · rw [Array.getElem?_eq_none h'] at h; cases h
    rw [hb.block g hlt]
    exact h
theorem blk_two (w : World) (o : Obj) (cs : Array Value) (t : TypeId) : Blk ((w.alloc o).alloc (.cells cs t)) (w.heap.size + 1) cs t := by
  have h := Blk.new (w.alloc o) cs t
  rwa [World.size_alloc] at h
/-- A node's text is written. -/
def WExpr (T : TypeId) (rest : List Value) (w0 : World) (B0 b : Nat) (x : Nd) : Prop := ∀ us l w, NdIn w0 x us → Below w0.heap.size w0 w → Bd T rest B0 b l w → l.length + cstN x ≤ 1099511627776 →
  Calls Tryz.prog 17 #[.pointer (some ⟨b, 0, none⟩), .agg us.toArray] w (Wrote T rest B0 b (l ++ txtN x) w)
theorem Kp.old {B0 b : Nat} {w0 w w' : World} (h : Kp B0 b w w') (hw : Below w0.heap.size w0 w) (hB : w0.heap.size ≤ B0) : Below w0.heap.size w0 w' := hw.trans (h.1.mono hB)
theorem Kp.nxt {B0 b : Nat} {w w1 w' : World} (h : Kp B0 b w w1) (hb : Below w1.heap.size w1 w') (hs : B0 ≤ w.heap.size) : Kp B0 b w w' := h.trans (Kp.below hb (Nat.le_trans hs h.size))

set_option maxRecDepth 100000 in
theorem item_any (T : TypeId) (rest : List Value) (hT : Lies T (2 + rest.length)) (hT8 : T ≠ 5) (w0 : World) (B0 b : Nat) (hB0 : w0.heap.size ≤ B0) (x : Nd) (hty : x.ty = .E) (hx : WExpr T rest w0 B0 b x) (hle : (txtN x).length ≤ cstN x) (nm : ByteArray) (us : List Value) (l : List UInt8) (w : World) (hin : NdIn w0 x us) (hw : Below w0.heap.size w0 w) (h : Bd T rest B0 b l w) (hlen : l.length + nm.size + cstN x + 2 ≤ 1099511627776) :
    Calls Tryz.prog 32 #[.pointer (some ⟨b, 0, none⟩), .string nm, .agg us.toArray] w (Wrote T rest B0 b (l ++ (nm.data.toList ++ ([91] ++ (txtN x ++ [93])))) w) := by
  have hBw : B0 ≤ w.heap.size := Nat.le_trans h.base (Nat.le_of_lt h.size)
  have hnd := hin.len
  rw [hty] at hnd
  obtain ⟨v0, v1, v2, v3, rfl⟩ : ∃ a b c d, us = [a, b, c, d] := by
    match us, hnd with
    | [a, b, c, d], _ => exact ⟨_, _, _, _, rfl⟩
  obtain ⟨k, n, s, a, len, c, rfl, rfl, rfl, rfl⟩ := NdIn.formE hty hin
  change Calls _ _ #[_, _, .agg #[.int .i64 k, .int .i64 n, .string s, .slice a len c]] w _
  obtain ⟨W1, hW1⟩ : ∃ W1, w.alloc (.cells #[.int .i64 k, .int .i64 n, .string s, .slice a len c] 36) = W1 := ⟨_, rfl⟩
  obtain ⟨X, hX⟩ : ∃ X, w.heap.size = X := ⟨_, rfl⟩
  have hX1 : Blk W1 X #[.int .i64 k, .int .i64 n, .string s, .slice a len c] 36 := by rw [← hW1, ← hX]; exact Blk.new w _ _
  have h1 : Bd T rest B0 b l W1 := by rw [← hW1]; exact h.alloc _
  have hk1 : Kp B0 b w W1 := by rw [← hW1]; exact (Kp.refl _ _ _).alloc hBw _
  have hXb : X ≠ b := by have := h.size; omega
  have hB1 : B0 ≤ W1.heap.size := Nat.le_trans hBw hk1.size
  have HC := Lib.hid (ws_any T rest B0 b l nm W1 hT hT8 h1 (by omega) hB1)
  have HX1 := Lib.hid hX1; clear hX1
  have HK1 := Lib.hid hk1; clear hk1 h1 h
  have HIN := Lib.hid hin; clear hin
  have HWE := Lib.hid hx; clear hx
  have HW := Lib.hid hw; clear hw
  have HW1 := Lib.hid hW1; clear hW1
  have HXX := Lib.hid hX; clear hX
  go_enter Tryz.func32, Tryz.ntmps32
  go_upto_region 1 with fail
  rw [HW1.out, HXX.out]
  clear HW1
  go_wp2_with fail
  refine HC.out.mono ?_
  rintro e w1 ⟨rfl, h1, hk1⟩
  have HC1 := Lib.hid (ws_any T rest B0 b _ ⟨#[91]⟩ w1 hT hT8 (.inr h1) (by simp only [List.length_append, show nm.data.toList.length = nm.size from rfl, show (⟨#[91]⟩ : ByteArray).size = 1 from rfl]; omega) (Nat.le_trans hB1 hk1.size))
  have HX2 := Lib.hid (HX1.out.kp hk1 hXb (by decide)); clear HX1
  have HK2 := Lib.hid (HK1.out.trans hk1); clear hk1 h1 HC HK1
  go_wp2_with fail
  refine HC1.out.mono ?_
  rintro e w2 ⟨rfl, h2, hk2⟩
  have hX3 := HX2.out.kp hk2 hXb (by decide)
  have hk3 := HK2.out.trans hk2
  have m0 : w2.cell? ⟨X, 0, none⟩ = some (.int .i64 k) := hX3.cell 0
  have m1 : w2.cell? ⟨X, 1, none⟩ = some (.int .i64 n) := hX3.cell 1
  have m2 : w2.cell? ⟨X, 2, none⟩ = some (.string s) := hX3.cell 2
  have m3 : w2.cell? ⟨X, 3, none⟩ = some (.slice a len c) := hX3.cell 3
  have HC2 := Lib.hid (HWE.out _ _ w2 HIN.out (hk3.old HW.out hB0) (.inr h2) (by simp only [List.length_append, List.length_cons, List.length_nil, show nm.data.toList.length = nm.size from rfl]; omega))
  have HK3 := Lib.hid hk3; clear hk3 hk2 h2 HC1 HK2 HX2 hX3
  go_wp2_with fail
  refine HC2.out.mono ?_
  rintro e w3 ⟨rfl, h3, hk4⟩
  have HC3 := Lib.hid (ws_any T rest B0 b _ ⟨#[93]⟩ w3 hT hT8 h3 (by simp only [List.length_append, List.length_cons, List.length_nil, show nm.data.toList.length = nm.size from rfl, show (⟨#[93]⟩ : ByteArray).size = 1 from rfl]; omega) (Nat.le_trans hBw (Nat.le_trans HK3.out.size hk4.size)))
  have HK4 := Lib.hid (HK3.out.trans hk4); clear hk4 h3 HC2 HK3 m0 m1 m2 m3
  go_wp2_with fail
  refine HC3.out.mono ?_
  rintro e w4 ⟨rfl, h4, hk5⟩
  have H4 := Lib.hid h4; clear h4
  have HK5 := Lib.hid (HK4.out.trans hk5); clear hk5 HC3
  go_wp2_with fail
  go_end0
  exact ⟨rfl, .inr (by have := H4.out; simpa using this), HK5.out⟩

set_option maxRecDepth 100000 in
/-- The function value that writes an argument. -/
theorem argf_any (T : TypeId) (rest : List Value) (w0 : World) (B0 b : Nat) (x : Nd) (hx : WExpr T rest w0 B0 b x) (c3 c4 : Nat) (T3 : TypeId) (k n : Int) (s : ByteArray) (a : Option Addr) (len c : Nat) (l : List UInt8) (w : World) (hin : NdIn w0 x [.int .i64 k, .int .i64 n, .string s, .slice a len c]) (hw : Below w0.heap.size w0 w) (h3 : Blk w c3 #[.pointer (some ⟨b, 0, none⟩)] T3) (h4 : Blk w c4 #[.int .i64 k, .int .i64 n, .string s, .slice a len c] 36) (h : Bd T rest B0 b l w) (hlen : l.length + cstN x ≤ 1099511627776) :
    Calls Tryz.prog 61 #[.pointer (some ⟨c3, 0, none⟩), .pointer (some ⟨c4, 0, none⟩)] w (Wrote T rest B0 b (l ++ txtN x) w) := by
  have HC := Lib.hid (hx _ l w hin hw h hlen)
  have k3 : w.cell? ⟨c3, 0, none⟩ = some (.pointer (some ⟨b, 0, none⟩)) := h3.cell 0
  have m0 : w.cell? ⟨c4, 0, none⟩ = some (.int .i64 k) := h4.cell 0
  have m1 : w.cell? ⟨c4, 1, none⟩ = some (.int .i64 n) := h4.cell 1
  have m2 : w.cell? ⟨c4, 2, none⟩ = some (.string s) := h4.cell 2
  have m3 : w.cell? ⟨c4, 3, none⟩ = some (.slice a len c) := h4.cell 3
  clear hx h3 h4 h
  go_enter Tryz.func61, Tryz.ntmps61
  go_wp2_with fail
  refine HC.out.mono ?_
  rintro e w1 ⟨rfl, h1, hk1⟩
  have H1 := Lib.hid h1; clear h1
  have HK1 := Lib.hid hk1; clear hk1
  go_wp2_with fail
  go_end0
  exact ⟨rfl, H1.out, HK1.out⟩

set_option maxRecDepth 100000 in
set_option maxHeartbeats 4000000 in
theorem arg_any (T : TypeId) (rest : List Value) (hT : Lies T (2 + rest.length)) (hT8 : T ≠ 5) (w0 : World) (B0 b : Nat) (hB0 : w0.heap.size ≤ B0) (x : Nd) (hty : x.ty = .E) (hx : WExpr T rest w0 B0 b x) (hle : (txtN x).length ≤ cstN x) (us : List Value) (least : Int) (l : List UInt8) (w : World) (hin : NdIn w0 x us) (hw : Below w0.heap.size w0 w) (h : Bd T rest B0 b l w) (hlen : l.length + cstN x + 2 ≤ 1099511627776) :
    Calls Tryz.prog 33 #[.pointer (some ⟨b, 0, none⟩), .agg us.toArray, .int .i64 least] w (Wrote T rest B0 b (l ++ par (decide (levE (kdN x) < least)) ⟨#[40]⟩ ⟨#[41]⟩ (txtN x)) w) := by
  have hBw : B0 ≤ w.heap.size := Nat.le_trans h.base (Nat.le_of_lt h.size)
  have hnd := hin.len
  rw [hty] at hnd
  obtain ⟨v0, v1, v2, v3, rfl⟩ : ∃ a b c d, us = [a, b, c, d] := by
    match us, hnd with
    | [a, b, c, d], _ => exact ⟨_, _, _, _, rfl⟩
  obtain ⟨k, n, s, a, len, c, rfl, rfl, rfl, rfl⟩ := NdIn.formE hty hin
  have hkd : kdN x = k := by
    obtain ⟨ty, k', n', nm, xs, cs, ts, es⟩ := x
    simp only [Nd.ty] at hty
    subst hty
    unfold NdIn at hin
    obtain ⟨-, -, -, -, vx, vc, vt, ve, hvs, -⟩ := hin
    simp only [lay, List.cons.injEq, Value.int.injEq, true_and] at hvs
    exact hvs.1.symm
  rw [hkd]
  clear hkd
  change Calls _ _ #[_, .agg #[.int .i64 k, .int .i64 n, .string s, .slice a len c], _] w _
  obtain ⟨W1, hW1⟩ : ∃ W1, (w.alloc (.cells #[.pointer (some ⟨b, 0, none⟩)] 85)).alloc (.cells #[.int .i64 k, .int .i64 n, .string s, .slice a len c] 36) = W1 := ⟨_, rfl⟩
  obtain ⟨X, hX⟩ : ∃ X, w.heap.size = X := ⟨_, rfl⟩
  have h3 : Blk W1 X #[.pointer (some ⟨b, 0, none⟩)] 85 := by rw [← hW1, ← hX]; exact (Blk.new w _ _).alloc _
  have h4 : Blk W1 (X + 1) #[.int .i64 k, .int .i64 n, .string s, .slice a len c] 36 := by rw [← hW1, ← hX]; exact blk_two w _ _ _
  have h1 : Bd T rest B0 b l W1 := by rw [← hW1]; exact (h.alloc _).alloc _
  have hk1 : Kp B0 b w W1 := by rw [← hW1]; exact ((Kp.refl _ _ _).alloc hBw _).alloc (by rw [World.size_alloc]; omega) _
  have hXb : X ≠ b := by have := h.size; omega
  have hXb1 : X + 1 ≠ b := by have := h.size; omega
  have hB1 : B0 ≤ W1.heap.size := Nat.le_trans hBw hk1.size
  obtain ⟨need, hneed⟩ : ∃ d, decide (levE k < least) = d := ⟨_, rfl⟩
  rw [hneed]
  have HE := Lib.hid (fun w2 => elev_any k w2)
  have k3 : W1.cell? ⟨X, 0, none⟩ = some (.pointer (some ⟨b, 0, none⟩)) := h3.cell 0
  have k4 : W1.cell? ⟨X + 1, 0, none⟩ = some (.int .i64 k) := h4.cell 0
  have hwrap := wrapE_any T rest B0 b l (txtN x) ⟨#[40]⟩ ⟨#[41]⟩ need (.pointer (some ⟨X, 0, none⟩)) (.pointer (some ⟨X + 1, 0, none⟩)) W1.drew hT hT8 h1.drew (by simp only [show (⟨#[40]⟩ : ByteArray).size = 1 from rfl, show (⟨#[41]⟩ : ByteArray).size = 1 from rfl]; omega) hB1
    (fun l1 w1 hl1 hb1 hk => argf_any T rest w0 B0 b x hx X (X + 1) _ k n s a len c l1 w1 hin (hk.old (hk1.drew.old hw hB0) hB0) ((show Blk W1.drew X _ _ from h3).kp hk hXb (by decide)) ((show Blk W1.drew (X + 1) _ _ from h4).kp hk hXb1 (by decide)) hb1 (by have : (⟨#[40]⟩ : ByteArray).size = 1 := rfl; omega))
  have HWR := Lib.hid hwrap; clear hwrap
  have HK1 := Lib.hid hk1; clear hk1 h1 h h3 h4 hx hin hw
  have HW1 := Lib.hid hW1; clear hW1
  have HXX := Lib.hid hX; clear hX
  have HND := Lib.hid hneed; clear hneed
  obtain ⟨le, hle2⟩ : ∃ z, levE k = z := ⟨_, rfl⟩
  rw [hle2] at HE HND
  clear hle2
  go_enter Tryz.func33, Tryz.ntmps33
  go_upto_region 1 with fail
  rw [HW1.out, HXX.out]
  clear HW1
  have hnd2 : decide (le < least) = need := HND.out
  go_region_with (first | (go_at_call 29; (with_reducible refine (HE.out _).mono ?_); rintro e w2 ⟨rfl, rfl⟩) | (go_at_call 60; (with_reducible refine HWR.out.mono ?_); rintro e w3 ⟨rfl, h3, hk3⟩; (have H3 := Lib.hid h3); (have HK3 := Lib.hid (HK1.out.drew.trans hk3)); clear h3 hk3))
  all_goals
    go_wp2_with fail
    go_end0
    exact ⟨rfl, H3.out, HK3.out⟩
end Go.Proofs.YtbchibmmkmldiaaGreatDoor
