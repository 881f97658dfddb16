/-
  The project's label of a node (tree's labelOf): proved is what it holds: the node's type as a letter, its two numbers, its name, how many nodes each of its lists has; and that nothing that lay is turned.
-/
import Derived.Test.YtpildlaloclanaaThru
namespace Go.Proofs.Ytpildlaloclanaa
open Go Go.RowKit

def letter : Ty → Int | .E => 69 | .C => 67 | .S => 83 | .D => 68
def labV : Nd → Value
  | .mk ty k n s xs cs ts es => .agg #[.int .u8 (letter ty), .int .i64 k, .int .i64 n, .string s, .int .i64 cs.length, .int .i64 xs.length, .int .i64 ts.length, .int .i64 es.length]
theorem label_end (w W : World) (l k n c0 c1 c2 c3 : Int) (s : ByteArray) {tm : Array Value} (bR : Blk W w.heap.size #[.int .u8 l, .int .i64 k, .int .i64 n, .string s, .int .i64 c0, .int .i64 c1, .int .i64 c2, .int .i64 c3] 121) (hb2 : Below w.heap.size w W) (h2 : tm[2]? = some (.pointer (some ⟨w.heap.size, 0, none⟩))) :
    bodyPost Try.prog Try.f65 (fun e w' => e = .returned (.agg #[.int .u8 l, .int .i64 k, .int .i64 n, .string s, .int .i64 c0, .int .i64 c1, .int .i64 c2, .int .i64 c3]) ∧ Below w.heap.size w w') .ret { tmps := tm, defers := [] } W := by
  have q0 : W.cell? ⟨w.heap.size, 0, none⟩ = some (.int .u8 l) := bR.cell 0
  have q1 : W.cell? ⟨w.heap.size, 1, none⟩ = some (.int .i64 k) := bR.cell 1
  have q2 : W.cell? ⟨w.heap.size, 2, none⟩ = some (.int .i64 n) := bR.cell 2
  have q3 : W.cell? ⟨w.heap.size, 3, none⟩ = some (.string s) := bR.cell 3
  have q4 : W.cell? ⟨w.heap.size, 4, none⟩ = some (.int .i64 c0) := bR.cell 4
  have q5 : W.cell? ⟨w.heap.size, 5, none⟩ = some (.int .i64 c1) := bR.cell 5
  have q6 : W.cell? ⟨w.heap.size, 6, none⟩ = some (.int .i64 c2) := bR.cell 6
  have q7 : W.cell? ⟨w.heap.size, 7, none⟩ = some (.int .i64 c3) := bR.cell 7
  exact bodyPost_ret (v := .agg #[.int .u8 l, .int .i64 k, .int .i64 n, .string s, .int .i64 c0, .int .i64 c1, .int .i64 c2, .int .i64 c3]) (by simp [results, Try.results65, go_sem, q0, q1, q2, q3, q4, q5, q6, q7, h2]) rfl ⟨rfl, hb2⟩

set_option maxRecDepth 100000 in
set_option maxHeartbeats 4000000 in
theorem labelOf_any (x : Nd) (vs : List Value) (w0 w : World) (hin : NdIn w0 x vs) :
    Calls Try.prog 65 #[nodeV x.ty vs] w (fun e w' => e = .returned (labV x) ∧ Below w.heap.size w w') := by
  obtain ⟨ty, k, n, nm, xs, cs, ts, es⟩ := x
  unfold NdIn at hin
  obtain ⟨hfit, -, -, hnm, vx, vc, vt, ve, rfl, hx, hc, ht, he⟩ := hin
  obtain ⟨a, c, rfl, -, -, -⟩ := hx
  obtain ⟨a2, c2, rfl, -, -, -⟩ := hc
  obtain ⟨a3, c3, rfl, -, -, -⟩ := ht
  obtain ⟨a4, c4, rfl, -, -, -⟩ := he
  clear hnm
  cases ty with
  | E =>
    obtain ⟨rfl, rfl, rfl⟩ := hfit
    have e : labV (.mk .E k n nm xs [] [] []) = .agg #[.int .u8 69, .int .i64 k, .int .i64 n, .string nm, .int .i64 0, .int .i64 xs.length, .int .i64 0, .int .i64 0] := rfl
    rw [e]
    clear e
    change Calls _ _ #[.iface 88 (.agg #[.int .i64 k, .int .i64 n, .string nm, .slice a xs.length c])] w _
    have hal := ((Below.refl w.heap.size w).alloc (Nat.le_refl _) (.cells #[.int .u8 69, .int .i64 k, .int .i64 n, .string nm, .int .i64 0, .int .i64 xs.length, .int .i64 0, .int .i64 0] 121)).alloc (by simp) (.cells #[.int .i64 k, .int .i64 n, .string nm, .slice a xs.length c] 88)
    have hR : Blk ((w.alloc (.cells #[.int .u8 69, .int .i64 k, .int .i64 n, .string nm, .int .i64 0, .int .i64 xs.length, .int .i64 0, .int .i64 0] 121)).alloc (.cells #[.int .i64 k, .int .i64 n, .string nm, .slice a xs.length c] 88)) w.heap.size #[.int .u8 69, .int .i64 k, .int .i64 n, .string nm, .int .i64 0, .int .i64 xs.length, .int .i64 0, .int .i64 0] 121 := (Blk.new w _ _).alloc _
    have HAL := Lib.hid hal; clear hal
    have HR := Lib.hid hR; clear hR
    have y0 := asD 88 (by decide)
    have y1 := asS 88 (by decide)
    have y2 := asC 88 (by decide)
    have y3 := isE
    go_enter Try.func65, Try.ntmps65
    go_wp2_with fail
    exact label_end w _ 69 k n 0 xs.length 0 0 nm HR.out HAL.out rfl
  | C =>
    obtain ⟨rfl, rfl, rfl⟩ := hfit
    have e : labV (.mk .C k n ⟨#[]⟩ xs cs [] []) = .agg #[.int .u8 67, .int .i64 k, .int .i64 n, .string ⟨#[]⟩, .int .i64 cs.length, .int .i64 xs.length, .int .i64 0, .int .i64 0] := rfl
    rw [e]
    clear e
    change Calls _ _ #[.iface 91 (.agg #[.int .i64 k, .int .i64 n, .slice a xs.length c, .slice a2 cs.length c2])] w _
    have hal := ((Below.refl w.heap.size w).alloc (Nat.le_refl _) (.cells #[.int .u8 67, .int .i64 k, .int .i64 n, .string ⟨#[]⟩, .int .i64 cs.length, .int .i64 xs.length, .int .i64 0, .int .i64 0] 121)).alloc (by simp) (.cells #[.int .i64 k, .int .i64 n, .slice a xs.length c, .slice a2 cs.length c2] 91)
    have hR : Blk ((w.alloc (.cells #[.int .u8 67, .int .i64 k, .int .i64 n, .string ⟨#[]⟩, .int .i64 cs.length, .int .i64 xs.length, .int .i64 0, .int .i64 0] 121)).alloc (.cells #[.int .i64 k, .int .i64 n, .slice a xs.length c, .slice a2 cs.length c2] 91)) w.heap.size #[.int .u8 67, .int .i64 k, .int .i64 n, .string ⟨#[]⟩, .int .i64 cs.length, .int .i64 xs.length, .int .i64 0, .int .i64 0] 121 := (Blk.new w _ _).alloc _
    have HAL := Lib.hid hal; clear hal
    have HR := Lib.hid hR; clear hR
    have y0 := asD 91 (by decide)
    have y1 := asS 91 (by decide)
    have y2 := isC
    go_enter Try.func65, Try.ntmps65
    go_wp2_with fail
    exact label_end w _ 67 k n cs.length xs.length 0 0 ⟨#[]⟩ HR.out HAL.out rfl
  | S =>
    obtain rfl := hfit
    have e : labV (.mk .S k 0 nm xs cs ts es) = .agg #[.int .u8 83, .int .i64 k, .int .i64 0, .string nm, .int .i64 cs.length, .int .i64 xs.length, .int .i64 ts.length, .int .i64 es.length] := rfl
    rw [e]
    clear e
    change Calls _ _ #[.iface 114 (.agg #[.int .i64 k, .string nm, .slice a xs.length c, .slice a2 cs.length c2, .slice a3 ts.length c3, .slice a4 es.length c4])] w _
    have hal := ((Below.refl w.heap.size w).alloc (Nat.le_refl _) (.cells #[.int .u8 83, .int .i64 k, .int .i64 0, .string nm, .int .i64 cs.length, .int .i64 xs.length, .int .i64 ts.length, .int .i64 es.length] 121)).alloc (by simp) (.cells #[.int .i64 k, .string nm, .slice a xs.length c, .slice a2 cs.length c2, .slice a3 ts.length c3, .slice a4 es.length c4] 114)
    have hR : Blk ((w.alloc (.cells #[.int .u8 83, .int .i64 k, .int .i64 0, .string nm, .int .i64 cs.length, .int .i64 xs.length, .int .i64 ts.length, .int .i64 es.length] 121)).alloc (.cells #[.int .i64 k, .string nm, .slice a xs.length c, .slice a2 cs.length c2, .slice a3 ts.length c3, .slice a4 es.length c4] 114)) w.heap.size #[.int .u8 83, .int .i64 k, .int .i64 0, .string nm, .int .i64 cs.length, .int .i64 xs.length, .int .i64 ts.length, .int .i64 es.length] 121 := (Blk.new w _ _).alloc _
    have HAL := Lib.hid hal; clear hal
    have HR := Lib.hid hR; clear hR
    have y0 := asD 114 (by decide)
    have y1 := isS
    go_enter Try.func65, Try.ntmps65
    go_wp2_with fail
    exact label_end w _ 83 k 0 cs.length xs.length ts.length es.length nm HR.out HAL.out rfl
  | D =>
    obtain ⟨rfl, rfl, rfl, rfl, rfl⟩ := hfit
    have e : labV (.mk .D 0 n nm [] [] [] []) = .agg #[.int .u8 68, .int .i64 0, .int .i64 n, .string nm, .int .i64 0, .int .i64 0, .int .i64 0, .int .i64 0] := rfl
    rw [e]
    clear e
    change Calls _ _ #[.iface 113 (.agg #[.string nm, .int .i64 n])] w _
    have hal := ((Below.refl w.heap.size w).alloc (Nat.le_refl _) (.cells #[.int .u8 68, .int .i64 0, .int .i64 n, .string nm, .int .i64 0, .int .i64 0, .int .i64 0, .int .i64 0] 121)).alloc (by simp) (.cells #[.string nm, .int .i64 n] 113)
    have hR : Blk ((w.alloc (.cells #[.int .u8 68, .int .i64 0, .int .i64 n, .string nm, .int .i64 0, .int .i64 0, .int .i64 0, .int .i64 0] 121)).alloc (.cells #[.string nm, .int .i64 n] 113)) w.heap.size #[.int .u8 68, .int .i64 0, .int .i64 n, .string nm, .int .i64 0, .int .i64 0, .int .i64 0, .int .i64 0] 121 := (Blk.new w _ _).alloc _
    have HAL := Lib.hid hal; clear hal
    have HR := Lib.hid hR; clear hR
    have y0 := isD
    go_enter Try.func65, Try.ntmps65
    go_wp2_with fail
    exact label_end w _ 68 0 n 0 0 0 0 nm HR.out HAL.out rfl
end Go.Proofs.Ytpildlaloclanaa
