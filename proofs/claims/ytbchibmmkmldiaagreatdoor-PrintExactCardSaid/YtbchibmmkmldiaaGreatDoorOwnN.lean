/-
  The project's formless (tree's): proved is that it answers whether a node hasn't the form that the document asks of its own parts.
-/
import Derived.Test.YtbchibmmkmldiaaGreatDoorOwn
import Derived.Test.YtbchibmmkmldiaaGreatDoorOwnS
import Derived.Test.YtbchibmmkmldiaaGreatDoorTourH
import Derived.Stop.Asserts
namespace Go.Proofs.YtbchibmmkmldiaaGreatDoor
open Go Go.RowKit

section
variable {P : Program} {w : World} {t T xT : TypeId} {v z : Value}
def noIface (P : Program) (T : TypeId) : Bool := match P.underlying T with
  | some (.interface _) => false
  | some _ => true
  | none => false
theorem assert_yes (h : noIface P T = true) (v : Value) (xT : TypeId) (w : World) : (Instr.typeAssert (.iface T v) xT T true).run P w = .ok (.tuple #[v, .bool true]) w := by
  unfold noIface at h
  cases hu : P.underlying T with
  | none => rw [hu] at h; cases h
  | some u =>
    rw [hu] at h
    cases u <;> first | (cases h; done) | simp [Instr.typeAssert, run_underlying hu]
theorem assert_no (h : noIface P T = true) (hne : t ≠ T) (hz : (P.info? T).bind (·.zero) = some z) (v : Value) (xT : TypeId) (w : World) : (Instr.typeAssert (.iface t v) xT T true).run P w = .ok (.tuple #[z, .bool false]) w := by
  unfold noIface at h
  cases hj : P.info? T with
  | none => rw [hj] at hz; cases hz
  | some j =>
    rw [hj] at hz
    have hz' : j.zero = some z := hz
    cases hu : P.underlying T with
    | none => rw [hu] at h; cases h
    | some u =>
      rw [hu] at h
      cases u <;> first | (cases h; done) | simp [Instr.typeAssert, run_underlying hu, typeInfo, zeroValue, hj, hz', hne]
end
theorem asD (t : TypeId) (hne : t ≠ 118) (v : Value) (xT : TypeId) (w : World) : (Instr.typeAssert (.iface t v) xT 118 true).run Tryz.prog w = .ok (.tuple #[.agg #[.string ⟨#[]⟩, .int .i64 0], .bool false]) w := assert_no (by kernel_rfl) hne (by kernel_rfl) v xT w
theorem asS (t : TypeId) (hne : t ≠ 119) (v : Value) (xT : TypeId) (w : World) : (Instr.typeAssert (.iface t v) xT 119 true).run Tryz.prog w = .ok (.tuple #[.agg #[.int .i64 0, .string ⟨#[]⟩, .slice none 0 0, .slice none 0 0, .slice none 0 0, .slice none 0 0], .bool false]) w := assert_no (by kernel_rfl) hne (by kernel_rfl) v xT w
theorem asC (t : TypeId) (hne : t ≠ 122) (v : Value) (xT : TypeId) (w : World) : (Instr.typeAssert (.iface t v) xT 122 true).run Tryz.prog w = .ok (.tuple #[.agg #[.int .i64 0, .int .i64 0, .slice none 0 0, .slice none 0 0], .bool false]) w := assert_no (by kernel_rfl) hne (by kernel_rfl) v xT w
theorem isE (v : Value) (xT : TypeId) (w : World) : (Instr.typeAssert (.iface 84 v) xT 84 true).run Tryz.prog w = .ok (.tuple #[v, .bool true]) w := assert_yes (by kernel_rfl) v xT w
theorem isC (v : Value) (xT : TypeId) (w : World) : (Instr.typeAssert (.iface 122 v) xT 122 true).run Tryz.prog w = .ok (.tuple #[v, .bool true]) w := assert_yes (by kernel_rfl) v xT w
theorem isS (v : Value) (xT : TypeId) (w : World) : (Instr.typeAssert (.iface 119 v) xT 119 true).run Tryz.prog w = .ok (.tuple #[v, .bool true]) w := assert_yes (by kernel_rfl) v xT w
theorem isD (v : Value) (xT : TypeId) (w : World) : (Instr.typeAssert (.iface 118 v) xT 118 true).run Tryz.prog w = .ok (.tuple #[v, .bool true]) w := assert_yes (by kernel_rfl) v xT w

def wellD (n : Int) : Bool := !(decide (n < 0) || decide (2147483647 < n))
/-- A node's own parts are as the document asks. -/
def wellN : Nd → Bool
  | .mk .E k n nm xs _ _ _ => wellE k n nm xs.length
  | .mk .C k n _ xs cs _ _ => wellC k n xs.length cs.length
  | .mk .S k _ nm xs cs ts es => wellS k nm xs.length cs.length ts.length es.length
  | .mk .D _ n _ _ _ _ _ => wellD n

set_option maxRecDepth 100000 in
set_option maxHeartbeats 4000000 in
theorem formless_any (x : Nd) (vs : List Value) (w0 w : World) (hin : NdIn w0 x vs) :
    Calls Tryz.prog 42 #[nodeV x.ty vs] w (fun e w' => e = .returned (.bool (!wellN x)) ∧ Below w.heap.size w w') := by
  obtain ⟨ty, k, n, nm, xs, cs, ts, es⟩ := x
  unfold NdIn at hin
  obtain ⟨-, -, -, hnm, vx, vc, vt, ve, rfl, hx, hc, ht, he⟩ := hin
  obtain ⟨a, c, rfl, -, -, -⟩ := hx
  obtain ⟨a2, c2, rfl, -, -, -⟩ := hc
  obtain ⟨a3, c3, rfl, h3a, h3b, -⟩ := ht
  obtain ⟨a4, c4, rfl, h4a, h4b, -⟩ := he
  have ht := Nat.le_trans h3a h3b
  have he := Nat.le_trans h4a h4b
  clear h3a h3b h4a h4b
  cases ty with
  | E =>
    change Calls _ _ #[.iface 84 (.agg #[.int .i64 k, .int .i64 n, .string nm, .slice a xs.length c])] w (fun e w' => e = .returned (.bool (!wellE k n nm xs.length)) ∧ Below w.heap.size w w')
    have hf := fun w => exprForm_any k n nm a xs.length c w
    obtain ⟨b, hb⟩ : ∃ b, wellE k n nm xs.length = b := ⟨_, rfl⟩
    rw [hb]
    simp only [hb] at hf
    clear hb ht he hnm
    have HF := Lib.hid hf; clear hf
    have hal := (Below.refl w.heap.size w).alloc (Nat.le_refl _) (.cells #[.int .i64 k, .int .i64 n, .string nm, .slice a xs.length c] 84)
    have HAL := Lib.hid hal; clear hal
    have y1 := asD 84 (by decide)
    have y2 := asS 84 (by decide)
    have y3 := asC 84 (by decide)
    have y4 := isE
    go_enter Tryz.func42, Tryz.ntmps42
    go_wp2_with (first | (go_at_call 65; (with_reducible refine (HF.out _).mono ?_); rintro e w1 ⟨rfl, hw1⟩) | fail)
    go_ret
    exact ⟨rfl, HAL.out.trans (hw1.mono HAL.out.size)⟩
  | C =>
    change Calls _ _ #[.iface 122 (.agg #[.int .i64 k, .int .i64 n, .slice a xs.length c, .slice a2 cs.length c2])] w (fun e w' => e = .returned (.bool (!wellC k n xs.length cs.length)) ∧ Below w.heap.size w w')
    have hf := fun w => condForm_any k n a xs.length c a2 cs.length c2 w
    obtain ⟨b, hb⟩ : ∃ b, wellC k n xs.length cs.length = b := ⟨_, rfl⟩
    rw [hb]
    simp only [hb] at hf
    clear hb ht he hnm
    have HF := Lib.hid hf; clear hf
    have hal := (Below.refl w.heap.size w).alloc (Nat.le_refl _) (.cells #[.int .i64 k, .int .i64 n, .slice a xs.length c, .slice a2 cs.length c2] 122)
    have HAL := Lib.hid hal; clear hal
    have y1 := asD 122 (by decide)
    have y2 := asS 122 (by decide)
    have y3 := isC
    go_enter Tryz.func42, Tryz.ntmps42
    go_wp2_with (first | (go_at_call 64; (with_reducible refine (HF.out _).mono ?_); rintro e w1 ⟨rfl, hw1⟩) | fail)
    go_ret
    exact ⟨rfl, HAL.out.trans (hw1.mono HAL.out.size)⟩
  | S =>
    change Calls _ _ #[.iface 119 (.agg #[.int .i64 k, .string nm, .slice a xs.length c, .slice a2 cs.length c2, .slice a3 ts.length c3, .slice a4 es.length c4])] w (fun e w' => e = .returned (.bool (!wellS k nm xs.length cs.length ts.length es.length)) ∧ Below w.heap.size w w')
    have hf := fun w => stmtForm_any k nm a xs.length c a2 cs.length c2 a3 ts.length c3 a4 es.length c4 w ht he
    obtain ⟨b, hb⟩ : ∃ b, wellS k nm xs.length cs.length ts.length es.length = b := ⟨_, rfl⟩
    rw [hb]
    simp only [hb] at hf
    clear hb ht he hnm
    have HF := Lib.hid hf; clear hf
    have hal := (Below.refl w.heap.size w).alloc (Nat.le_refl _) (.cells #[.int .i64 k, .string nm, .slice a xs.length c, .slice a2 cs.length c2, .slice a3 ts.length c3, .slice a4 es.length c4] 119)
    have HAL := Lib.hid hal; clear hal
    have y1 := asD 119 (by decide)
    have y2 := isS
    go_enter Tryz.func42, Tryz.ntmps42
    go_wp2_with (first | (go_at_call 63; (with_reducible refine (HF.out _).mono ?_); rintro e w1 ⟨rfl, hw1⟩) | fail)
    go_ret
    exact ⟨rfl, HAL.out.trans (hw1.mono HAL.out.size)⟩
  | D =>
    change Calls _ _ #[.iface 118 (.agg #[.string nm, .int .i64 n])] w (fun e w' => e = .returned (.bool (!wellD n)) ∧ Below w.heap.size w w')
    have hal := (Below.refl w.heap.size w).alloc (Nat.le_refl _) (.cells #[.string nm, .int .i64 n] 118)
    have HAL := Lib.hid hal; clear hal
    have e : (!wellD n) = (decide (n < 0) || decide (2147483647 < n)) := by unfold wellD; rw [Bool.not_not]
    rw [e]
    clear e ht he hnm
    have y1 := isD
    cases h1 : decide (n < 0) with
    | true =>
      go_enter Tryz.func42, Tryz.ntmps42
      go_wp2
      go_ret
      exact ⟨rfl, HAL.out⟩
    | false =>
      cases h2 : decide (2147483647 < n) with
      | true =>
        go_enter Tryz.func42, Tryz.ntmps42
        go_wp2
        go_ret
        exact ⟨rfl, HAL.out⟩
      | false =>
        go_enter Tryz.func42, Tryz.ntmps42
        go_wp2
        go_ret
        exact ⟨rfl, HAL.out⟩
end Go.Proofs.YtbchibmmkmldiaaGreatDoor
