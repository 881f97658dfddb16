/-
  The project's name and nameless (tree's): proved is what each answers of a node.
-/
import Derived.Test.YtjpopelbdhgidaaGreatDoorQOwn
import Derived.Test.YtjpopelbdhgidaaGreatDoorQOwnS
import Derived.Test.YtjpopelbdhgidaaGreatDoorQTourH
import Derived.Stop.Asserts
/-
  The project's formless (tree's): proved is that it answers whether a node hasn't the form that the document asks of its own parts.
-/
namespace Go.Proofs.YtjpopelbdhgidaaGreatDoor
open Go Go.RowKit

section
variable {P : Program} {w : World} {t T xT : TypeId} {v z : Value}
def noIface (P : Program) (T : TypeId) : Bool := match P.underlying T with
  | some (.interface _) => false
  | some _ => true
  | none => false
theorem assert_yes (h : noIface P T = true) (v : Value) (xT : TypeId) (w : World) : (Instr.typeAssert (.iface T v) xT T true).run P w = .ok (.tuple #[v, .bool true]) w := by
  unfold noIface at h
  cases hu : P.underlying T with
  | none => rw [hu] at h; cases h
  | some u =>
    rw [hu] at h
    cases u <;> first | (cases h; done) | simp [Instr.typeAssert, run_underlying hu]
theorem assert_no (h : noIface P T = true) (hne : t ≠ T) (hz : (P.info? T).bind (·.zero) = some z) (v : Value) (xT : TypeId) (w : World) : (Instr.typeAssert (.iface t v) xT T true).run P w = .ok (.tuple #[z, .bool false]) w := by
  unfold noIface at h
  cases hj : P.info? T with
  | none => rw [hj] at hz; cases hz
  | some j =>
    rw [hj] at hz
    have hz' : j.zero = some z := hz
    cases hu : P.underlying T with
    | none => rw [hu] at h; cases h
    | some u =>
      rw [hu] at h
      cases u <;> first | (cases h; done) | simp [Instr.typeAssert, run_underlying hu, typeInfo, zeroValue, hj, hz', hne]
end
theorem asD (t : TypeId) (hne : t ≠ 266) (v : Value) (xT : TypeId) (w : World) : (Instr.typeAssert (.iface t v) xT 266 true).run Tryz.prog w = .ok (.tuple #[.agg #[.string ⟨#[]⟩, .int .i64 0], .bool false]) w := assert_no (by kernel_rfl) hne (by kernel_rfl) v xT w
theorem asS (t : TypeId) (hne : t ≠ 267) (v : Value) (xT : TypeId) (w : World) : (Instr.typeAssert (.iface t v) xT 267 true).run Tryz.prog w = .ok (.tuple #[.agg #[.int .i64 0, .string ⟨#[]⟩, .slice none 0 0, .slice none 0 0, .slice none 0 0, .slice none 0 0], .bool false]) w := assert_no (by kernel_rfl) hne (by kernel_rfl) v xT w
theorem asC (t : TypeId) (hne : t ≠ 270) (v : Value) (xT : TypeId) (w : World) : (Instr.typeAssert (.iface t v) xT 270 true).run Tryz.prog w = .ok (.tuple #[.agg #[.int .i64 0, .int .i64 0, .slice none 0 0, .slice none 0 0], .bool false]) w := assert_no (by kernel_rfl) hne (by kernel_rfl) v xT w
theorem isE (v : Value) (xT : TypeId) (w : World) : (Instr.typeAssert (.iface 272 v) xT 272 true).run Tryz.prog w = .ok (.tuple #[v, .bool true]) w := assert_yes (by kernel_rfl) v xT w
theorem isC (v : Value) (xT : TypeId) (w : World) : (Instr.typeAssert (.iface 270 v) xT 270 true).run Tryz.prog w = .ok (.tuple #[v, .bool true]) w := assert_yes (by kernel_rfl) v xT w
theorem isS (v : Value) (xT : TypeId) (w : World) : (Instr.typeAssert (.iface 267 v) xT 267 true).run Tryz.prog w = .ok (.tuple #[v, .bool true]) w := assert_yes (by kernel_rfl) v xT w
theorem isD (v : Value) (xT : TypeId) (w : World) : (Instr.typeAssert (.iface 266 v) xT 266 true).run Tryz.prog w = .ok (.tuple #[v, .bool true]) w := assert_yes (by kernel_rfl) v xT w

def wellD (n : Int) : Bool := !(decide (n < 0) || decide (2147483647 < n))
/-- A node's own parts are as the document asks. -/
def wellN : Nd → Bool
  | .mk .E k n nm xs _ _ _ => wellE k n nm xs.length
  | .mk .C k n _ xs cs _ _ => wellC k n xs.length cs.length
  | .mk .S k _ nm xs cs ts es => wellS k nm xs.length cs.length ts.length es.length
  | .mk .D _ n _ _ _ _ _ => wellD n

set_option maxRecDepth 100000 in
set_option maxHeartbeats 4000000 in
theorem formless_any (x : Nd) (vs : List Value) (w0 w : World) (hin : NdIn w0 x vs) :
    Calls Tryz.prog 169 #[nodeV x.ty vs] w (fun e w' => e = .returned (.bool (!wellN x)) ∧ Below w.heap.size w w') := by
  obtain ⟨ty, k, n, nm, xs, cs, ts, es⟩ := x
  unfold NdIn at hin
  obtain ⟨-, -, -, hnm, vx, vc, vt, ve, rfl, hx, hc, ht, he⟩ := hin
  obtain ⟨a, c, rfl, -, -, -⟩ := hx
  obtain ⟨a2, c2, rfl, -, -, -⟩ := hc
  obtain ⟨a3, c3, rfl, h3a, h3b, -⟩ := ht
  obtain ⟨a4, c4, rfl, h4a, h4b, -⟩ := he
  have ht := Nat.le_trans h3a h3b
  have he := Nat.le_trans h4a h4b
  clear h3a h3b h4a h4b
  cases ty with
  | E =>
    change Calls _ _ #[.iface 272 (.agg #[.int .i64 k, .int .i64 n, .string nm, .slice a xs.length c])] w (fun e w' => e = .returned (.bool (!wellE k n nm xs.length)) ∧ Below w.heap.size w w')
    have hf := fun w => exprForm_any k n nm a xs.length c w
    obtain ⟨b, hb⟩ : ∃ b, wellE k n nm xs.length = b := ⟨_, rfl⟩
    rw [hb]
    simp only [hb] at hf
    clear hb ht he hnm
    have HF := Lib.hid hf; clear hf
    have hal := (Below.refl w.heap.size w).alloc (Nat.le_refl _) (.cells #[.int .i64 k, .int .i64 n, .string nm, .slice a xs.length c] 272)
    have HAL := Lib.hid hal; clear hal
    have y1 := asD 272 (by decide)
    have y2 := asS 272 (by decide)
    have y3 := asC 272 (by decide)
    have y4 := isE
    go_enter Tryz.func169, Tryz.ntmps169
    go_wp2_with (first | (go_at_call 201; (with_reducible refine (HF.out _).mono ?_); rintro e w1 ⟨rfl, hw1⟩) | fail)
    go_ret
    exact ⟨rfl, HAL.out.trans (hw1.mono HAL.out.size)⟩
  | C =>
    change Calls _ _ #[.iface 270 (.agg #[.int .i64 k, .int .i64 n, .slice a xs.length c, .slice a2 cs.length c2])] w (fun e w' => e = .returned (.bool (!wellC k n xs.length cs.length)) ∧ Below w.heap.size w w')
    have hf := fun w => condForm_any k n a xs.length c a2 cs.length c2 w
    obtain ⟨b, hb⟩ : ∃ b, wellC k n xs.length cs.length = b := ⟨_, rfl⟩
    rw [hb]
    simp only [hb] at hf
    clear hb ht he hnm
    have HF := Lib.hid hf; clear hf
    have hal := (Below.refl w.heap.size w).alloc (Nat.le_refl _) (.cells #[.int .i64 k, .int .i64 n, .slice a xs.length c, .slice a2 cs.length c2] 270)
    have HAL := Lib.hid hal; clear hal
    have y1 := asD 270 (by decide)
    have y2 := asS 270 (by decide)
    have y3 := isC
    go_enter Tryz.func169, Tryz.ntmps169
    go_wp2_with (first | (go_at_call 200; (with_reducible refine (HF.out _).mono ?_); rintro e w1 ⟨rfl, hw1⟩) | fail)
    go_ret
    exact ⟨rfl, HAL.out.trans (hw1.mono HAL.out.size)⟩
  | S =>
    change Calls _ _ #[.iface 267 (.agg #[.int .i64 k, .string nm, .slice a xs.length c, .slice a2 cs.length c2, .slice a3 ts.length c3, .slice a4 es.length c4])] w (fun e w' => e = .returned (.bool (!wellS k nm xs.length cs.length ts.length es.length)) ∧ Below w.heap.size w w')
    have hf := fun w => stmtForm_any k nm a xs.length c a2 cs.length c2 a3 ts.length c3 a4 es.length c4 w ht he
    obtain ⟨b, hb⟩ : ∃ b, wellS k nm xs.length cs.length ts.length es.length = b := ⟨_, rfl⟩
    rw [hb]
    simp only [hb] at hf
    clear hb ht he hnm
    have HF := Lib.hid hf; clear hf
    have hal := (Below.refl w.heap.size w).alloc (Nat.le_refl _) (.cells #[.int .i64 k, .string nm, .slice a xs.length c, .slice a2 cs.length c2, .slice a3 ts.length c3, .slice a4 es.length c4] 267)
    have HAL := Lib.hid hal; clear hal
    have y1 := asD 267 (by decide)
    have y2 := isS
    go_enter Tryz.func169, Tryz.ntmps169
    go_wp2_with (first | (go_at_call 199; (with_reducible refine (HF.out _).mono ?_); rintro e w1 ⟨rfl, hw1⟩) | fail)
    go_ret
    exact ⟨rfl, HAL.out.trans (hw1.mono HAL.out.size)⟩
  | D =>
    change Calls _ _ #[.iface 266 (.agg #[.string nm, .int .i64 n])] w (fun e w' => e = .returned (.bool (!wellD n)) ∧ Below w.heap.size w w')
    have hal := (Below.refl w.heap.size w).alloc (Nat.le_refl _) (.cells #[.string nm, .int .i64 n] 266)
    have HAL := Lib.hid hal; clear hal
    have e : (!wellD n) = (decide (n < 0) || decide (2147483647 < n)) := by unfold wellD; rw [Bool.not_not]
    rw [e]
    clear e ht he hnm
    have y1 := isD
    cases h1 : decide (n < 0) with
    | true =>
      go_enter Tryz.func169, Tryz.ntmps169
      go_wp2
      go_ret
      exact ⟨rfl, HAL.out⟩
    | false =>
      cases h2 : decide (2147483647 < n) with
      | true =>
        go_enter Tryz.func169, Tryz.ntmps169
        go_wp2
        go_ret
        exact ⟨rfl, HAL.out⟩
      | false =>
        go_enter Tryz.func169, Tryz.ntmps169
        go_wp2
        go_ret
        exact ⟨rfl, HAL.out⟩
end Go.Proofs.YtjpopelbdhgidaaGreatDoor

/-
  The project's name and nameless (tree's): proved is what each answers of a node.
-/
namespace Go.Proofs.YtjpopelbdhgidaaGreatDoor
open Go Go.RowKit

/-- A node's name, and whether it must be one. -/
def mustN : Nd → Bool
  | .mk .E k _ _ _ _ _ _ => (k == 2) || (k == 4)
  | .mk .C _ _ _ _ _ _ _ => false
  | .mk .S k _ _ _ _ _ _ => (k == 1) || (k == 2)
  | .mk .D _ _ _ _ _ _ _ => true
def ownNm : Nd → ByteArray
  | .mk .C _ _ _ _ _ _ _ => ⟨#[]⟩
  | .mk _ _ _ nm _ _ _ _ => nm

theorem asE (t : TypeId) (hne : t ≠ 272) (v : Value) (xT : TypeId) (w : World) : (Instr.typeAssert (.iface t v) xT 272 true).run Tryz.prog w = .ok (.tuple #[.agg #[.int .i64 0, .int .i64 0, .string ⟨#[]⟩, .slice none 0 0], .bool false]) w := assert_no (by kernel_rfl) hne (by kernel_rfl) v xT w

set_option maxRecDepth 100000 in
set_option maxHeartbeats 4000000 in
theorem treename_any (x : Nd) (vs : List Value) (w0 w : World) (hin : NdIn w0 x vs) :
    Calls Tryz.prog 202 #[nodeV x.ty vs] w (fun e w' => e = .returned (.tuple #[.string (ownNm x), .bool (mustN x)]) ∧ Below w.heap.size w w') := by
  obtain ⟨ty, k, n, nm, xs, cs, ts, es⟩ := x
  unfold NdIn at hin
  obtain ⟨-, -, -, -, vx, vc, vt, ve, rfl, hx, hc, ht, he⟩ := hin
  obtain ⟨a, c, rfl, -, -, -⟩ := hx
  obtain ⟨a2, c2, rfl, -, -, -⟩ := hc
  obtain ⟨a3, c3, rfl, -, -, -⟩ := ht
  obtain ⟨a4, c4, rfl, -, -, -⟩ := he
  cases ty with
  | E =>
    change Calls _ _ #[.iface 272 (.agg #[.int .i64 k, .int .i64 n, .string nm, .slice a xs.length c])] w (fun e w' => e = .returned (.tuple #[.string nm, .bool ((k == 2) || (k == 4))]) ∧ Below w.heap.size w w')
    have HAL := Lib.hid ((Below.refl w.heap.size w).alloc (Nat.le_refl _) (.cells #[.int .i64 k, .int .i64 n, .string nm, .slice a xs.length c] 272))
    have y1 := asD 272 (by decide)
    have y2 := asS 272 (by decide)
    have y4 := isE
    cases h1 : (k == 2) with
    | true =>
      go_enter Tryz.func202, Tryz.ntmps202
      go_wp2
      go_quiet (fail)
      go_wp2
      go_ret2
      exact ⟨rfl, below_drewN HAL.out _⟩
    | false =>
      cases h2 : (k == 4) with
      | true =>
        go_enter Tryz.func202, Tryz.ntmps202
        go_wp2
        go_quiet (fail)
        go_wp2
        go_ret2
        exact ⟨rfl, below_drewN HAL.out _⟩
      | false =>
        go_enter Tryz.func202, Tryz.ntmps202
        go_wp2
        go_quiet (fail)
        go_wp2
        go_ret2
        exact ⟨rfl, below_drewN HAL.out _⟩
  | C =>
    change Calls _ _ #[.iface 270 (.agg #[.int .i64 k, .int .i64 n, .slice a xs.length c, .slice a2 cs.length c2])] w (fun e w' => e = .returned (.tuple #[.string ⟨#[]⟩, .bool false]) ∧ Below w.heap.size w w')
    have HAL := Lib.hid ((Below.refl w.heap.size w).alloc (Nat.le_refl _) (.cells #[.int .i64 k, .int .i64 n, .slice a xs.length c, .slice a2 cs.length c2] 270))
    have y1 := asD 270 (by decide)
    have y2 := asS 270 (by decide)
    have y3 := asE 270 (by decide)
    go_enter Tryz.func202, Tryz.ntmps202
    go_wp2
    go_ret2
    exact ⟨rfl, Below.refl _ w⟩
  | S =>
    change Calls _ _ #[.iface 267 (.agg #[.int .i64 k, .string nm, .slice a xs.length c, .slice a2 cs.length c2, .slice a3 ts.length c3, .slice a4 es.length c4])] w (fun e w' => e = .returned (.tuple #[.string nm, .bool ((k == 1) || (k == 2))]) ∧ Below w.heap.size w w')
    have HAL := Lib.hid ((Below.refl w.heap.size w).alloc (Nat.le_refl _) (.cells #[.int .i64 k, .string nm, .slice a xs.length c, .slice a2 cs.length c2, .slice a3 ts.length c3, .slice a4 es.length c4] 267))
    have y1 := asD 267 (by decide)
    have y2 := isS
    cases h1 : (k == 1) with
    | true =>
      go_enter Tryz.func202, Tryz.ntmps202
      go_wp2
      go_quiet (fail)
      go_wp2
      go_ret2
      exact ⟨rfl, below_drewN HAL.out _⟩
    | false =>
      cases h2 : (k == 2) with
      | true =>
        go_enter Tryz.func202, Tryz.ntmps202
        go_wp2
        go_quiet (fail)
        go_wp2
        go_ret2
        exact ⟨rfl, below_drewN HAL.out _⟩
      | false =>
        go_enter Tryz.func202, Tryz.ntmps202
        go_wp2
        go_quiet (fail)
        go_wp2
        go_ret2
        exact ⟨rfl, below_drewN HAL.out _⟩
  | D =>
    change Calls _ _ #[.iface 266 (.agg #[.string nm, .int .i64 n])] w (fun e w' => e = .returned (.tuple #[.string nm, .bool true]) ∧ Below w.heap.size w w')
    have HAL := Lib.hid ((Below.refl w.heap.size w).alloc (Nat.le_refl _) (.cells #[.string nm, .int .i64 n] 266))
    have y1 := isD
    go_enter Tryz.func202, Tryz.ntmps202
    go_wp2
    go_ret2
    exact ⟨rfl, HAL.out⟩

def namelessB (x : Nd) : Bool := mustN x && !nameB (ownNm x)
theorem nameless_any (x : Nd) (vs : List Value) (w0 w : World) (hin : NdIn w0 x vs) :
    Calls Tryz.prog 170 #[nodeV x.ty vs] w (fun e w' => e = .returned (.bool (namelessB x)) ∧ Below w.heap.size w w') := by
  have hsz : (ownNm x).size ≤ maxLen := by
    obtain ⟨ty, k, n, nm, xs, cs, ts, es⟩ := x
    unfold NdIn at hin
    cases ty
    case C => exact Nat.zero_le _
    all_goals exact hin.2.2.2.1
  have hn := treename_any x vs w0 w hin
  have hl := fun w => name_any (ownNm x) w hsz
  have hb : namelessB x = (mustN x && !nameB (ownNm x)) := rfl
  rw [hb]
  clear hb
  obtain ⟨V, hV⟩ : ∃ V, nodeV x.ty vs = V := ⟨_, rfl⟩
  obtain ⟨nm, hnm⟩ : ∃ nm, ownNm x = nm := ⟨_, rfl⟩
  obtain ⟨m, hm⟩ : ∃ m, mustN x = m := ⟨_, rfl⟩
  rw [hV, hnm, hm] at hn
  rw [hV, hm, hnm]
  simp only [hnm] at hl
  obtain ⟨q, hq⟩ : ∃ q, nameB nm = q := ⟨_, rfl⟩
  rw [hq]
  simp only [hq] at hl
  clear hV hnm hm hq hsz hin
  have HN := Lib.hid hn; clear hn
  have HL := Lib.hid hl; clear hl
  cases m with
  | false =>
    go_enter Tryz.func170, Tryz.ntmps170
    go_wp2_with (first | (go_at_call 202; (with_reducible refine HN.out.mono ?_); rintro e w1 ⟨rfl, hw1⟩) | fail)
    go_ret
    exact ⟨rfl, hw1⟩
  | true =>
    go_enter Tryz.func170, Tryz.ntmps170
    go_wp2_with (first | (go_at_call 202; (with_reducible refine HN.out.mono ?_); rintro e w1 ⟨rfl, hw1⟩) | (go_at_call 203; (with_reducible refine (HL.out w1).mono ?_); rintro e w2 ⟨rfl, hw2⟩) | fail)
    go_ret
    exact ⟨rfl, hw1.trans (hw2.mono hw1.size)⟩
end Go.Proofs.YtjpopelbdhgidaaGreatDoor
