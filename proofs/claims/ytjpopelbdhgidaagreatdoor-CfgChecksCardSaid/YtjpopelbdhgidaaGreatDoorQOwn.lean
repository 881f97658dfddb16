/-
  The project's forms (tree's exprForm, condForm): proved is that each answers what the document asks of a node's own parts.
-/
import Derived.Test.YtjpopelbdhgidaaGreatDoorQFormD
import Derived.BigQuiet

namespace Go.Proofs.YtjpopelbdhgidaaGreatDoor
open Go Go.RowKit

def wellE (k n : Int) (nm : ByteArray) (len : Nat) : Bool := (kindE k && (((k == 2) || (k == 4)) || (nm.toList == []))) && ownE k n len
def wellC (k n : Int) (xl cl : Nat) : Bool := kindC k && ownC k n xl cl
set_option maxRecDepth 100000 in
set_option maxHeartbeats 8000000 in
theorem exprForm_any (k n : Int) (nm : ByteArray) (a : Option Addr) (len c : Nat) (w : World) : Calls Tryz.prog 201 #[.agg #[.int .i64 k, .int .i64 n, .string nm, .slice a len c]] w (fun e w' => e = .returned (.bool (wellE k n nm len)) ∧ Below w.heap.size w w') := by
  have ha := (Below.refl w.heap.size w).alloc (Nat.le_refl _) (.cells #[.int .i64 k, .int .i64 n, .string nm, .slice a len c] 272)
  by_cases q1 : k = 1
  · subst q1
    have eq : wellE 1 n nm len = (decide (0 ≤ n) && ((nm.toList == []) && ((len : Int) == 0))) := by
      have hz : decide (0 ≤ n) = ((n == 0) || decide (0 < n)) := by
        by_cases h : n = 0
        · subst h; rfl
        · rw [show (n == 0) = false from by simpa using h, Bool.false_or]; exact decide_eq_decide.2 (by omega)
      rw [hz]
      show ((true && (false || (nm.toList == []))) && (((len : Int) == 0) && ((n == 0) || (true && decide (0 < n))))) = _
      cases (nm.toList == []) <;> cases ((len : Int) == 0) <;> cases (n == 0) <;> cases decide (0 < n) <;> rfl
    cases h1 : decide (0 ≤ n) with
    | false =>
      have e : wellE 1 n nm len = false := by rw [eq, h1]; rfl
      rw [e]
      clear e eq
      go_enter Tryz.func201, Tryz.ntmps201
      go_wp2
      go_ret
      exact ⟨rfl, ha⟩
    | true =>
      cases h2 : (nm.toList == []) with
      | false =>
        have e : wellE 1 n nm len = false := by rw [eq, h1, h2]; rfl
        rw [e]
        clear e eq
        go_enter Tryz.func201, Tryz.ntmps201
        go_wp2
        go_ret
        exact ⟨rfl, ha⟩
      | true =>
        cases h3 : ((len : Int) == 0) with
        | false =>
          have e : wellE 1 n nm len = false := by rw [eq, h1, h2, h3]; rfl
          rw [e]
          clear e eq
          go_enter Tryz.func201, Tryz.ntmps201
          go_wp2
          go_ret
          exact ⟨rfl, ha⟩
        | true =>
          have e : wellE 1 n nm len = true := by rw [eq, h1, h2, h3]; rfl
          rw [e]
          clear e eq
          go_enter Tryz.func201, Tryz.ntmps201
          go_wp2
          go_ret
          exact ⟨rfl, ha⟩
  by_cases q2 : k = 2
  · subst q2
    have eq : wellE 2 n nm len = ((n == 0) && ((len : Int) == 0)) := by
      show ((true && (true || (nm.toList == []))) && (((len : Int) == 0) && ((n == 0) || (false && decide (0 < n))))) = _
      cases (nm.toList == []) <;> cases ((len : Int) == 0) <;> cases (n == 0) <;> rfl
    cases h1 : (n == 0) with
    | false =>
      have e : wellE 2 n nm len = false := by rw [eq, h1]; rfl
      rw [e]
      clear e eq
      go_enter Tryz.func201, Tryz.ntmps201
      go_wp2
      go_ret
      exact ⟨rfl, ha⟩
    | true =>
      cases h2 : ((len : Int) == 0) with
      | false =>
        have e : wellE 2 n nm len = false := by rw [eq, h1, h2]; rfl
        rw [e]
        clear e eq
        go_enter Tryz.func201, Tryz.ntmps201
        go_wp2
        go_ret
        exact ⟨rfl, ha⟩
      | true =>
        have e : wellE 2 n nm len = true := by rw [eq, h1, h2]; rfl
        rw [e]
        clear e eq
        go_enter Tryz.func201, Tryz.ntmps201
        go_wp2
        go_ret
        exact ⟨rfl, ha⟩
  by_cases q3 : k = 3
  · subst q3
    have eq : wellE 3 n nm len = ((n == 0) && ((nm.toList == []) && ((len : Int) == 0))) := by
      show ((true && (false || (nm.toList == []))) && (((len : Int) == 0) && ((n == 0) || (false && decide (0 < n))))) = _
      cases (nm.toList == []) <;> cases ((len : Int) == 0) <;> cases (n == 0) <;> rfl
    cases h1 : (n == 0) with
    | false =>
      have e : wellE 3 n nm len = false := by rw [eq, h1]; rfl
      rw [e]
      clear e eq
      go_enter Tryz.func201, Tryz.ntmps201
      go_wp2
      go_ret
      exact ⟨rfl, ha⟩
    | true =>
      cases h2 : (nm.toList == []) with
      | false =>
        have e : wellE 3 n nm len = false := by rw [eq, h1, h2]; rfl
        rw [e]
        clear e eq
        go_enter Tryz.func201, Tryz.ntmps201
        go_wp2
        go_ret
        exact ⟨rfl, ha⟩
      | true =>
        cases h3 : ((len : Int) == 0) with
        | false =>
          have e : wellE 3 n nm len = false := by rw [eq, h1, h2, h3]; rfl
          rw [e]
          clear e eq
          go_enter Tryz.func201, Tryz.ntmps201
          go_wp2
          go_ret
          exact ⟨rfl, ha⟩
        | true =>
          have e : wellE 3 n nm len = true := by rw [eq, h1, h2, h3]; rfl
          rw [e]
          clear e eq
          go_enter Tryz.func201, Tryz.ntmps201
          go_wp2
          go_ret
          exact ⟨rfl, ha⟩
  by_cases q4 : k = 4
  · subst q4
    have eq : wellE 4 n nm len = ((n == 0) && ((len : Int) == 1)) := by
      show ((true && (true || (nm.toList == []))) && (((len : Int) == 1) && ((n == 0) || (false && decide (0 < n))))) = _
      cases (nm.toList == []) <;> cases ((len : Int) == 1) <;> cases (n == 0) <;> rfl
    cases h1 : (n == 0) with
    | false =>
      have e : wellE 4 n nm len = false := by rw [eq, h1]; rfl
      rw [e]
      clear e eq
      go_enter Tryz.func201, Tryz.ntmps201
      go_wp2
      go_ret
      exact ⟨rfl, ha⟩
    | true =>
      cases h2 : ((len : Int) == 1) with
      | false =>
        have e : wellE 4 n nm len = false := by rw [eq, h1, h2]; rfl
        rw [e]
        clear e eq
        go_enter Tryz.func201, Tryz.ntmps201
        go_wp2
        go_ret
        exact ⟨rfl, ha⟩
      | true =>
        have e : wellE 4 n nm len = true := by rw [eq, h1, h2]; rfl
        rw [e]
        clear e eq
        go_enter Tryz.func201, Tryz.ntmps201
        go_wp2
        go_ret
        exact ⟨rfl, ha⟩
  by_cases q5 : k = 5
  · subst q5
    have eq : wellE 5 n nm len = ((n == 0) && ((nm.toList == []) && ((len : Int) == 1))) := by
      show ((true && (false || (nm.toList == []))) && (((len : Int) == 1) && ((n == 0) || (false && decide (0 < n))))) = _
      cases (nm.toList == []) <;> cases ((len : Int) == 1) <;> cases (n == 0) <;> rfl
    cases h1 : (n == 0) with
    | false =>
      have e : wellE 5 n nm len = false := by rw [eq, h1]; rfl
      rw [e]
      clear e eq
      go_enter Tryz.func201, Tryz.ntmps201
      go_wp2
      go_ret
      exact ⟨rfl, ha⟩
    | true =>
      cases h2 : (nm.toList == []) with
      | false =>
        have e : wellE 5 n nm len = false := by rw [eq, h1, h2]; rfl
        rw [e]
        clear e eq
        go_enter Tryz.func201, Tryz.ntmps201
        go_wp2
        go_ret
        exact ⟨rfl, ha⟩
      | true =>
        cases h3 : ((len : Int) == 1) with
        | false =>
          have e : wellE 5 n nm len = false := by rw [eq, h1, h2, h3]; rfl
          rw [e]
          clear e eq
          go_enter Tryz.func201, Tryz.ntmps201
          go_wp2
          go_ret
          exact ⟨rfl, ha⟩
        | true =>
          have e : wellE 5 n nm len = true := by rw [eq, h1, h2, h3]; rfl
          rw [e]
          clear e eq
          go_enter Tryz.func201, Tryz.ntmps201
          go_wp2
          go_ret
          exact ⟨rfl, ha⟩
  by_cases q6 : k = 6
  · subst q6
    have eq : wellE 6 n nm len = ((n == 0) && ((nm.toList == []) && ((len : Int) == 2))) := by
      show ((true && (false || (nm.toList == []))) && (((len : Int) == 2) && ((n == 0) || (false && decide (0 < n))))) = _
      cases (nm.toList == []) <;> cases ((len : Int) == 2) <;> cases (n == 0) <;> rfl
    cases h1 : (n == 0) with
    | false =>
      have e : wellE 6 n nm len = false := by rw [eq, h1]; rfl
      rw [e]
      clear e eq
      go_enter Tryz.func201, Tryz.ntmps201
      go_wp2
      go_ret
      exact ⟨rfl, ha⟩
    | true =>
      cases h2 : (nm.toList == []) with
      | false =>
        have e : wellE 6 n nm len = false := by rw [eq, h1, h2]; rfl
        rw [e]
        clear e eq
        go_enter Tryz.func201, Tryz.ntmps201
        go_wp2
        go_ret
        exact ⟨rfl, ha⟩
      | true =>
        cases h3 : ((len : Int) == 2) with
        | false =>
          have e : wellE 6 n nm len = false := by rw [eq, h1, h2, h3]; rfl
          rw [e]
          clear e eq
          go_enter Tryz.func201, Tryz.ntmps201
          go_wp2
          go_ret
          exact ⟨rfl, ha⟩
        | true =>
          have e : wellE 6 n nm len = true := by rw [eq, h1, h2, h3]; rfl
          rw [e]
          clear e eq
          go_enter Tryz.func201, Tryz.ntmps201
          go_wp2
          go_ret
          exact ⟨rfl, ha⟩
  by_cases q7 : k = 7
  · subst q7
    have eq : wellE 7 n nm len = ((n == 0) && ((nm.toList == []) && ((len : Int) == 2))) := by
      show ((true && (false || (nm.toList == []))) && (((len : Int) == 2) && ((n == 0) || (false && decide (0 < n))))) = _
      cases (nm.toList == []) <;> cases ((len : Int) == 2) <;> cases (n == 0) <;> rfl
    cases h1 : (n == 0) with
    | false =>
      have e : wellE 7 n nm len = false := by rw [eq, h1]; rfl
      rw [e]
      clear e eq
      go_enter Tryz.func201, Tryz.ntmps201
      go_wp2
      go_ret
      exact ⟨rfl, ha⟩
    | true =>
      cases h2 : (nm.toList == []) with
      | false =>
        have e : wellE 7 n nm len = false := by rw [eq, h1, h2]; rfl
        rw [e]
        clear e eq
        go_enter Tryz.func201, Tryz.ntmps201
        go_wp2
        go_ret
        exact ⟨rfl, ha⟩
      | true =>
        cases h3 : ((len : Int) == 2) with
        | false =>
          have e : wellE 7 n nm len = false := by rw [eq, h1, h2, h3]; rfl
          rw [e]
          clear e eq
          go_enter Tryz.func201, Tryz.ntmps201
          go_wp2
          go_ret
          exact ⟨rfl, ha⟩
        | true =>
          have e : wellE 7 n nm len = true := by rw [eq, h1, h2, h3]; rfl
          rw [e]
          clear e eq
          go_enter Tryz.func201, Tryz.ntmps201
          go_wp2
          go_ret
          exact ⟨rfl, ha⟩
  by_cases q8 : k = 8
  · subst q8
    have eq : wellE 8 n nm len = ((n == 0) && ((nm.toList == []) && ((len : Int) == 2))) := by
      show ((true && (false || (nm.toList == []))) && (((len : Int) == 2) && ((n == 0) || (false && decide (0 < n))))) = _
      cases (nm.toList == []) <;> cases ((len : Int) == 2) <;> cases (n == 0) <;> rfl
    cases h1 : (n == 0) with
    | false =>
      have e : wellE 8 n nm len = false := by rw [eq, h1]; rfl
      rw [e]
      clear e eq
      go_enter Tryz.func201, Tryz.ntmps201
      go_wp2
      go_ret
      exact ⟨rfl, ha⟩
    | true =>
      cases h2 : (nm.toList == []) with
      | false =>
        have e : wellE 8 n nm len = false := by rw [eq, h1, h2]; rfl
        rw [e]
        clear e eq
        go_enter Tryz.func201, Tryz.ntmps201
        go_wp2
        go_ret
        exact ⟨rfl, ha⟩
      | true =>
        cases h3 : ((len : Int) == 2) with
        | false =>
          have e : wellE 8 n nm len = false := by rw [eq, h1, h2, h3]; rfl
          rw [e]
          clear e eq
          go_enter Tryz.func201, Tryz.ntmps201
          go_wp2
          go_ret
          exact ⟨rfl, ha⟩
        | true =>
          have e : wellE 8 n nm len = true := by rw [eq, h1, h2, h3]; rfl
          rw [e]
          clear e eq
          go_enter Tryz.func201, Tryz.ntmps201
          go_wp2
          go_ret
          exact ⟨rfl, ha⟩
  by_cases q9 : k = 9
  · subst q9
    have eq : wellE 9 n nm len = ((n == 0) && ((nm.toList == []) && ((len : Int) == 2))) := by
      show ((true && (false || (nm.toList == []))) && (((len : Int) == 2) && ((n == 0) || (false && decide (0 < n))))) = _
      cases (nm.toList == []) <;> cases ((len : Int) == 2) <;> cases (n == 0) <;> rfl
    cases h1 : (n == 0) with
    | false =>
      have e : wellE 9 n nm len = false := by rw [eq, h1]; rfl
      rw [e]
      clear e eq
      go_enter Tryz.func201, Tryz.ntmps201
      go_wp2
      go_ret
      exact ⟨rfl, ha⟩
    | true =>
      cases h2 : (nm.toList == []) with
      | false =>
        have e : wellE 9 n nm len = false := by rw [eq, h1, h2]; rfl
        rw [e]
        clear e eq
        go_enter Tryz.func201, Tryz.ntmps201
        go_wp2
        go_ret
        exact ⟨rfl, ha⟩
      | true =>
        cases h3 : ((len : Int) == 2) with
        | false =>
          have e : wellE 9 n nm len = false := by rw [eq, h1, h2, h3]; rfl
          rw [e]
          clear e eq
          go_enter Tryz.func201, Tryz.ntmps201
          go_wp2
          go_ret
          exact ⟨rfl, ha⟩
        | true =>
          have e : wellE 9 n nm len = true := by rw [eq, h1, h2, h3]; rfl
          rw [e]
          clear e eq
          go_enter Tryz.func201, Tryz.ntmps201
          go_wp2
          go_ret
          exact ⟨rfl, ha⟩
  by_cases q10 : k = 10
  · subst q10
    have eq : wellE 10 n nm len = ((n == 0) && ((nm.toList == []) && ((len : Int) == 2))) := by
      show ((true && (false || (nm.toList == []))) && (((len : Int) == 2) && ((n == 0) || (false && decide (0 < n))))) = _
      cases (nm.toList == []) <;> cases ((len : Int) == 2) <;> cases (n == 0) <;> rfl
    cases h1 : (n == 0) with
    | false =>
      have e : wellE 10 n nm len = false := by rw [eq, h1]; rfl
      rw [e]
      clear e eq
      go_enter Tryz.func201, Tryz.ntmps201
      go_wp2
      go_ret
      exact ⟨rfl, ha⟩
    | true =>
      cases h2 : (nm.toList == []) with
      | false =>
        have e : wellE 10 n nm len = false := by rw [eq, h1, h2]; rfl
        rw [e]
        clear e eq
        go_enter Tryz.func201, Tryz.ntmps201
        go_wp2
        go_ret
        exact ⟨rfl, ha⟩
      | true =>
        cases h3 : ((len : Int) == 2) with
        | false =>
          have e : wellE 10 n nm len = false := by rw [eq, h1, h2, h3]; rfl
          rw [e]
          clear e eq
          go_enter Tryz.func201, Tryz.ntmps201
          go_wp2
          go_ret
          exact ⟨rfl, ha⟩
        | true =>
          have e : wellE 10 n nm len = true := by rw [eq, h1, h2, h3]; rfl
          rw [e]
          clear e eq
          go_enter Tryz.func201, Tryz.ntmps201
          go_wp2
          go_ret
          exact ⟨rfl, ha⟩
  have e : wellE k n nm len = false := by
    have : kindE k = false := by unfold kindE; rw [decide_eq_false_iff_not]; omega
    unfold wellE; rw [this]; rfl
  rw [e]
  clear e
  have k1 : (k == 1) = false := by simpa using q1
  have k2 : (k == 2) = false := by simpa using q2
  have k3 : (k == 3) = false := by simpa using q3
  have k4 : (k == 4) = false := by simpa using q4
  have k5 : (k == 5) = false := by simpa using q5
  have k6 : (k == 6) = false := by simpa using q6
  have k7 : (k == 7) = false := by simpa using q7
  have k8 : (k == 8) = false := by simpa using q8
  have k9 : (k == 9) = false := by simpa using q9
  have k10 : (k == 10) = false := by simpa using q10
  clear q1 q2 q3 q4 q5 q6 q7 q8 q9 q10
  go_enter Tryz.func201, Tryz.ntmps201
  go_wp2
  go_ret
  exact ⟨rfl, ha⟩
set_option maxRecDepth 100000 in
set_option maxHeartbeats 8000000 in
theorem condForm_any (k n : Int) (a : Option Addr) (xl c : Nat) (a2 : Option Addr) (cl c2 : Nat) (w : World) : Calls Tryz.prog 200 #[.agg #[.int .i64 k, .int .i64 n, .slice a xl c, .slice a2 cl c2]] w (fun e w' => e = .returned (.bool (wellC k n xl cl)) ∧ Below w.heap.size w w') := by
  have ha := (Below.refl w.heap.size w).alloc (Nat.le_refl _) (.cells #[.int .i64 k, .int .i64 n, .slice a xl c, .slice a2 cl c2] 270)
  by_cases q1 : k = 1
  · subst q1
    have eq : wellC 1 n xl cl = ((n == 0) && (((xl : Int) == 0) && ((cl : Int) == 0))) := by
      show (true && ((n == 0) && (((xl : Int) == 0) && ((cl : Int) == 0)))) = _
      cases (n == 0) <;> cases ((xl : Int) == 0) <;> cases ((cl : Int) == 0) <;> rfl
    cases h1 : (n == 0) with
    | false =>
      have e : wellC 1 n xl cl = false := by rw [eq, h1]; rfl
      rw [e]
      clear e eq
      go_enter Tryz.func200, Tryz.ntmps200
      go_wp2
      go_quiet (fail)
      go_wp2
      go_ret
      exact ⟨rfl, below_drewN ha _⟩
    | true =>
      cases h2 : ((xl : Int) == 0) with
      | false =>
        have e : wellC 1 n xl cl = false := by rw [eq, h1, h2]; rfl
        rw [e]
        clear e eq
        go_enter Tryz.func200, Tryz.ntmps200
        go_wp2
        go_quiet (fail)
        go_wp2
        go_ret
        exact ⟨rfl, below_drewN ha _⟩
      | true =>
        cases h3 : ((cl : Int) == 0) with
        | false =>
          have e : wellC 1 n xl cl = false := by rw [eq, h1, h2, h3]; rfl
          rw [e]
          clear e eq
          go_enter Tryz.func200, Tryz.ntmps200
          go_wp2
          go_quiet (fail)
          go_wp2
          go_ret
          exact ⟨rfl, below_drewN ha _⟩
        | true =>
          have e : wellC 1 n xl cl = true := by rw [eq, h1, h2, h3]; rfl
          rw [e]
          clear e eq
          go_enter Tryz.func200, Tryz.ntmps200
          go_wp2
          go_quiet (fail)
          go_wp2
          go_ret
          exact ⟨rfl, below_drewN ha _⟩
  by_cases q2 : k = 2
  · subst q2
    have eq : wellC 2 n xl cl = ((n == 0) && (((xl : Int) == 0) && ((cl : Int) == 0))) := by
      show (true && ((n == 0) && (((xl : Int) == 0) && ((cl : Int) == 0)))) = _
      cases (n == 0) <;> cases ((xl : Int) == 0) <;> cases ((cl : Int) == 0) <;> rfl
    cases h1 : (n == 0) with
    | false =>
      have e : wellC 2 n xl cl = false := by rw [eq, h1]; rfl
      rw [e]
      clear e eq
      go_enter Tryz.func200, Tryz.ntmps200
      go_wp2
      go_quiet (fail)
      go_wp2
      go_ret
      exact ⟨rfl, below_drewN ha _⟩
    | true =>
      cases h2 : ((xl : Int) == 0) with
      | false =>
        have e : wellC 2 n xl cl = false := by rw [eq, h1, h2]; rfl
        rw [e]
        clear e eq
        go_enter Tryz.func200, Tryz.ntmps200
        go_wp2
        go_quiet (fail)
        go_wp2
        go_ret
        exact ⟨rfl, below_drewN ha _⟩
      | true =>
        cases h3 : ((cl : Int) == 0) with
        | false =>
          have e : wellC 2 n xl cl = false := by rw [eq, h1, h2, h3]; rfl
          rw [e]
          clear e eq
          go_enter Tryz.func200, Tryz.ntmps200
          go_wp2
          go_quiet (fail)
          go_wp2
          go_ret
          exact ⟨rfl, below_drewN ha _⟩
        | true =>
          have e : wellC 2 n xl cl = true := by rw [eq, h1, h2, h3]; rfl
          rw [e]
          clear e eq
          go_enter Tryz.func200, Tryz.ntmps200
          go_wp2
          go_quiet (fail)
          go_wp2
          go_ret
          exact ⟨rfl, below_drewN ha _⟩
  by_cases q3 : k = 3
  · subst q3
    have eq : wellC 3 n xl cl = (decide (1 ≤ n) && (decide (n ≤ 6) && (((xl : Int) == 2) && ((cl : Int) == 0)))) := by
      show (true && (decide (1 ≤ n ∧ n ≤ 6) && (((xl : Int) == 2) && ((cl : Int) == 0)))) = _
      rw [Bool.decide_and]
      cases decide (1 ≤ n) <;> cases decide (n ≤ 6) <;> cases ((xl : Int) == 2) <;> cases ((cl : Int) == 0) <;> rfl
    cases h1 : decide (1 ≤ n) with
    | false =>
      have e : wellC 3 n xl cl = false := by rw [eq, h1]; rfl
      rw [e]
      clear e eq
      go_enter Tryz.func200, Tryz.ntmps200
      go_wp2
      go_quiet (fail)
      go_wp2
      go_ret
      exact ⟨rfl, below_drewN ha _⟩
    | true =>
      cases h2 : decide (n ≤ 6) with
      | false =>
        have e : wellC 3 n xl cl = false := by rw [eq, h1, h2]; rfl
        rw [e]
        clear e eq
        go_enter Tryz.func200, Tryz.ntmps200
        go_wp2
        go_quiet (fail)
        go_wp2
        go_ret
        exact ⟨rfl, below_drewN ha _⟩
      | true =>
        cases h3 : ((xl : Int) == 2) with
        | false =>
          have e : wellC 3 n xl cl = false := by rw [eq, h1, h2, h3]; rfl
          rw [e]
          clear e eq
          go_enter Tryz.func200, Tryz.ntmps200
          go_wp2
          go_quiet (fail)
          go_wp2
          go_ret
          exact ⟨rfl, below_drewN ha _⟩
        | true =>
          cases h4 : ((cl : Int) == 0) with
          | false =>
            have e : wellC 3 n xl cl = false := by rw [eq, h1, h2, h3, h4]; rfl
            rw [e]
            clear e eq
            go_enter Tryz.func200, Tryz.ntmps200
            go_wp2
            go_quiet (fail)
            go_wp2
            go_ret
            exact ⟨rfl, below_drewN ha _⟩
          | true =>
            have e : wellC 3 n xl cl = true := by rw [eq, h1, h2, h3, h4]; rfl
            rw [e]
            clear e eq
            go_enter Tryz.func200, Tryz.ntmps200
            go_wp2
            go_quiet (fail)
            go_wp2
            go_ret
            exact ⟨rfl, below_drewN ha _⟩
  by_cases q4 : k = 4
  · subst q4
    have eq : wellC 4 n xl cl = ((n == 0) && (((xl : Int) == 0) && ((cl : Int) == 1))) := by
      show (true && ((n == 0) && (((xl : Int) == 0) && ((cl : Int) == 1)))) = _
      cases (n == 0) <;> cases ((xl : Int) == 0) <;> cases ((cl : Int) == 1) <;> rfl
    cases h1 : (n == 0) with
    | false =>
      have e : wellC 4 n xl cl = false := by rw [eq, h1]; rfl
      rw [e]
      clear e eq
      go_enter Tryz.func200, Tryz.ntmps200
      go_wp2
      go_quiet (fail)
      go_wp2
      go_ret
      exact ⟨rfl, below_drewN ha _⟩
    | true =>
      cases h2 : ((xl : Int) == 0) with
      | false =>
        have e : wellC 4 n xl cl = false := by rw [eq, h1, h2]; rfl
        rw [e]
        clear e eq
        go_enter Tryz.func200, Tryz.ntmps200
        go_wp2
        go_quiet (fail)
        go_wp2
        go_ret
        exact ⟨rfl, below_drewN ha _⟩
      | true =>
        cases h3 : ((cl : Int) == 1) with
        | false =>
          have e : wellC 4 n xl cl = false := by rw [eq, h1, h2, h3]; rfl
          rw [e]
          clear e eq
          go_enter Tryz.func200, Tryz.ntmps200
          go_wp2
          go_quiet (fail)
          go_wp2
          go_ret
          exact ⟨rfl, below_drewN ha _⟩
        | true =>
          have e : wellC 4 n xl cl = true := by rw [eq, h1, h2, h3]; rfl
          rw [e]
          clear e eq
          go_enter Tryz.func200, Tryz.ntmps200
          go_wp2
          go_quiet (fail)
          go_wp2
          go_ret
          exact ⟨rfl, below_drewN ha _⟩
  by_cases q5 : k = 5
  · subst q5
    have eq : wellC 5 n xl cl = ((n == 0) && (((xl : Int) == 0) && ((cl : Int) == 2))) := by
      show (true && ((n == 0) && (((xl : Int) == 0) && ((cl : Int) == 2)))) = _
      cases (n == 0) <;> cases ((xl : Int) == 0) <;> cases ((cl : Int) == 2) <;> rfl
    cases h1 : (n == 0) with
    | false =>
      have e : wellC 5 n xl cl = false := by rw [eq, h1]; rfl
      rw [e]
      clear e eq
      go_enter Tryz.func200, Tryz.ntmps200
      go_wp2
      go_quiet (fail)
      go_wp2
      go_ret
      exact ⟨rfl, below_drewN ha _⟩
    | true =>
      cases h2 : ((xl : Int) == 0) with
      | false =>
        have e : wellC 5 n xl cl = false := by rw [eq, h1, h2]; rfl
        rw [e]
        clear e eq
        go_enter Tryz.func200, Tryz.ntmps200
        go_wp2
        go_quiet (fail)
        go_wp2
        go_ret
        exact ⟨rfl, below_drewN ha _⟩
      | true =>
        cases h3 : ((cl : Int) == 2) with
        | false =>
          have e : wellC 5 n xl cl = false := by rw [eq, h1, h2, h3]; rfl
          rw [e]
          clear e eq
          go_enter Tryz.func200, Tryz.ntmps200
          go_wp2
          go_quiet (fail)
          go_wp2
          go_ret
          exact ⟨rfl, below_drewN ha _⟩
        | true =>
          have e : wellC 5 n xl cl = true := by rw [eq, h1, h2, h3]; rfl
          rw [e]
          clear e eq
          go_enter Tryz.func200, Tryz.ntmps200
          go_wp2
          go_quiet (fail)
          go_wp2
          go_ret
          exact ⟨rfl, below_drewN ha _⟩
  by_cases q6 : k = 6
  · subst q6
    have eq : wellC 6 n xl cl = ((n == 0) && (((xl : Int) == 0) && ((cl : Int) == 2))) := by
      show (true && ((n == 0) && (((xl : Int) == 0) && ((cl : Int) == 2)))) = _
      cases (n == 0) <;> cases ((xl : Int) == 0) <;> cases ((cl : Int) == 2) <;> rfl
    cases h1 : (n == 0) with
    | false =>
      have e : wellC 6 n xl cl = false := by rw [eq, h1]; rfl
      rw [e]
      clear e eq
      go_enter Tryz.func200, Tryz.ntmps200
      go_wp2
      go_quiet (fail)
      go_wp2
      go_ret
      exact ⟨rfl, below_drewN ha _⟩
    | true =>
      cases h2 : ((xl : Int) == 0) with
      | false =>
        have e : wellC 6 n xl cl = false := by rw [eq, h1, h2]; rfl
        rw [e]
        clear e eq
        go_enter Tryz.func200, Tryz.ntmps200
        go_wp2
        go_quiet (fail)
        go_wp2
        go_ret
        exact ⟨rfl, below_drewN ha _⟩
      | true =>
        cases h3 : ((cl : Int) == 2) with
        | false =>
          have e : wellC 6 n xl cl = false := by rw [eq, h1, h2, h3]; rfl
          rw [e]
          clear e eq
          go_enter Tryz.func200, Tryz.ntmps200
          go_wp2
          go_quiet (fail)
          go_wp2
          go_ret
          exact ⟨rfl, below_drewN ha _⟩
        | true =>
          have e : wellC 6 n xl cl = true := by rw [eq, h1, h2, h3]; rfl
          rw [e]
          clear e eq
          go_enter Tryz.func200, Tryz.ntmps200
          go_wp2
          go_quiet (fail)
          go_wp2
          go_ret
          exact ⟨rfl, below_drewN ha _⟩
  have e : wellC k n xl cl = false := by
    have : kindC k = false := by unfold kindC; rw [decide_eq_false_iff_not]; omega
    unfold wellC; rw [this]; rfl
  rw [e]
  clear e
  have k1 : (k == 1) = false := by simpa using q1
  have k2 : (k == 2) = false := by simpa using q2
  have k3 : (k == 3) = false := by simpa using q3
  have k4 : (k == 4) = false := by simpa using q4
  have k5 : (k == 5) = false := by simpa using q5
  have k6 : (k == 6) = false := by simpa using q6
  clear q1 q2 q3 q4 q5 q6
  go_enter Tryz.func200, Tryz.ntmps200
  go_wp2
  go_quiet (fail)
  go_wp2
  go_ret
  exact ⟨rfl, below_drewN ha _⟩
end Go.Proofs.YtjpopelbdhgidaaGreatDoor
