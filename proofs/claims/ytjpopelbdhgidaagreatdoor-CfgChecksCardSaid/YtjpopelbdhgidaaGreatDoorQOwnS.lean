/-
  The project's form of a statement (tree's stmtForm): proved is that it answers what the document asks of a statement's own parts.
-/
import Derived.Test.YtjpopelbdhgidaaGreatDoorQFormD
import Derived.BigQuiet

namespace Go.Proofs.YtjpopelbdhgidaaGreatDoor
open Go Go.RowKit

theorem wrap_zero {a b : Nat} (ha : a ≤ maxLen) (hb : b ≤ maxLen) : (IntKind.i64.wrap ((a : Int) + (b : Int)) == 0) = (((a : Int) == 0) && ((b : Int) == 0)) := by
  rw [Bool.eq_iff_iff]
  simp only [beq_iff_eq, Bool.and_eq_true]
  unfold maxLen at ha hb
  constructor
  · intro h
    simp only [IntKind.wrap, IntKind.signed, IntKind.bits, Bool.true_and] at h
    simp at h
    split at h <;> omega
  · rintro ⟨h1, h2⟩
    rw [h1, h2]
    rfl
def wellS (k : Int) (nm : ByteArray) (xl cl tl el : Nat) : Bool := (kindS k && (((k == 1) || (k == 2)) || (nm.toList == []))) && ownS k xl cl tl el
set_option maxRecDepth 100000 in
set_option maxHeartbeats 8000000 in
theorem stmtForm_any (k : Int) (nm : ByteArray) (a : Option Addr) (xl c : Nat) (a2 : Option Addr) (cl c2 : Nat) (a3 : Option Addr) (tl c3 : Nat) (a4 : Option Addr) (el c4 : Nat) (w : World) (ht : tl ≤ maxLen) (he : el ≤ maxLen) : Calls Tryz.prog 199 #[.agg #[.int .i64 k, .string nm, .slice a xl c, .slice a2 cl c2, .slice a3 tl c3, .slice a4 el c4]] w (fun e w' => e = .returned (.bool (wellS k nm xl cl tl el)) ∧ Below w.heap.size w w') := by
  obtain ⟨S, hS⟩ : ∃ S, IntKind.i64.wrap ((tl : Int) + (el : Int)) = S := ⟨_, rfl⟩
  have hz : (S == 0) = (((tl : Int) == 0) && ((el : Int) == 0)) := by rw [← hS]; exact wrap_zero ht he
  have HZ := Lib.hid hz; clear hz
  clear ht he
  have ha := (Below.refl w.heap.size w).alloc (Nat.le_refl _) (.cells #[.int .i64 k, .string nm, .slice a xl c, .slice a2 cl c2, .slice a3 tl c3, .slice a4 el c4] 267)
  by_cases q1 : k = 1
  · subst q1
    have eq : wellS 1 nm xl cl tl el = (((xl : Int) == 1) && (((cl : Int) == 0) && (S == 0))) := by
      have hz := HZ.out
      rw [hz]
      show ((true && ((true || false) || (nm.toList == []))) && (((xl : Int) == 1) && (((cl : Int) == 0) && ((((tl : Int) == 0) || (false || false)) && (((el : Int) == 0) || false))))) = _
      cases (nm.toList == []) <;> cases ((xl : Int) == 1) <;> cases ((cl : Int) == 0) <;> cases ((tl : Int) == 0) <;> cases ((el : Int) == 0) <;> rfl
    cases h1 : ((xl : Int) == 1) with
    | false =>
      have e : wellS 1 nm xl cl tl el = false := by rw [eq, h1]; rfl
      rw [e]
      clear e eq
      go_enter Tryz.func199, Tryz.ntmps199
      go_wp2
      go_quiet (fail)
      go_wp2
      go_ret
      exact ⟨rfl, below_drewN ha _⟩
    | true =>
      cases h2 : ((cl : Int) == 0) with
      | false =>
        have e : wellS 1 nm xl cl tl el = false := by rw [eq, h1, h2]; rfl
        rw [e]
        clear e eq
        go_enter Tryz.func199, Tryz.ntmps199
        go_wp2
        go_quiet (fail)
        go_wp2
        go_ret
        exact ⟨rfl, below_drewN ha _⟩
      | true =>
        cases h3 : (S == 0) with
        | false =>
          have e : wellS 1 nm xl cl tl el = false := by rw [eq, h1, h2, h3]; rfl
          rw [e]
          clear e eq
          go_enter Tryz.func199, Tryz.ntmps199
          go_wp2
          go_quiet (fail)
          go_wp2
          go_ret
          exact ⟨rfl, below_drewN ha _⟩
        | true =>
          have e : wellS 1 nm xl cl tl el = true := by rw [eq, h1, h2, h3]; rfl
          rw [e]
          clear e eq
          go_enter Tryz.func199, Tryz.ntmps199
          go_wp2
          go_quiet (fail)
          go_wp2
          go_ret
          exact ⟨rfl, below_drewN ha _⟩
  by_cases q2 : k = 2
  · subst q2
    have eq : wellS 2 nm xl cl tl el = (((xl : Int) == 2) && (((cl : Int) == 0) && (S == 0))) := by
      have hz := HZ.out
      rw [hz]
      show ((true && ((false || true) || (nm.toList == []))) && (((xl : Int) == 2) && (((cl : Int) == 0) && ((((tl : Int) == 0) || (false || false)) && (((el : Int) == 0) || false))))) = _
      cases (nm.toList == []) <;> cases ((xl : Int) == 2) <;> cases ((cl : Int) == 0) <;> cases ((tl : Int) == 0) <;> cases ((el : Int) == 0) <;> rfl
    cases h1 : ((xl : Int) == 2) with
    | false =>
      have e : wellS 2 nm xl cl tl el = false := by rw [eq, h1]; rfl
      rw [e]
      clear e eq
      go_enter Tryz.func199, Tryz.ntmps199
      go_wp2
      go_quiet (fail)
      go_wp2
      go_ret
      exact ⟨rfl, below_drewN ha _⟩
    | true =>
      cases h2 : ((cl : Int) == 0) with
      | false =>
        have e : wellS 2 nm xl cl tl el = false := by rw [eq, h1, h2]; rfl
        rw [e]
        clear e eq
        go_enter Tryz.func199, Tryz.ntmps199
        go_wp2
        go_quiet (fail)
        go_wp2
        go_ret
        exact ⟨rfl, below_drewN ha _⟩
      | true =>
        cases h3 : (S == 0) with
        | false =>
          have e : wellS 2 nm xl cl tl el = false := by rw [eq, h1, h2, h3]; rfl
          rw [e]
          clear e eq
          go_enter Tryz.func199, Tryz.ntmps199
          go_wp2
          go_quiet (fail)
          go_wp2
          go_ret
          exact ⟨rfl, below_drewN ha _⟩
        | true =>
          have e : wellS 2 nm xl cl tl el = true := by rw [eq, h1, h2, h3]; rfl
          rw [e]
          clear e eq
          go_enter Tryz.func199, Tryz.ntmps199
          go_wp2
          go_quiet (fail)
          go_wp2
          go_ret
          exact ⟨rfl, below_drewN ha _⟩
  by_cases q3 : k = 3
  · subst q3
    have eq : wellS 3 nm xl cl tl el = ((nm.toList == []) && (((xl : Int) == 0) && ((cl : Int) == 1))) := by
      show ((true && ((false || false) || (nm.toList == []))) && (((xl : Int) == 0) && (((cl : Int) == 1) && ((((tl : Int) == 0) || (true || false)) && (((el : Int) == 0) || true))))) = _
      cases (nm.toList == []) <;> cases ((xl : Int) == 0) <;> cases ((cl : Int) == 1) <;> cases ((tl : Int) == 0) <;> cases ((el : Int) == 0) <;> rfl
    cases h1 : (nm.toList == []) with
    | false =>
      have e : wellS 3 nm xl cl tl el = false := by rw [eq, h1]; rfl
      rw [e]
      clear e eq
      go_enter Tryz.func199, Tryz.ntmps199
      go_wp2
      go_quiet (fail)
      go_wp2
      go_ret
      exact ⟨rfl, below_drewN ha _⟩
    | true =>
      cases h2 : ((xl : Int) == 0) with
      | false =>
        have e : wellS 3 nm xl cl tl el = false := by rw [eq, h1, h2]; rfl
        rw [e]
        clear e eq
        go_enter Tryz.func199, Tryz.ntmps199
        go_wp2
        go_quiet (fail)
        go_wp2
        go_ret
        exact ⟨rfl, below_drewN ha _⟩
      | true =>
        cases h3 : ((cl : Int) == 1) with
        | false =>
          have e : wellS 3 nm xl cl tl el = false := by rw [eq, h1, h2, h3]; rfl
          rw [e]
          clear e eq
          go_enter Tryz.func199, Tryz.ntmps199
          go_wp2
          go_quiet (fail)
          go_wp2
          go_ret
          exact ⟨rfl, below_drewN ha _⟩
        | true =>
          have e : wellS 3 nm xl cl tl el = true := by rw [eq, h1, h2, h3]; rfl
          rw [e]
          clear e eq
          go_enter Tryz.func199, Tryz.ntmps199
          go_wp2
          go_quiet (fail)
          go_wp2
          go_ret
          exact ⟨rfl, below_drewN ha _⟩
  by_cases q4 : k = 4
  · subst q4
    have eq : wellS 4 nm xl cl tl el = ((nm.toList == []) && (((xl : Int) == 0) && (((cl : Int) == 1) && ((el : Int) == 0)))) := by
      show ((true && ((false || false) || (nm.toList == []))) && (((xl : Int) == 0) && (((cl : Int) == 1) && ((((tl : Int) == 0) || (false || true)) && (((el : Int) == 0) || false))))) = _
      cases (nm.toList == []) <;> cases ((xl : Int) == 0) <;> cases ((cl : Int) == 1) <;> cases ((tl : Int) == 0) <;> cases ((el : Int) == 0) <;> rfl
    cases h1 : (nm.toList == []) with
    | false =>
      have e : wellS 4 nm xl cl tl el = false := by rw [eq, h1]; rfl
      rw [e]
      clear e eq
      go_enter Tryz.func199, Tryz.ntmps199
      go_wp2
      go_quiet (fail)
      go_wp2
      go_ret
      exact ⟨rfl, below_drewN ha _⟩
    | true =>
      cases h2 : ((xl : Int) == 0) with
      | false =>
        have e : wellS 4 nm xl cl tl el = false := by rw [eq, h1, h2]; rfl
        rw [e]
        clear e eq
        go_enter Tryz.func199, Tryz.ntmps199
        go_wp2
        go_quiet (fail)
        go_wp2
        go_ret
        exact ⟨rfl, below_drewN ha _⟩
      | true =>
        cases h3 : ((cl : Int) == 1) with
        | false =>
          have e : wellS 4 nm xl cl tl el = false := by rw [eq, h1, h2, h3]; rfl
          rw [e]
          clear e eq
          go_enter Tryz.func199, Tryz.ntmps199
          go_wp2
          go_quiet (fail)
          go_wp2
          go_ret
          exact ⟨rfl, below_drewN ha _⟩
        | true =>
          cases h4 : ((el : Int) == 0) with
          | false =>
            have e : wellS 4 nm xl cl tl el = false := by rw [eq, h1, h2, h3, h4]; rfl
            rw [e]
            clear e eq
            go_enter Tryz.func199, Tryz.ntmps199
            go_wp2
            go_quiet (fail)
            go_wp2
            go_ret
            exact ⟨rfl, below_drewN ha _⟩
          | true =>
            have e : wellS 4 nm xl cl tl el = true := by rw [eq, h1, h2, h3, h4]; rfl
            rw [e]
            clear e eq
            go_enter Tryz.func199, Tryz.ntmps199
            go_wp2
            go_quiet (fail)
            go_wp2
            go_ret
            exact ⟨rfl, below_drewN ha _⟩
  by_cases q5 : k = 5
  · subst q5
    have eq : wellS 5 nm xl cl tl el = ((nm.toList == []) && (((xl : Int) == 0) && (((cl : Int) == 1) && (S == 0)))) := by
      have hz := HZ.out
      rw [hz]
      show ((true && ((false || false) || (nm.toList == []))) && (((xl : Int) == 0) && (((cl : Int) == 1) && ((((tl : Int) == 0) || (false || false)) && (((el : Int) == 0) || false))))) = _
      cases (nm.toList == []) <;> cases ((xl : Int) == 0) <;> cases ((cl : Int) == 1) <;> cases ((tl : Int) == 0) <;> cases ((el : Int) == 0) <;> rfl
    cases h1 : (nm.toList == []) with
    | false =>
      have e : wellS 5 nm xl cl tl el = false := by rw [eq, h1]; rfl
      rw [e]
      clear e eq
      go_enter Tryz.func199, Tryz.ntmps199
      go_wp2
      go_quiet (fail)
      go_wp2
      go_ret
      exact ⟨rfl, below_drewN ha _⟩
    | true =>
      cases h2 : ((xl : Int) == 0) with
      | false =>
        have e : wellS 5 nm xl cl tl el = false := by rw [eq, h1, h2]; rfl
        rw [e]
        clear e eq
        go_enter Tryz.func199, Tryz.ntmps199
        go_wp2
        go_quiet (fail)
        go_wp2
        go_ret
        exact ⟨rfl, below_drewN ha _⟩
      | true =>
        cases h3 : ((cl : Int) == 1) with
        | false =>
          have e : wellS 5 nm xl cl tl el = false := by rw [eq, h1, h2, h3]; rfl
          rw [e]
          clear e eq
          go_enter Tryz.func199, Tryz.ntmps199
          go_wp2
          go_quiet (fail)
          go_wp2
          go_ret
          exact ⟨rfl, below_drewN ha _⟩
        | true =>
          cases h4 : (S == 0) with
          | false =>
            have e : wellS 5 nm xl cl tl el = false := by rw [eq, h1, h2, h3, h4]; rfl
            rw [e]
            clear e eq
            go_enter Tryz.func199, Tryz.ntmps199
            go_wp2
            go_quiet (fail)
            go_wp2
            go_ret
            exact ⟨rfl, below_drewN ha _⟩
          | true =>
            have e : wellS 5 nm xl cl tl el = true := by rw [eq, h1, h2, h3, h4]; rfl
            rw [e]
            clear e eq
            go_enter Tryz.func199, Tryz.ntmps199
            go_wp2
            go_quiet (fail)
            go_wp2
            go_ret
            exact ⟨rfl, below_drewN ha _⟩
  by_cases q6 : k = 6
  · subst q6
    have eq : wellS 6 nm xl cl tl el = ((nm.toList == []) && (((xl : Int) == 0) && (((cl : Int) == 1) && (S == 0)))) := by
      have hz := HZ.out
      rw [hz]
      show ((true && ((false || false) || (nm.toList == []))) && (((xl : Int) == 0) && (((cl : Int) == 1) && ((((tl : Int) == 0) || (false || false)) && (((el : Int) == 0) || false))))) = _
      cases (nm.toList == []) <;> cases ((xl : Int) == 0) <;> cases ((cl : Int) == 1) <;> cases ((tl : Int) == 0) <;> cases ((el : Int) == 0) <;> rfl
    cases h1 : (nm.toList == []) with
    | false =>
      have e : wellS 6 nm xl cl tl el = false := by rw [eq, h1]; rfl
      rw [e]
      clear e eq
      go_enter Tryz.func199, Tryz.ntmps199
      go_wp2
      go_quiet (fail)
      go_wp2
      go_ret
      exact ⟨rfl, below_drewN ha _⟩
    | true =>
      cases h2 : ((xl : Int) == 0) with
      | false =>
        have e : wellS 6 nm xl cl tl el = false := by rw [eq, h1, h2]; rfl
        rw [e]
        clear e eq
        go_enter Tryz.func199, Tryz.ntmps199
        go_wp2
        go_quiet (fail)
        go_wp2
        go_ret
        exact ⟨rfl, below_drewN ha _⟩
      | true =>
        cases h3 : ((cl : Int) == 1) with
        | false =>
          have e : wellS 6 nm xl cl tl el = false := by rw [eq, h1, h2, h3]; rfl
          rw [e]
          clear e eq
          go_enter Tryz.func199, Tryz.ntmps199
          go_wp2
          go_quiet (fail)
          go_wp2
          go_ret
          exact ⟨rfl, below_drewN ha _⟩
        | true =>
          cases h4 : (S == 0) with
          | false =>
            have e : wellS 6 nm xl cl tl el = false := by rw [eq, h1, h2, h3, h4]; rfl
            rw [e]
            clear e eq
            go_enter Tryz.func199, Tryz.ntmps199
            go_wp2
            go_quiet (fail)
            go_wp2
            go_ret
            exact ⟨rfl, below_drewN ha _⟩
          | true =>
            have e : wellS 6 nm xl cl tl el = true := by rw [eq, h1, h2, h3, h4]; rfl
            rw [e]
            clear e eq
            go_enter Tryz.func199, Tryz.ntmps199
            go_wp2
            go_quiet (fail)
            go_wp2
            go_ret
            exact ⟨rfl, below_drewN ha _⟩
  by_cases q7 : k = 7
  · subst q7
    have eq : wellS 7 nm xl cl tl el = ((nm.toList == []) && (((xl : Int) == 0) && (((cl : Int) == 0) && (S == 0)))) := by
      have hz := HZ.out
      rw [hz]
      show ((true && ((false || false) || (nm.toList == []))) && (((xl : Int) == 0) && (((cl : Int) == 0) && ((((tl : Int) == 0) || (false || false)) && (((el : Int) == 0) || false))))) = _
      cases (nm.toList == []) <;> cases ((xl : Int) == 0) <;> cases ((cl : Int) == 0) <;> cases ((tl : Int) == 0) <;> cases ((el : Int) == 0) <;> rfl
    cases h1 : (nm.toList == []) with
    | false =>
      have e : wellS 7 nm xl cl tl el = false := by rw [eq, h1]; rfl
      rw [e]
      clear e eq
      go_enter Tryz.func199, Tryz.ntmps199
      go_wp2
      go_quiet (fail)
      go_wp2
      go_ret
      exact ⟨rfl, below_drewN ha _⟩
    | true =>
      cases h2 : ((xl : Int) == 0) with
      | false =>
        have e : wellS 7 nm xl cl tl el = false := by rw [eq, h1, h2]; rfl
        rw [e]
        clear e eq
        go_enter Tryz.func199, Tryz.ntmps199
        go_wp2
        go_quiet (fail)
        go_wp2
        go_ret
        exact ⟨rfl, below_drewN ha _⟩
      | true =>
        cases h3 : ((cl : Int) == 0) with
        | false =>
          have e : wellS 7 nm xl cl tl el = false := by rw [eq, h1, h2, h3]; rfl
          rw [e]
          clear e eq
          go_enter Tryz.func199, Tryz.ntmps199
          go_wp2
          go_quiet (fail)
          go_wp2
          go_ret
          exact ⟨rfl, below_drewN ha _⟩
        | true =>
          cases h4 : (S == 0) with
          | false =>
            have e : wellS 7 nm xl cl tl el = false := by rw [eq, h1, h2, h3, h4]; rfl
            rw [e]
            clear e eq
            go_enter Tryz.func199, Tryz.ntmps199
            go_wp2
            go_quiet (fail)
            go_wp2
            go_ret
            exact ⟨rfl, below_drewN ha _⟩
          | true =>
            have e : wellS 7 nm xl cl tl el = true := by rw [eq, h1, h2, h3, h4]; rfl
            rw [e]
            clear e eq
            go_enter Tryz.func199, Tryz.ntmps199
            go_wp2
            go_quiet (fail)
            go_wp2
            go_ret
            exact ⟨rfl, below_drewN ha _⟩
  have e : wellS k nm xl cl tl el = false := by
    have : kindS k = false := by unfold kindS; rw [decide_eq_false_iff_not]; omega
    unfold wellS; rw [this]; rfl
  rw [e]
  clear e
  have k1 : (k == 1) = false := by simpa using q1
  have k2 : (k == 2) = false := by simpa using q2
  have k3 : (k == 3) = false := by simpa using q3
  have k4 : (k == 4) = false := by simpa using q4
  have k5 : (k == 5) = false := by simpa using q5
  have k6 : (k == 6) = false := by simpa using q6
  have k7 : (k == 7) = false := by simpa using q7
  clear q1 q2 q3 q4 q5 q6 q7
  go_enter Tryz.func199, Tryz.ntmps199
  go_wp2
  go_quiet (fail)
  go_wp2
  go_ret
  exact ⟨rfl, below_drewN ha _⟩
end Go.Proofs.YtjpopelbdhgidaaGreatDoor
