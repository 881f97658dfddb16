/-
  The project's tour through a program (tree's through): proved is what it answers: the nodes, the depth and the limit of a plain tour over the declarations and then the statements; and that it turns nothing that lay.
-/
import Derived.Test.YtepofbglpnnflaaDoorFault
namespace Go.Proofs.YtepofbglpnnflaaDoor
open Go Go.RowKit

/-- The tour over a program's declarations and statements. -/
def progT (ds ss : List Nd) : Tr := if (tourL ds 1 ⟨[], 0, 0⟩).lim ≠ 0 then tourL ds 1 ⟨[], 0, 0⟩ else tourL ss 1 (tourL ds 1 ⟨[], 0, 0⟩)
theorem progT_ok (ds ss : List Nd) : (progT ds ss).ok := by
  have h0 : Tr.ok ⟨[], 0, 0⟩ := by unfold Tr.ok; simp
  unfold progT
  split
  · exact tourL_ok ds 1 _ h0 (by omega)
  · exact tourL_ok ss 1 _ (tourL_ok ds 1 _ h0 (by omega)) (by omega)
/-- A tour's list, as a value. -/
def ListOf (w0 w : World) (l : List Nd) (v : Value) : Prop := ∃ (a : Option Addr) (b c : Nat), v = .slice a l.length c ∧ (l.length = 0 ∨ (a = some ⟨b, 0, none⟩ ∧ CellsAre w0 w l b 0 ∧ w0.heap.size ≤ b))
theorem ListOf.keep {w0 w w' : World} {l : List Nd} {v : Value} (h : ListOf w0 w l v) (hb : Below w.heap.size w w') : ListOf w0 w' l v := by
  obtain ⟨a, b, c, h1, h2⟩ := h
  exact ⟨a, b, c, h1, h2.imp id fun ⟨e, h, hn⟩ => ⟨e, h.keep hb, hn⟩⟩
/-- A program, as a value. -/
def ProgIn (w : World) (ds ss : List Nd) (vs : List Value) : Prop := ∃ v0 v1, vs = [v0, v1] ∧ SlIn w .D ds v0 ∧ SlIn w .S ss v1
theorem ProgIn.keep {w w' : World} {ds ss : List Nd} {vs : List Value} (h : ProgIn w ds ss vs) (hk : Keeps w w') : ProgIn w' ds ss vs := by
  obtain ⟨v0, v1, h1, h2, h3⟩ := h
  exact ⟨v0, v1, h1, h2.keep hk, h3.keep hk⟩

end Go.Proofs.YtepofbglpnnflaaDoor
