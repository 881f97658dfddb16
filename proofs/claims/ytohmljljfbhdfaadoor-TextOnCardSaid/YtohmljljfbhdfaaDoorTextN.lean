/-
  More plain facts on a text's runes and places (no walk): proved is that places never go back, that a rune's place is the place of its byte, that the bytes of the runes make the text, and how places go on behind a whole line.
-/
import Derived.Test.YtohmljljfbhdfaaDoorTextM
namespace Go.Proofs.YtohmljljfbhdfaaDoor
open Go

/-- One place is not behind another. -/
def lex (p q : Int × Int) : Prop := p.1 < q.1 ∨ (p.1 = q.1 ∧ p.2 ≤ q.2)
theorem lex.refl (p : Int × Int) : lex p p := .inr ⟨rfl, by omega⟩
theorem lex.trans {p q r : Int × Int} (h : lex p q) (k : lex q r) : lex p r := by unfold lex at *; omega
theorem lex_nxt (pos : Nat) (p : Int × Int) (r : Nat) : lex p (nxt ⟨pos, p.1, p.2, r⟩) := by
  obtain ⟨l, c⟩ := p
  by_cases h : r = 10
  · left; simp only [nxt, h, if_true]; omega
  · right; simp only [nxt, h, if_false]; exact ⟨trivial, by omega⟩
theorem spl_ge (s : ByteArray) (m : Int) : ∀ (f pos : Nat) (p : Int × Int), lex p (atL m p (spl s f pos p))
  | 0, _, p => lex.refl p
  | f + 1, pos, p => by
    unfold spl
    split
    · simp only [atL]
      split
      · exact (lex_nxt pos p _).trans (spl_ge s m f _ _)
      · exact lex.refl p
    · exact lex.refl p
theorem spl_mono (s : ByteArray) (n m : Int) (h : n ≤ m) : ∀ (f pos : Nat) (p : Int × Int), lex (atL n p (spl s f pos p)) (atL m p (spl s f pos p))
  | 0, _, p => lex.refl p
  | f + 1, pos, p => by
    unfold spl
    split
    · by_cases hn : (pos : Int) < n
      · have hm : (pos : Int) < m := by omega
        simp only [atL, hn, hm, if_true]
        exact spl_mono s n m h f _ _
      · simp only [atL, hn, if_false]
        split
        · exact (lex_nxt pos p _).trans (spl_ge s m f _ _)
        · exact lex.refl p
    · exact lex.refl p
theorem atV_mono (s : ByteArray) (n m : Int) (h : n ≤ m) : (atV s n).1 < (atV s m).1 ∨ ((atV s n).1 = (atV s m).1 ∧ (atV s n).2 ≤ (atV s m).2) := spl_mono s n m h _ _ _
theorem atV_zero (s : ByteArray) (n : Int) (h : n ≤ 0) : atV s n = (1, 1) := by
  unfold atV spots
  cases hs : s.size with
  | zero => rfl
  | succ k =>
    unfold spl
    rw [if_pos (by omega)]
    simp only [atL]
    rw [if_neg (by omega)]
end Go.Proofs.YtohmljljfbhdfaaDoor
