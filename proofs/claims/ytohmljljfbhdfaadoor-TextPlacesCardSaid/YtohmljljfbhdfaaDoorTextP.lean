/-
  Plain facts on the list of a text's runes (no walk): proved is that each rune begins where the one ahead of it ends, stands at the place of its first byte, and that the last one ends where the text does.
-/
import Derived.Test.YtohmljljfbhdfaaDoorTextM
namespace Go.Proofs.YtohmljljfbhdfaaDoor
open Go

/-- Where the runes of a list end that begins at byte pos. -/
def endFrom (s : ByteArray) (pos : Nat) : List Spot → Nat
  | [] => pos
  | y :: t => endFrom s (y.pos + wd s y.pos) t
theorem endFrom_snoc (s : ByteArray) (pos : Nat) (l : List Spot) (y : Spot) : endFrom s pos (l ++ [y]) = y.pos + wd s y.pos := by
  induction l generalizing pos with
  | nil => rfl
  | cons z t ih => exact ih _

theorem spl_chain (s : ByteArray) : ∀ (f pos : Nat) (p : Int × Int) (pre : List Spot) (x : Spot) (rest : List Spot), spl s f pos p = pre ++ x :: rest →
    x.pos = endFrom s pos pre ∧ (x.line, x.col) = behindL p pre ∧ x.pos < s.size ∧ x.r = rn s x.pos ∧ pos ≤ x.pos ∧ ∀ y ∈ pre, y.pos < x.pos
  | 0, _, _, pre, x, rest, h => by simp [spl] at h
  | f + 1, pos, p, pre, x, rest, h => by
    unfold spl at h
    split at h
    · rename_i hp
      have hd := dec_facts s pos hp
      cases pre with
      | nil =>
        simp only [List.nil_append, List.cons.injEq] at h
        obtain ⟨rfl, _⟩ := h
        exact ⟨rfl, rfl, hp, rfl, Nat.le_refl _, fun _ h => by cases h⟩
      | cons y t =>
        simp only [List.cons_append, List.cons.injEq] at h
        obtain ⟨rfl, h⟩ := h
        obtain ⟨h1, h2, h3, h4, h5, h6⟩ := spl_chain s f _ _ t x rest h
        refine ⟨h1, h2, h3, h4, by omega, ?_⟩
        intro z hz
        rcases List.mem_cons.1 hz with rfl | hz
        · show pos < x.pos
          omega
        · exact h6 z hz
    · simp at h
theorem spl_last (s : ByteArray) : ∀ (f pos : Nat) (p : Int × Int), s.size ≤ pos + f → pos ≤ s.size → endFrom s pos (spl s f pos p) = s.size
  | 0, pos, p, h1, h2 => by simp only [spl, endFrom]; omega
  | f + 1, pos, p, h1, h2 => by
    unfold spl
    split
    · rename_i hp
      have hd := dec_facts s pos hp
      exact spl_last s f (pos + wd s pos) _ (by omega) (by omega)
    · simp only [endFrom]; omega

theorem spots_next (s : ByteArray) (pre : List Spot) (x : Spot) (h : pre ++ [x] <+: spots s) :
    x.pos = endFrom s 0 pre ∧ x.pos < s.size ∧ x.r = rn s x.pos ∧ atV s x.pos = (x.line, x.col) := by
  obtain ⟨rest, hrest⟩ := h
  rw [List.append_assoc] at hrest
  obtain ⟨h1, h2, h3, h4, _, h6⟩ := spl_chain s _ _ _ pre x rest hrest.symm
  refine ⟨h1, h3, h4, ?_⟩
  rw [h2]
  unfold atV
  rw [← hrest]
  exact atL_stop _ _ pre x rest (fun y hy => by have := h6 y hy; omega) (by omega)
theorem spots_last (s : ByteArray) : endFrom s 0 (spots s) = s.size := spl_last s _ _ _ (by omega) (by omega)
theorem spl_len (s : ByteArray) : ∀ (f pos : Nat) (p : Int × Int), (spl s f pos p).length ≤ f
  | 0, _, _ => by simp [spl]
  | f + 1, pos, p => by
    unfold spl
    split
    · have := spl_len s f (pos + wd s pos) (nxt ⟨pos, p.1, p.2, rn s pos⟩)
      simp only [List.length_cons]
      omega
    · simp
theorem pre_len (s : ByteArray) (pre : List Spot) (x : Spot) (h : pre ++ [x] <+: spots s) : pre.length < s.size := by
  have h1 := h.length_le
  have h2 := spl_len s s.size 0 (1, 1)
  have h3 : (spots s).length ≤ s.size := h2
  simp only [List.length_append, List.length_cons, List.length_nil] at h1
  omega
end Go.Proofs.YtohmljljfbhdfaaDoor
