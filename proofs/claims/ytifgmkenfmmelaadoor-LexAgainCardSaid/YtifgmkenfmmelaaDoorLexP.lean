/-
  Plain facts on places (no walk): proved is that a place that is reckoned from where a piece begins, laid behind the piece's own place, is the place in the whole text.
-/
import Derived.Test.YtifgmkenfmmelaaDoorLexM
namespace Go.Proofs.YtifgmkenfmmelaaDoor
open Go

/-- The place of byte n, q being the place of byte p. -/
def mvE (s : ByteArray) (n : Nat) : Nat → Nat → Int × Int → Int × Int
  | 0, _, q => q
  | f + 1, p, q => if p < s.size then (if p < n then mvE s n f (p + wd s p) (nxt ⟨p, q.1, q.2, rn s p⟩) else q) else q
theorem mvE_done {s : ByteArray} {n f p : Nat} {q : Int × Int} (h : ¬ (p < s.size ∧ p < n)) : mvE s n f p q = q := by
  cases f with
  | zero => rfl
  | succ f =>
    unfold mvE
    split
    · split
      · omega
      · rfl
    · rfl
theorem mvE_step {s : ByteArray} {n f p : Nat} {q : Int × Int} (h : p < s.size) (hn : p < n) : mvE s n (f + 1) p q = mvE s n f (p + wd s p) (nxt ⟨p, q.1, q.2, rn s p⟩) := by simp [mvE, h, hn]
theorem mvE_fuel (s : ByteArray) (n : Nat) : ∀ f g p q, s.size ≤ p + f → s.size ≤ p + g → mvE s n f p q = mvE s n g p q
  | 0, g, p, q, h, _ => by rw [mvE_done (by omega), mvE_done (by omega)]
  | f + 1, 0, p, q, _, h => by rw [mvE_done (by omega), mvE_done (by omega)]
  | f + 1, g + 1, p, q, h1, h2 => by
    unfold mvE
    split
    · rename_i hp
      have hd := dec_facts s p hp
      rw [mvE_fuel s n f g (p + wd s p) _ (by omega) (by omega)]
    · rfl
theorem atL_mvE (t : ByteArray) (m : Nat) : ∀ f i p, atL m p (spl t f i p) = mvE t m f i p
  | 0, _, _ => rfl
  | f + 1, i, p => by
    unfold spl mvE
    split
    · unfold atL
      by_cases h : i < m
      · rw [if_pos h, if_pos (by simpa using h)]
        exact atL_mvE t m f _ _
      · rw [if_neg h, if_neg (by simpa using h)]
    · rfl
theorem atV_mvE (t : ByteArray) (m : Nat) : atV t m = mvE t m t.size 0 (1, 1) := atL_mvE t m t.size 0 (1, 1)
theorem mvE_shift (s : ByteArray) (a : Nat) (ha : a ≤ s.size) (m : Nat) : ∀ f i q, mvE (s.extract a s.size) m f i q = mvE s (a + m) f (a + i) q
  | 0, _, _ => rfl
  | f + 1, i, q => by
    have hs : (s.extract a s.size).size = s.size - a := by simp
    unfold mvE
    rw [hs, rn_shift s a i ha, wd_shift s a i ha]
    by_cases h : i < s.size - a
    · have h' : a + i < s.size := by omega
      rw [if_pos h, if_pos h']
      by_cases hm : i < m
      · have hm' : a + i < a + m := by omega
        rw [if_pos hm, if_pos hm', mvE_shift s a ha m f, ← Nat.add_assoc]
        rfl
      · have hm' : ¬ a + i < a + m := by omega
        rw [if_neg hm, if_neg hm']
    · have h' : ¬ a + i < s.size := by omega
      rw [if_neg h, if_neg h']

/-- A place in a piece, laid behind the piece's own place. -/
def comb (P q : Int × Int) : Int × Int := (q.1 + (P.1 - 1), if q.1 = 1 then q.2 + (P.2 - 1) else q.2)
theorem comb_one (P : Int × Int) : comb P (1, 1) = P := by
  unfold comb
  simp only [if_true]
  apply Prod.ext <;> (simp only; omega)
theorem mvE_comb (s : ByteArray) (n : Nat) (P : Int × Int) : ∀ f p q, 1 ≤ q.1 → mvE s n f p (comb P q) = comb P (mvE s n f p q)
  | 0, _, _, _ => rfl
  | f + 1, p, q, h => by
    unfold mvE
    split
    · split
      · have e : nxt ⟨p, (comb P q).1, (comb P q).2, rn s p⟩ = comb P (nxt ⟨p, q.1, q.2, rn s p⟩) := by
          unfold nxt comb
          simp only
          split
          · apply Prod.ext
            · simp only; omega
            · simp only
              rw [if_neg (by omega)]
          · apply Prod.ext
            · simp only
            · simp only
              split <;> omega
        rw [e]
        refine mvE_comb s n P f _ _ ?_
        unfold nxt
        simp only
        split <;> (simp only; omega)
      · rfl
    · rfl
theorem mvE_bounds (s : ByteArray) (n : Nat) : ∀ f p (b : Nat) (q : Int × Int), 1 ≤ q.1 → 1 ≤ q.2 → q.1 ≤ b + 1 → q.2 ≤ b + 1 → b ≤ p → b ≤ n →
    1 ≤ (mvE s n f p q).1 ∧ 1 ≤ (mvE s n f p q).2 ∧ (mvE s n f p q).1 ≤ n + 1 ∧ (mvE s n f p q).2 ≤ n + 1
  | 0, p, b, q, h1, h2, h3, h4, h5, h6 => by unfold mvE; omega
  | f + 1, p, b, q, h1, h2, h3, h4, h5, h6 => by
    unfold mvE
    split
    · rename_i hp
      split
      · have hd := dec_facts s p hp
        have hn : 1 ≤ (nxt ⟨p, q.1, q.2, rn s p⟩).1 ∧ 1 ≤ (nxt ⟨p, q.1, q.2, rn s p⟩).2 ∧ (nxt ⟨p, q.1, q.2, rn s p⟩).1 ≤ ((b + 1 : Nat) : Int) + 1 ∧ (nxt ⟨p, q.1, q.2, rn s p⟩).2 ≤ ((b + 1 : Nat) : Int) + 1 := by
          unfold nxt
          simp only
          split <;> (simp only; omega)
        exact mvE_bounds s n f (p + wd s p) (b + 1) _ hn.1 hn.2.1 hn.2.2.1 hn.2.2.2 (by omega) (by omega)
      · omega
    · omega
/-- What the reader's move reckons: the place of byte n, from the place P of byte a. -/
theorem moved_place (s : ByteArray) (a n : Nat) (ha : a ≤ n) (hn : n ≤ s.size) (P : Int × Int) : comb P (atV (s.extract a s.size) ((n - a : Nat) : Int)) = mvE s n s.size a P := by
  rw [atV_mvE, mvE_shift s a (by omega)]
  have e : a + (n - a) = n := by omega
  rw [e, ← mvE_comb s n P _ _ _ (by simp), comb_one]
  exact mvE_fuel s n _ _ _ _ (by simp; omega) (by omega)
theorem atV_bounds (t : ByteArray) (m : Nat) : 1 ≤ (atV t m).1 ∧ 1 ≤ (atV t m).2 ∧ (atV t m).1 ≤ m + 1 ∧ (atV t m).2 ≤ m + 1 := by
  rw [atV_mvE]
  exact mvE_bounds t m _ 0 0 _ (by simp) (by simp) (by simp) (by simp) (by omega) (by omega)
end Go.Proofs.YtifgmkenfmmelaaDoor
