/-
  Plain facts on a text's tokens (no walk): the list of all tokens, or the first fault, as a function of the text; proved is that each token has a byte at least and ends within the text.
-/
import Derived.Test.YtifgmkenfmmelaaDoorLexF
namespace Go.Proofs.YtifgmkenfmmelaaDoor
open Go

/-- A token. -/
structure Tk where
  kind : Int
  text : ByteArray
  num : Int
  pl : Int × Int
def Tk.cells (t : Tk) : List Value := tokC t.kind t.text t.num t.pl
def cellsOf (l : List Tk) : List Value := l.flatMap Tk.cells
theorem cellsOf_snoc (l : List Tk) (t : Tk) : cellsOf (l ++ [t]) = cellsOf l ++ tokC t.kind t.text t.num t.pl := by simp [cellsOf, Tk.cells]

/-- The tokens from byte b on, which is a token's first one or the end, Q its place, l the tokens ahead: (error, its place, all tokens). -/
def lexC (s : ByteArray) : Nat → Nat → Int × Int → List Tk → Int × (Int × Int) × List Tk
  | 0, _, _, _ => (0, (0, 0), [])
  | f + 1, b, Q, l =>
    if b < s.size then
      match tokT s b l.length with
      | (e, n, kind, num) => if e = 0 then lexC s f (ptE s s.size n false) (mvE s (ptE s s.size n false) s.size n (mvE s n s.size b Q)) (l ++ [⟨kind, s.extract b n, num, Q⟩]) else (e, Q, [])
    else (0, (0, 0), l ++ [⟨5, s.extract b b, 0, Q⟩])
theorem lexC_end {s : ByteArray} {f b : Nat} {Q : Int × Int} {l : List Tk} (h : ¬ b < s.size) : lexC s (f + 1) b Q l = (0, (0, 0), l ++ [⟨5, s.extract b b, 0, Q⟩]) := by
  unfold lexC; rw [if_neg h]
theorem lexC_bad {s : ByteArray} {f b : Nat} {Q : Int × Int} {l : List Tk} {o : Int × Nat × Int × Int} (h : b < s.size) (ho : tokT s b l.length = o) (he : o.1 ≠ 0) : lexC s (f + 1) b Q l = (o.1, Q, []) := by
  obtain ⟨e, n, kind, num⟩ := o
  unfold lexC; rw [if_pos h, ho]; simp only; rw [if_neg he]
theorem lexC_tok {s : ByteArray} {f b : Nat} {Q : Int × Int} {l : List Tk} {o : Int × Nat × Int × Int} (h : b < s.size) (ho : tokT s b l.length = o) (he : o.1 = 0) :
    lexC s (f + 1) b Q l = lexC s f (ptE s s.size o.2.1 false) (mvE s (ptE s s.size o.2.1 false) s.size o.2.1 (mvE s o.2.1 s.size b Q)) (l ++ [⟨o.2.2.1, s.extract b o.2.1, o.2.2.2, Q⟩]) := by
  obtain ⟨e, n, kind, num⟩ := o
  rw [lexC, if_pos h, ho]; simp only; rw [if_pos he]
/-- What Tokens answers: (error, its place, the tokens). -/
def lexV (s : ByteArray) : Int × (Int × Int) × List Tk :=
  if (chkAll s).2 = 0 then lexC s (s.size + 1) (ptE s s.size 0 false) (mvE s (ptE s s.size 0 false) s.size 0 (1, 1)) [] else ((chkAll s).2, atV s (chkAll s).1, [])

theorem inNm_let {r : Int} (h : cls r = 3) : inNm r = true := by unfold inNm isLet; simp [h]
theorem isDig_of {r : Int} (h : cls r = 4) : isDig r = true := by unfold isDig; simp [h]
theorem spE_first (told : Int → Bool) (s : ByteArray) (a : Nat) (h : a < s.size) (ht : told (rn s a) = true) : a < spE told s s.size a ∧ spE told s s.size a ≤ s.size := by
  obtain ⟨f, hf⟩ : ∃ f, s.size = f + 1 := ⟨s.size - 1, by omega⟩
  have hd := dec_facts s a h
  have hb := spE_bounds told s f (a + wd s a) hd.2.1
  rw [hf, spE_go h ht]
  omega
theorem oneT_end (s : ByteArray) (a : Nat) (h : a < s.size) {o : Int × Nat × Int × Int} (ho : oneT s a = o) (he : o.1 = 0) : a < o.2.1 ∧ o.2.1 ≤ s.size := by
  subst ho
  unfold oneT at he ⊢
  split at he
  · rename_i h3
    have := spE_first inNm s a h (inNm_let h3)
    rw [if_pos h3]
    unfold letT at he ⊢
    split
    · exact this
    · split
      · rename_i h1 h2
        rw [if_neg h1, if_pos h2] at he
        simp at he
      · exact this
  · rename_i h3
    rw [if_neg h3]
    split at he
    · rename_i h4
      have := spE_first isDig s a h (isDig_of h4)
      rw [if_pos h4]
      unfold digT at he ⊢
      split
      · rename_i h1
        rw [if_pos h1] at he
        simp at he
      · rename_i h1
        rw [if_neg h1] at he
        split
        · exact this
        · rename_i h2
          rw [if_neg h2] at he
          simp at he
    · rename_i h4
      rw [if_neg h4]
      split at he
      · rename_i h5
        rw [if_pos h5]
        have hlen : (s.extract a s.size).data.toList.length = s.size - a := by rw [Array.length_toList]; show (s.extract a s.size).size = _; simp
        have hb := sgL_bounds (s.extract a s.size).data.toList (by omega)
        rw [hlen] at hb
        unfold sigT at he ⊢
        split
        · simp only; omega
        · rename_i h1
          rw [if_neg h1] at he
          simp at he
      · simp at he
theorem tokT_end (s : ByteArray) (a k : Nat) (h : a < s.size) {o : Int × Nat × Int × Int} (ho : tokT s a k = o) (he : o.1 = 0) : a < o.2.1 ∧ o.2.1 ≤ s.size ∧ k ≠ 32768 := by
  unfold tokT at ho
  split at ho
  · subst ho; simp at he
  · rename_i hk
    have := oneT_end s a h ho he
    exact ⟨this.1, this.2, hk⟩

/-- What is left of Tokens' way. -/
structure LexRel (s : ByteArray) (f b : Nat) (Q : Int × Int) (l : List Tk) : Prop where
  eq : lexC s f b Q l = lexV s
  fuel : s.size < b + f
  le : b ≤ s.size
  len : l.length ≤ 32768
theorem LexRel.start {s : ByteArray} (h : (chkAll s).2 = 0) : LexRel s (s.size + 1) (ptE s s.size 0 false) (mvE s (ptE s s.size 0 false) s.size 0 (1, 1)) [] :=
  ⟨by unfold lexV; rw [if_pos h], by omega, (ptE_bounds s s.size 0 false (by omega)).2, by simp⟩
theorem LexRel.next {s : ByteArray} {f b : Nat} {Q : Int × Int} {l : List Tk} {o : Int × Nat × Int × Int} (h : LexRel s f b Q l) (hb : b < s.size) (ho : tokT s b l.length = o) (he : o.1 = 0) :
    b < o.2.1 ∧ o.2.1 ≤ s.size ∧ l.length + 1 ≤ 32768 ∧ b < ptE s s.size o.2.1 false ∧ ∃ f', LexRel s f' (ptE s s.size o.2.1 false) (mvE s (ptE s s.size o.2.1 false) s.size o.2.1 (mvE s o.2.1 s.size b Q)) (l ++ [⟨o.2.2.1, s.extract b o.2.1, o.2.2.2, Q⟩]) := by
  obtain ⟨h1, h2, h3, h4⟩ := h
  have ht := tokT_end s b l.length hb ho he
  have hp := ptE_bounds s s.size o.2.1 false ht.2.1
  cases f with
  | zero => omega
  | succ f => exact ⟨ht.1, ht.2.1, by omega, by omega, f, by rw [← h1, lexC_tok hb ho he], by omega, hp.2, by simp; omega⟩
theorem LexRel.bad {s : ByteArray} {f b : Nat} {Q : Int × Int} {l : List Tk} {o : Int × Nat × Int × Int} (h : LexRel s f b Q l) (hb : b < s.size) (ho : tokT s b l.length = o) (he : o.1 ≠ 0) : lexV s = (o.1, Q, []) := by
  obtain ⟨h1, h2, h3, h4⟩ := h
  cases f with
  | zero => omega
  | succ f => rw [← h1, lexC_bad hb ho he]
theorem LexRel.done {s : ByteArray} {f b : Nat} {Q : Int × Int} {l : List Tk} (h : LexRel s f b Q l) (hb : ¬ b < s.size) : lexV s = (0, (0, 0), l ++ [⟨5, s.extract b b, 0, Q⟩]) := by
  obtain ⟨h1, h2, h3, h4⟩ := h
  cases f with
  | zero => omega
  | succ f => rw [← h1, lexC_end hb]
end Go.Proofs.YtifgmkenfmmelaaDoor
