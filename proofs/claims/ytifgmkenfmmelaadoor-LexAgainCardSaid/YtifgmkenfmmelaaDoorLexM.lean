/-
  Plain facts on tokens (no walk): proved is where runes of a kind end, where the next token begins, and that a text from a byte on is read as the whole text there.
-/
import Derived.Test.YtifgmkenfmmelaaDoorTextM
import Derived.Test.YtifgmkenfmmelaaDoorLexA
namespace Go.Proofs.YtifgmkenfmmelaaDoor
open Go

theorem decode_shift (s : ByteArray) (n i : Nat) (_h : n ≤ s.size) : Utf8.decode (s.extract n s.size) i = Utf8.decode s (n + i) := by
  have hs : (s.extract n s.size).size = s.size - n := by simp
  rw [Lib.decode_at, Lib.decode_at, hs]
  simp only [get!_extract s n, Nat.add_assoc]
  congr 1
  omega
theorem rn_shift (s : ByteArray) (n i : Nat) (h : n ≤ s.size) : rn (s.extract n s.size) i = rn s (n + i) := congrArg Prod.fst (decode_shift s n i h)
theorem wd_shift (s : ByteArray) (n i : Nat) (h : n ≤ s.size) : wd (s.extract n s.size) i = wd s (n + i) := congrArg Prod.snd (decode_shift s n i h)

/-- Where the runes of a kind end that begin at byte p. -/
def spE (told : Int → Bool) (s : ByteArray) : Nat → Nat → Nat
  | 0, p => p
  | f + 1, p => if p < s.size then (if told (rn s p) = true then spE told s f (p + wd s p) else p) else p
theorem spE_go {told : Int → Bool} {s : ByteArray} {f p : Nat} (h : p < s.size) (ht : told (rn s p) = true) : spE told s (f + 1) p = spE told s f (p + wd s p) := by simp [spE, h, ht]
theorem spE_stop {told : Int → Bool} {s : ByteArray} {f p : Nat} (ht : told (rn s p) = false) : spE told s f p = p := by cases f <;> simp [spE, ht]
theorem spE_end {told : Int → Bool} {s : ByteArray} {f p : Nat} (h : ¬ p < s.size) : spE told s f p = p := by cases f <;> simp [spE, h]
theorem spE_bounds (told : Int → Bool) (s : ByteArray) : ∀ f p, p ≤ s.size → p ≤ spE told s f p ∧ spE told s f p ≤ s.size
  | 0, p, h => ⟨Nat.le_refl _, h⟩
  | f + 1, p, h => by
    unfold spE
    split
    · rename_i hp
      split
      · have hd := dec_facts s p hp
        have := spE_bounds told s f (p + wd s p) hd.2.1
        omega
      · exact ⟨Nat.le_refl _, h⟩
    · exact ⟨Nat.le_refl _, h⟩
theorem spE_fuel (told : Int → Bool) (s : ByteArray) : ∀ f g p, s.size ≤ p + f → s.size ≤ p + g → spE told s f p = spE told s g p
  | 0, g, p, h, _ => by rw [spE_end (by omega), spE_end (by omega)]
  | f + 1, 0, p, _, h => by rw [spE_end (by omega), spE_end (by omega)]
  | f + 1, g + 1, p, h1, h2 => by
    unfold spE
    split
    · rename_i hp
      have hd := dec_facts s p hp
      rw [spE_fuel told s f g (p + wd s p) (by omega) (by omega)]
    · rfl
theorem spE_shift (told : Int → Bool) (s : ByteArray) (n : Nat) (hn : n ≤ s.size) : ∀ f i, n + spE told (s.extract n s.size) f i = spE told s f (n + i)
  | 0, i => rfl
  | f + 1, i => by
    have hs : (s.extract n s.size).size = s.size - n := by simp
    unfold spE
    rw [hs, rn_shift s n i hn, wd_shift s n i hn]
    by_cases h : i < s.size - n
    · have h' : n + i < s.size := by omega
      rw [if_pos h, if_pos h']
      split
      · rw [spE_shift told s n hn f _, Nat.add_assoc]
      · rfl
    · have h' : ¬ n + i < s.size := by omega
      rw [if_neg h, if_neg h']

/-- Where the next token begins, or the text ends; c: a comment is on. -/
def ptE (s : ByteArray) : Nat → Nat → Bool → Nat
  | 0, p, _ => p
  | f + 1, p, c => if p < s.size then
      (if cls (rn s p) = 2 then ptE s f (p + wd s p) false else if cls (rn s p) = 1 then ptE s f (p + wd s p) c else if c = true ∨ rn s p = 35 then ptE s f (p + wd s p) true else p) else p
theorem ptE_end {s : ByteArray} {f p : Nat} {c : Bool} (h : ¬ p < s.size) : ptE s f p c = p := by cases f <;> simp [ptE, h]
theorem ptE_line {s : ByteArray} {f p : Nat} {c : Bool} (h : p < s.size) (hc : cls (rn s p) = 2) : ptE s (f + 1) p c = ptE s f (p + wd s p) false := by simp [ptE, h, hc]
theorem ptE_space {s : ByteArray} {f p : Nat} {c : Bool} (h : p < s.size) (hc : cls (rn s p) = 1) : ptE s (f + 1) p c = ptE s f (p + wd s p) c := by simp [ptE, h, hc]
theorem ptE_on {s : ByteArray} {f p : Nat} {c : Bool} (h : p < s.size) (h1 : ¬ cls (rn s p) = 1) (h2 : ¬ cls (rn s p) = 2) (hc : c = true ∨ rn s p = 35) : ptE s (f + 1) p c = ptE s f (p + wd s p) true := by simp only [ptE, h, h1, h2, hc, if_true, if_false]
theorem ptE_stop {s : ByteArray} {f p : Nat} {c : Bool} (h1 : ¬ cls (rn s p) = 1) (h2 : ¬ cls (rn s p) = 2) (hc : ¬ (c = true ∨ rn s p = 35)) : ptE s f p c = p := by
  cases f
  · rfl
  · simp only [ptE, h1, h2, hc, if_false]; split <;> rfl
theorem ptE_bounds (s : ByteArray) : ∀ f p c, p ≤ s.size → p ≤ ptE s f p c ∧ ptE s f p c ≤ s.size
  | 0, p, _, h => ⟨Nat.le_refl _, h⟩
  | f + 1, p, c, h => by
    unfold ptE
    split
    · rename_i hp
      have hd := dec_facts s p hp
      have k := fun c => ptE_bounds s f (p + wd s p) c hd.2.1
      split
      · have := k false; omega
      · split
        · have := k c; omega
        · split
          · have := k true; omega
          · exact ⟨Nat.le_refl _, h⟩
    · exact ⟨Nat.le_refl _, h⟩
theorem ptE_fuel (s : ByteArray) : ∀ f g p c, s.size ≤ p + f → s.size ≤ p + g → ptE s f p c = ptE s g p c
  | 0, g, p, c, h, _ => by rw [ptE_end (by omega), ptE_end (by omega)]
  | f + 1, 0, p, c, _, h => by rw [ptE_end (by omega), ptE_end (by omega)]
  | f + 1, g + 1, p, c, h1, h2 => by
    unfold ptE
    split
    · rename_i hp
      have hd := dec_facts s p hp
      have k := fun c => ptE_fuel s f g (p + wd s p) c (by omega) (by omega)
      rw [k, k, k]
    · rfl
theorem ptE_shift (s : ByteArray) (n : Nat) (hn : n ≤ s.size) : ∀ f i c, n + ptE (s.extract n s.size) f i c = ptE s f (n + i) c
  | 0, i, _ => rfl
  | f + 1, i, c => by
    have hs : (s.extract n s.size).size = s.size - n := by simp
    unfold ptE
    rw [hs, rn_shift s n i hn, wd_shift s n i hn]
    by_cases h : i < s.size - n
    · have h' : n + i < s.size := by omega
      rw [if_pos h, if_pos h']
      have k := fun c => ptE_shift s n hn f (i + wd s (n + i)) c
      simp only [← Nat.add_assoc] at k
      split
      · exact k _
      · split
        · exact k _
        · split
          · exact k _
          · rfl
    · have h' : ¬ n + i < s.size := by omega
      rw [if_neg h, if_neg h']
end Go.Proofs.YtifgmkenfmmelaaDoor
