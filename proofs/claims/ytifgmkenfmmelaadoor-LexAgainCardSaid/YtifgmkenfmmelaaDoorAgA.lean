/-
  Plain facts for LexAgain (no walk): proved is that a token that stands elsewhere with a blank behind it is read as the same one, and so a text of a text's tokens, parted by blanks (or a comment), is read as the same ones.
-/
import Derived.Test.YtifgmkenfmmelaaDoorLexI
namespace Go.Proofs.YtifgmkenfmmelaaDoor
open Go

/-- The bytes of s from a to n stand in t at b. -/
def Lies (s : ByteArray) (a n : Nat) (t : ByteArray) (b : Nat) : Prop := ∀ j, a + j < n → byt t (b + j) = byt s (a + j)
theorem Lies.at {s t : ByteArray} {a n b : Nat} (h : Lies s a n t b) {p : Nat} (h1 : a ≤ p) (h2 : p < n) : byt t (b + (p - a)) = byt s p := by
  have := h (p - a) (by omega)
  rwa [show a + (p - a) = p by omega] at this
theorem Lies.rune {s t : ByteArray} {a n b : Nat} (h : Lies s a n t b) (hb : b + (n - a) ≤ t.size) {p : Nat} (h1 : a ≤ p) (hlt : p < s.size) (h2 : p + wd s p ≤ n) (hg : badB s p = false) :
    rn t (b + (p - a)) = rn s p ∧ wd t (b + (p - a)) = wd s p := by
  have hd := dec_facts s p hlt
  refine good_dec hg (by omega) hd.1 (fun k hk => ?_)
  have := h (p - a + k) (by omega)
  rwa [show a + (p - a + k) = p + k by omega, ← Nat.add_assoc] at this
/-- Runes of a kind go as far there as here. -/
theorem span_lies {told : Int → Bool} (htold : ∀ s p, told (rn s p) = true → badB s p = false) {s t : ByteArray} {a n b : Nat} (h : Lies s a n t b) (hb : b + (n - a) < t.size) (hstop : told (rn t (b + (n - a))) = false) (_hn : n ≤ s.size) :
    ∀ f g p, a ≤ p → p ≤ n → spE told s f p = n → s.size ≤ p + f → t.size ≤ b + (p - a) + g → spE told t g (b + (p - a)) = b + (n - a)
  | 0, g, p, h1, h2, h3, h4, h5 => by
    have : p = n := by unfold spE at h3; exact h3
    subst this
    exact spE_stop hstop
  | f + 1, g, p, h1, h2, h3, h4, h5 => by
    by_cases hp : p < s.size ∧ told (rn s p) = true
    · obtain ⟨hlt, ht⟩ := hp
      rw [spE_go hlt ht] at h3
      have hd := dec_facts s p hlt
      have hle := (spE_bounds told s f (p + wd s p) hd.2.1).1
      rw [h3] at hle
      have hr := h.rune (by omega) h1 hlt hle (htold s p ht)
      cases g with
      | zero => omega
      | succ g =>
        rw [spE_go (by omega) (by rw [hr.1]; exact ht), hr.2]
        have := span_lies htold h hb hstop _hn f g (p + wd s p) (by omega) hle h3 (by omega) (by omega)
        rwa [show b + (p + wd s p - a) = b + (p - a) + wd s p by omega] at this
    · have : p = n := by
        rw [← h3]
        by_cases hlt : p < s.size
        · exact (spE_stop (by cases e : told (rn s p) with | false => rfl | true => exact absurd ⟨hlt, e⟩ hp)).symm
        · exact (spE_end hlt).symm
      subst this
      exact spE_stop hstop
theorem lies_text {s t : ByteArray} {a n b : Nat} (h : Lies s a n t b) (ha : a ≤ n) (hn : n ≤ s.size) (hb : b + (n - a) ≤ t.size) : t.extract b (b + (n - a)) = s.extract a n := by
  apply ByteArray.ext
  apply Array.toList_inj.1
  apply List.ext_getElem?
  intro j
  have hl1 : (t.extract b (b + (n - a))).data.toList.length = n - a := by rw [Array.length_toList]; show (t.extract _ _).size = _; simp; omega
  have hl2 : (s.extract a n).data.toList.length = n - a := by rw [Array.length_toList]; show (s.extract _ _).size = _; simp; omega
  by_cases hj : j < n - a
  · have e1 := byt_extract t b (b + (n - a)) j (by omega) hb
    have e2 := byt_extract s a n j (by omega) hn
    rw [h j (by omega), ← e2] at e1
    unfold byt at e1
    rw [get!_list, get!_list] at e1
    have e3 := UInt8.toNat_inj.1 e1
    simp only [List.getD] at e3
    rw [List.getElem?_eq_getElem (by omega), List.getElem?_eq_getElem (by omega)] at e3 ⊢
    exact congrArg some e3
  · rw [List.getElem?_eq_none (by omega), List.getElem?_eq_none (by omega)]

theorem blank_at {t : ByteArray} {p : Nat} (h : byt t p = 32) : rn t p = 32 ∧ wd t p = 1 := by have := ascii_dec t p (by omega); omega
theorem sign_ascii {r : Nat} (h : cls (r : Int) = 5) : r < 128 ∧ r ≠ 35 := by
  unfold cls at h
  split at h
  · omega
  · split at h
    · omega
    · split at h
      · omega
      · split at h
        · omega
        · split at h
          · rename_i hs
            unfold isSign at hs
            omega
          · omega
theorem cls_byte {s : ByteArray} {p : Nat} (h : cls (rn s p) = 5) : byt s p < 128 ∧ rn s p = byt s p := by
  have h1 := sign_ascii h
  by_cases hb : byt s p < 128
  · exact ⟨hb, (ascii_dec s p hb).1⟩
  · have := (wide_dec s p hb).1; omega
theorem inDig {r : Int} (h : isDig r = true) : inNm r = true := by unfold inNm; rw [h]; simp
theorem first_two (s : ByteArray) (a : Nat) (h : a < s.size) : (s.extract a s.size).data.toList.take 2 = if a + 1 < s.size then [s.get! a, s.get! (a + 1)] else [s.get! a] := by
  have hl : (s.extract a s.size).data.toList.length = s.size - a := by rw [Array.length_toList]; show (s.extract a s.size).size = _; simp
  have hg : ∀ j, (s.extract a s.size).data.toList.getD j 0 = s.get! (a + j) := fun j => by
    rw [← get!_list, get!_extract]
  obtain ⟨L, hL⟩ : ∃ L, (s.extract a s.size).data.toList = L := ⟨_, rfl⟩
  rw [hL] at hl hg ⊢
  match L, hl with
  | [], hl => simp at hl; omega
  | [c], hl =>
    have g0 := hg 0
    rw [if_neg (by simp at hl; omega)]
    simp at g0 ⊢
    exact g0
  | c :: d :: r, hl =>
    have g0 := hg 0
    have g1 := hg 1
    rw [if_pos (by simp at hl; omega)]
    simp at g0 g1 ⊢
    exact ⟨g0, g1⟩
/-- How long the sign is at byte a, by its bytes. -/
theorem sgL_eq (s : ByteArray) (a : Nat) (h : a < s.size) : sgL (s.extract a s.size).data.toList = if twoL (if a + 1 < s.size then [s.get! a, s.get! (a + 1)] else [s.get! a]) = true then 2 else if byt s a = 38 ∨ byt s a = 124 then 0 else 1 := by
  unfold sgL
  rw [first_two s a h]
  have e : (s.extract a s.size).data.toList.headD 0 = s.get! a := by
    have := get!_extract s a 0
    rw [get!_list, Nat.add_zero] at this
    rw [← this]
    cases (s.extract a s.size).data.toList <;> rfl
  rw [e]
  unfold byt
  have e2 : (((s.get! a).toNat : Int) = 38 ∨ ((s.get! a).toNat : Int) = 124) ↔ ((s.get! a).toNat = 38 ∨ (s.get! a).toNat = 124) := by omega
  simp only [e2]
theorem twoL_snd {c d : UInt8} (h : twoL [c, d] = true) : d = 61 ∨ d = 38 ∨ d = 124 := by
  rcases twoL_cases h with h | h | h | h | h | h <;> (injection h with _ h; injection h with h _; subst h; decide)
theorem tok_inj {e n' : _} {k' m' : Int} {n : Nat} {k m : Int} (h : ((e, n', k', m') : Int × Nat × Int × Int) = (0, n, k, m)) : e = 0 ∧ n' = n ∧ k' = k ∧ m' = m := by
  simpa only [Prod.mk.injEq] using h
theorem first_le (told : Int → Bool) (s : ByteArray) (a : Nat) (h : a < s.size) (ht : told (rn s a) = true) : a + wd s a ≤ spE told s s.size a := by
  obtain ⟨f, hf⟩ : ∃ f, s.size = f + 1 := ⟨s.size - 1, by omega⟩
  have hd := dec_facts s a h
  have hb := spE_bounds told s f (a + wd s a) hd.2.1
  rw [hf, spE_go h ht]
  omega
theorem blank_no (t : ByteArray) (p : Nat) (h : byt t p = 32) : inNm (rn t p) = false ∧ isDig (rn t p) = false ∧ isLet (rn t p) = false := by
  rw [(blank_at h).1]
  decide +kernel

set_option maxHeartbeats 1000000 in
/-- A token that stands elsewhere, a blank behind it, is the same one. -/
theorem oneT_lies {s t : ByteArray} {a n b : Nat} {kind num : Int} (ha : a < s.size) (ho : oneT s a = (0, n, kind, num)) (h : Lies s a n t b) (hb : b + (n - a) < t.size) (h32 : byt t (b + (n - a)) = 32) : oneT t b = (0, b + (n - a), kind, num) := by
  have hn := oneT_end s a ha ho rfl
  simp only at hn
  have hno := blank_no t _ h32
  have htx := lies_text h (Nat.le_of_lt hn.1) hn.2 (by omega)
  have e0 : b + (a - a) = b := by omega
  unfold oneT at ho ⊢
  by_cases h3 : cls (rn s a) = 3
  · rw [if_pos h3] at ho
    have hin := inNm_let h3
    have hsp : spE inNm s s.size a = n := by
      unfold letT at ho
      split at ho
      · exact (tok_inj ho).2.1
      · split at ho
        · exact absurd (tok_inj ho).1 (by decide)
        · exact (tok_inj ho).2.1
    have hle := first_le inNm s a ha hin
    rw [hsp] at hle
    have hr := h.rune (by omega) (Nat.le_refl _) ha hle (inNm_good s a hin)
    rw [e0] at hr
    have hs2 := span_lies (told := inNm) (fun s p hp => inNm_good s p hp) h hb hno.1 hn.2 s.size t.size a (Nat.le_refl _) (Nat.le_of_lt hn.1) hsp (by omega) (by omega)
    rw [e0] at hs2
    rw [hr.1, if_pos h3]
    unfold letT at ho ⊢
    rw [hs2, htx]
    rw [hsp] at ho
    split at ho
    · rename_i hw
      rw [if_pos hw]
      rw [← (tok_inj ho).2.2.1, ← (tok_inj ho).2.2.2]
    · rename_i hw
      rw [if_neg hw]
      split at ho
      · exact absurd (tok_inj ho).1 (by decide)
      · rename_i hc
        rw [if_neg hc]
        rw [← (tok_inj ho).2.2.1, ← (tok_inj ho).2.2.2]
  · rw [if_neg h3] at ho
    by_cases h4 : cls (rn s a) = 4
    · rw [if_pos h4] at ho
      have hin := isDig_of h4
      have hsp : spE isDig s s.size a = n := by
        unfold digT at ho
        split at ho
        · exact absurd (tok_inj ho).1 (by decide)
        · split at ho
          · exact (tok_inj ho).2.1
          · exact absurd (tok_inj ho).1 (by decide)
      have hle := first_le isDig s a ha hin
      rw [hsp] at hle
      have hr := h.rune (by omega) (Nat.le_refl _) ha hle (inNm_good s a (inDig hin))
      rw [e0] at hr
      have hs2 := span_lies (told := isDig) (fun s p hp => inNm_good s p (inDig hp)) h hb hno.2.1 hn.2 s.size t.size a (Nat.le_refl _) (Nat.le_of_lt hn.1) hsp (by omega) (by omega)
      rw [e0] at hs2
      rw [hr.1, if_neg h3, if_pos h4]
      unfold digT at ho ⊢
      rw [hs2, htx]
      rw [hsp] at ho
      have hz : zeroB t b (b + (n - a)) = zeroB s a n := by
        unfold zeroB
        rw [head_byt t b (by omega), head_byt s a ha, byt_at t b (by omega), byt_at s a ha]
        have := h 0 (by omega)
        rw [Nat.add_zero, Nat.add_zero] at this
        rw [this]
        congr 1
        congr 1
        apply propext
        omega
      have hf : isLet (frs t (b + (n - a))) = false := by rw [frs_eq t _ hb]; exact hno.2.2
      rw [hz, hf]
      split at ho
      · exact absurd (tok_inj ho).1 (by decide)
      · rename_i hzz
        have hz2 : zeroB s a n = false := by
          cases hq : zeroB s a n with
          | false => rfl
          | true => rw [hq] at hzz; simp at hzz
        rw [hz2, if_neg (by decide)]
        split at ho
        · rename_i hp
          rw [if_pos hp]
          rw [← (tok_inj ho).2.2.1, ← (tok_inj ho).2.2.2]
        · exact absurd (tok_inj ho).1 (by decide)
    · rw [if_neg h4] at ho
      by_cases h5 : cls (rn s a) = 5
      · rw [if_pos h5] at ho
        have hc := cls_byte h5
        have hb0 : byt t b = byt s a := by have := h 0 (by omega); rwa [Nat.add_zero, Nat.add_zero] at this
        have hr : rn t b = rn s a := by rw [(ascii_dec t b (by omega)).1, hb0, hc.2]
        rw [hr, if_neg h3, if_neg h4, if_pos h5]
        unfold sigT at ho ⊢
        rw [sgL_eq s a ha] at ho
        rw [sgL_eq t b (by omega), hb0]
        have hg0 : t.get! b = s.get! a := UInt8.toNat_inj.1 hb0
        rw [hg0]
        by_cases h2 : twoL (if a + 1 < s.size then [s.get! a, s.get! (a + 1)] else [s.get! a]) = true
        · rw [if_pos h2, if_pos (by decide)] at ho
          have hn2 : a + 2 = n := (tok_inj ho).2.1
          have hk : kind = 4 ∧ num = 0 := ⟨(tok_inj ho).2.2.1.symm, (tok_inj ho).2.2.2.symm⟩
          have hlt : a + 1 < s.size := by omega
          rw [if_pos hlt] at h2
          have hg1 : t.get! (b + 1) = s.get! (a + 1) := UInt8.toNat_inj.1 (h 1 (by omega))
          rw [if_pos (show b + 1 < t.size by omega), hg1, if_pos h2, if_pos (by decide), hk.1, hk.2]
          have : b + (2 : Int).toNat = b + (n - a) := by simp; omega
          rw [this]
        · rw [if_neg h2] at ho
          by_cases h38 : byt s a = 38 ∨ byt s a = 124
          · rw [if_pos h38, if_neg (by decide)] at ho
            exact absurd (tok_inj ho).1 (by decide)
          · rw [if_neg h38, if_pos (by decide)] at ho
            have hn2 : a + 1 = n := (tok_inj ho).2.1
            have hk : kind = 4 ∧ num = 0 := ⟨(tok_inj ho).2.2.1.symm, (tok_inj ho).2.2.2.symm⟩
            have hne : ¬ twoL (if b + 1 < t.size then [s.get! a, t.get! (b + 1)] else [s.get! a]) = true := by
              rw [if_pos (by omega)]
              intro hh
              have h6 := twoL_snd hh
              have h7 : byt t (b + 1) = 32 := by rwa [show n - a = 1 by omega] at h32
              unfold byt at h7
              rcases h6 with h6 | h6 | h6 <;> (rw [h6] at h7; exact absurd h7 (by decide))
            rw [if_neg hne, if_neg h38, if_pos (by decide), hk.1, hk.2]
            have : b + (1 : Int).toNat = b + (n - a) := by simp; omega
            rw [this]
      · rw [if_neg h5] at ho
        exact absurd (tok_inj ho).1 (by decide)
end Go.Proofs.YtifgmkenfmmelaaDoor
