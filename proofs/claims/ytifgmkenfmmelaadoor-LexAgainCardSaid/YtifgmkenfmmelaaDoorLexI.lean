/-
  The document's token (gnomonref2's sign, number, one): proved is what each answers, for every text of at most 65536 bytes.
-/
import Derived.Test.YtifgmkenfmmelaaDoorLexH
namespace Go.Proofs.YtifgmkenfmmelaaDoor
open Go Go.RowKit

/-- What the document's functions answer: a token that ends at byte n, or an error. -/
def okV (kind : Int) (t : ByteArray) (num : Int) (n : Nat) : Value := .tuple #[.agg #[.int .i64 kind, .string t, .int .i64 num, .int .i64 0, .int .i64 0], .int .i64 n, .int .i64 0]
def badV (err : Int) : Value := .tuple #[.agg #[.int .i64 0, .string ⟨#[]⟩, .int .i64 0, .int .i64 0, .int .i64 0], .int .i64 0, .int .i64 err]
def oneV (s : ByteArray) (a : Nat) (o : Int × Nat × Int × Int) : Value := if o.1 = 0 then okV o.2.2.1 (s.extract a o.2.1) o.2.2.2 o.2.1 else badV o.1
theorem oneV_ok (s : ByteArray) (a n : Nat) (kind num : Int) : oneV s a (0, n, kind, num) = okV kind (s.extract a n) num n := rfl
theorem oneV_bad (s : ByteArray) (a : Nat) (e : Int) (h : e ≠ 0) : oneV s a (e, 0, 0, 0) = badV e := by unfold oneV; rw [if_neg h]

theorem two_ext (s : ByteArray) (a : Nat) (h : a + 1 < s.size) : (s.extract a (a + 2)).toList = (s.extract a s.size).data.toList.take 2 := by
  rw [Lib.toList_data]
  simp only [ByteArray.data_extract, Array.toList_extract, List.extract_eq_take_drop]
  have e1 : a + 2 - a = 2 := by omega
  rw [e1, List.take_take]
  congr 1
  omega
theorem head_byt (s : ByteArray) (a : Nat) (h : a < s.size) : ((s.extract a s.size).data.toList.headD 0).toNat = s[a].toNat := by
  have h0 : 0 < (s.extract a s.size).size := by simp; omega
  rw [head_at _ h0, byt_at _ 0 h0, byt_extract s a s.size 0 (by omega) (Nat.le_refl _), byt_at s a h]
  rfl
theorem twoL_short (l : List UInt8) (h : l.length < 2) : twoL (l.take 2) = false := by
  cases e : twoL (l.take 2) with
  | false => rfl
  | true =>
    have := twoL_len _ e
    rw [List.length_take] at this
    omega
theorem twoL_cases {l : List UInt8} (h : twoL l = true) : l = [61, 61] ∨ l = [33, 61] ∨ l = [60, 61] ∨ l = [62, 61] ∨ l = [38, 38] ∨ l = [124, 124] := by
  unfold twoL at h
  simp only [Bool.or_eq_true, beq_iff_eq] at h
  rcases h with ((((h | h) | h) | h) | h) | h <;> simp [h]
theorem twoL_not {l : List UInt8} (h : twoL l = false) : (l == [61, 61]) = false ∧ (l == [33, 61]) = false ∧ (l == [60, 61]) = false ∧ (l == [62, 61]) = false ∧ (l == [38, 38]) = false ∧ (l == [124, 124]) = false := by
  unfold twoL at h
  simp only [Bool.or_eq_false_iff] at h
  obtain ⟨⟨⟨⟨⟨h1, h2⟩, h3⟩, h4⟩, h5⟩, h6⟩ := h
  exact ⟨h1, h2, h3, h4, h5, h6⟩

set_option maxRecDepth 100000 in
set_option maxHeartbeats 4000000 in
theorem rsign_any (s : ByteArray) (a : Nat) (w : World) (hs : s.size ≤ 65536) (ha : a < s.size) :
    Calls Tryd.prog 43 #[.string s, .int .i64 a] w fun e w' => e = .returned (oneV s a (sigT s a)) ∧ Below w.heap.size w w' := by
  have hS : sigT s a = if 0 < sgL (s.extract a s.size).data.toList then (0, a + (sgL (s.extract a s.size).data.toList).toNat, 4, 0) else (20, 0, 0, 0) := rfl
  have hh := head_byt s a ha
  have hg : sgL (s.extract a s.size).data.toList = if twoL ((s.extract a s.size).data.toList.take 2) = true then 2 else if (s[a].toNat : Int) = 38 ∨ (s[a].toNat : Int) = 124 then 0 else 1 := by
    unfold sgL
    rw [← hh]
  clear hh
  cases ht : twoL ((s.extract a s.size).data.toList.take 2) with
  | true =>
    rw [ht, if_pos rfl] at hg
    rw [hg, if_pos (by decide)] at hS
    have hS2 : sigT s a = (0, a + 2, 4, 0) := hS
    rw [hS2, oneV_ok]
    clear hS hS2 hg
    have h1 : a + 1 < s.size := by
      by_cases h : a + 1 < s.size
      · exact h
      · rw [twoL_short _ (by rw [Array.length_toList]; show (s.extract a s.size).size < 2; simp; omega)] at ht
        cases ht
    have q2 : (a : Int) ≤ a + 2 := by omega
    have q3 : (a : Int) + 2 ≤ s.size := by omega
    have q4 : a + 2 ≤ s.size := by omega
    have hx := two_ext s a h1
    rw [← hx] at ht
    clear hx
    obtain ⟨l, hl⟩ : ∃ l, (s.extract a (a + 2)).toList = l := ⟨_, rfl⟩
    rw [hl] at ht
    rcases twoL_cases ht with rfl | rfl | rfl | rfl | rfl | rfl
    all_goals
      clear ht
      go_enter Tryd.func43, Tryd.ntmps43
      go_wp2
      exact bodyPost_ret (v := okV 4 (s.extract a (a + 2)) 0 (a + 2)) (by simp [results, Tryd.results43, go_sem, okV]) rfl ⟨rfl, (Below.refl _ _).alloc (Nat.le_refl _) _⟩
  | false =>
    rw [ht, if_neg (by simp)] at hg
    have q2 : (a : Int) ≤ a + 1 := by omega
    have q3 : (a : Int) + 1 ≤ s.size := by omega
    have q4 : a + 1 ≤ s.size := by omega
    by_cases hb : (s[a].toNat : Int) = 38 ∨ (s[a].toNat : Int) = 124
    · rw [if_pos hb] at hg
      rw [hg, if_neg (by decide)] at hS
      rw [hS, oneV_bad _ _ _ (by decide)]
      clear hS hg
      by_cases h1 : a + 1 < s.size
      · have q6 : (a : Int) ≤ a + 2 := by omega
        have q7 : (a : Int) + 2 ≤ s.size := by omega
        have q8 : a + 2 ≤ s.size := by omega
        have hx := two_ext s a h1
        rw [← hx] at ht
        clear hx
        obtain ⟨t1, t2, t3, t4, t5, t6⟩ := twoL_not ht
        clear ht
        rcases hb with hb | hb
        all_goals
          go_enter Tryd.func43, Tryd.ntmps43
          go_wp2
          exact bodyPost_ret (v := badV 20) (by simp [results, Tryd.results43, go_sem, badV]) rfl ⟨rfl, (Below.refl _ _).alloc (Nat.le_refl _) _⟩
      · have h1' : ¬ (a : Int) + 1 < s.size := by omega
        clear ht
        rcases hb with hb | hb
        all_goals
          go_enter Tryd.func43, Tryd.ntmps43
          go_wp2
          exact bodyPost_ret (v := badV 20) (by simp [results, Tryd.results43, go_sem, badV]) rfl ⟨rfl, (Below.refl _ _).alloc (Nat.le_refl _) _⟩
    · rw [if_neg hb] at hg
      rw [hg, if_pos (by decide)] at hS
      have hS2 : sigT s a = (0, a + 1, 4, 0) := hS
      rw [hS2, oneV_ok]
      clear hS hS2 hg
      have hb1 : ((s[a].toNat : Int) == 38) = false := by rw [beq_eq_false_iff_ne]; exact fun h => hb (.inl h)
      have hb2 : ((s[a].toNat : Int) == 124) = false := by rw [beq_eq_false_iff_ne]; exact fun h => hb (.inr h)
      clear hb
      by_cases h1 : a + 1 < s.size
      · have q6 : (a : Int) ≤ a + 2 := by omega
        have q7 : (a : Int) + 2 ≤ s.size := by omega
        have q8 : a + 2 ≤ s.size := by omega
        have hx := two_ext s a h1
        rw [← hx] at ht
        clear hx
        obtain ⟨t1, t2, t3, t4, t5, t6⟩ := twoL_not ht
        clear ht
        go_enter Tryd.func43, Tryd.ntmps43
        go_wp2
        exact bodyPost_ret (v := okV 4 (s.extract a (a + 1)) 0 (a + 1)) (by simp [results, Tryd.results43, go_sem, okV]) rfl ⟨rfl, (Below.refl _ _).alloc (Nat.le_refl _) _⟩
      · have h1' : ¬ (a : Int) + 1 < s.size := by omega
        clear ht
        go_enter Tryd.func43, Tryd.ntmps43
        go_wp2
        exact bodyPost_ret (v := okV 4 (s.extract a (a + 1)) 0 (a + 1)) (by simp [results, Tryd.results43, go_sem, okV]) rfl ⟨rfl, (Below.refl _ _).alloc (Nat.le_refl _) _⟩

/-- What the document's number goes by. -/
theorem letter_at (s : ByteArray) (n : Nat) (hn : n ≤ s.size) : isLet (frs s n) = decide (clsAt s n = 3) := by
  unfold clsAt
  by_cases h : n < s.size
  · rw [if_pos h, frs_eq s n h]; rfl
  · rw [if_neg h]
    have e : s.extract n s.size = ⟨#[]⟩ := by
      obtain rfl : n = s.size := by omega
      simp
      rfl
    unfold frs
    rw [e]
    decide +kernel
structure NumRel (s : ByteArray) (a k f : Nat) : Prop where
  eq : spE isDig s f (a + k) = spE isDig s s.size a
  fuel : s.size ≤ a + k + f
  le : a + k ≤ s.size
  big : numP s a k ≤ 9223372036854775807
theorem NumRel.next {s : ByteArray} {a k f : Nat} (h : NumRel s a k f) (hp : a + k < s.size) (hb : 48 ≤ byt s (a + k) ∧ byt s (a + k) ≤ 57) : (∃ f', spE isDig s f' (a + (k + 1)) = spE isDig s s.size a ∧ s.size ≤ a + (k + 1) + f') ∧ numP s a (k + 1) = 10 * numP s a k + (byt s (a + k) - 48) := by
  obtain ⟨h1, h2, h3, h4⟩ := h
  cases f with
  | zero => omega
  | succ f =>
    rw [spE_go hp ((isDig_byt s (a + k)).2 hb), (ascii_dec s (a + k) (by omega)).2] at h1
    exact ⟨⟨f, h1, by omega⟩, rfl⟩
theorem NumRel.done {s : ByteArray} {a k f : Nat} (h : NumRel s a k f) (hb : ¬ (a + k < s.size ∧ 48 ≤ byt s (a + k) ∧ byt s (a + k) ≤ 57)) : spE isDig s s.size a = a + k := by
  rw [← h.eq]
  by_cases hp : a + k < s.size
  · exact spE_stop (by cases e : isDig (rn s (a + k)) with | false => rfl | true => exact absurd ⟨hp, (isDig_byt s (a + k)).1 e⟩ hb)
  · exact spE_end hp
end Go.Proofs.YtifgmkenfmmelaaDoor
