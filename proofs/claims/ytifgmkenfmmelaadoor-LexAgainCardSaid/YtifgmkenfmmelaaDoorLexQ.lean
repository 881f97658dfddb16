/-
  Plain facts for the document's tokens (no walk): proved is that a rune hangs on its own bytes, how many runes a run has, what a row of digits is worth, and where a comment ends, byte by byte.
-/
import Derived.Test.YtifgmkenfmmelaaDoorLexL
import Derived.Test.YtifgmkenfmmelaaDoorRune
import Derived.Lib.ParseIntBCases
namespace Go.Proofs.YtifgmkenfmmelaaDoor
open Go

set_option maxHeartbeats 4000000 in
set_option maxRecDepth 100000 in
theorem decN_good (n n' b0 b1 b2 b3 c1 c2 c3 r w : Nat) (h : Lib.decodeN n b0 b1 b2 b3 = (r, w)) (hg : ¬ (r = 65533 ∧ w = 1)) (hw : w ≤ n') (h1 : 1 < w → c1 = b1) (h2 : 2 < w → c2 = b2) (h3 : 3 < w → c3 = b3) :
    Lib.decodeN n' b0 c1 c2 c3 = (r, w) := by
  unfold Lib.decodeN at h
  split at h
  · cases h
    unfold Lib.decodeN
    rw [if_pos (by assumption)]
  · split at h
    · split at h
      · cases h
        obtain rfl := h1 (by omega)
        unfold Lib.decodeN
        rw [if_neg (by assumption), if_pos (by omega), if_pos (by omega)]
      · cases h; exact absurd ⟨rfl, rfl⟩ hg
    · split at h
      · split at h
        · cases h
          obtain rfl := h1 (by omega)
          obtain rfl := h2 (by omega)
          unfold Lib.decodeN
          rw [if_neg (by assumption), if_neg (by omega), if_pos (by omega), if_pos (by assumption)]
        · cases h; exact absurd ⟨rfl, rfl⟩ hg
      · split at h
        · split at h
          · cases h
            obtain rfl := h1 (by omega)
            obtain rfl := h2 (by omega)
            obtain rfl := h3 (by omega)
            unfold Lib.decodeN
            rw [if_neg (by assumption), if_neg (by omega), if_neg (by omega), if_pos (by omega), if_pos (by assumption)]
          · cases h; exact absurd ⟨rfl, rfl⟩ hg
        · cases h; exact absurd ⟨rfl, rfl⟩ hg

/-- A rune that is coded hangs on its own bytes alone. -/
theorem good_dec {s t : ByteArray} {i j : Nat} (hg : badB s i = false) (hw : j + wd s i ≤ t.size) (h0 : 1 ≤ wd s i) (hb : ∀ k, k < wd s i → byt t (j + k) = byt s (i + k)) : rn t j = rn s i ∧ wd t j = wd s i := by
  have e := dec_byt s i
  have hg' : ¬ (rn s i = 65533 ∧ wd s i = 1) := by
    unfold badB at hg
    intro h
    rw [h.1, h.2] at hg
    simp at hg
  have hb0 := hb 0 (by omega)
  simp only [Nat.add_zero] at hb0
  have e2 := decN_good _ (t.size - j) _ _ _ _ (byt t (j + 1)) (byt t (j + 2)) (byt t (j + 3)) _ _ e.symm hg' (by omega) (fun h => hb 1 h) (fun h => hb 2 h) (fun h => hb 3 h)
  rw [← hb0, ← dec_byt] at e2
  exact Prod.mk.inj e2

theorem byt_extract (s : ByteArray) (a n j : Nat) (h : a + j < n) (_hn : n ≤ s.size) : byt (s.extract a n) j = byt s (a + j) := by
  unfold byt
  rw [get!_list, get!_list]
  congr 1
  simp only [ByteArray.data_extract, Array.toList_extract, List.extract_eq_take_drop, List.getD]
  rw [List.getElem?_take_of_lt (by omega), List.getElem?_drop]

/-- A byte that is ASCII is a rune of its own. -/
theorem ascii_dec (s : ByteArray) (p : Nat) (h : byt s p < 128) : rn s p = byt s p ∧ wd s p = 1 := by
  have e := dec_byt s p
  unfold Lib.decodeN at e
  rw [if_pos h] at e
  exact Prod.mk.inj e
set_option maxHeartbeats 1000000 in
/-- A byte that isn't begins a rune that isn't; the bytes that go it on are neither. -/
theorem wide_dec (s : ByteArray) (p : Nat) (h : ¬ byt s p < 128) : 128 ≤ rn s p ∧ (∀ j, 1 ≤ j → j < wd s p → 128 ≤ byt s (p + j)) := by
  have e := dec_byt s p
  unfold Lib.decodeN at e
  rw [if_neg h] at e
  split at e
  · rename_i h2
    split at e <;> obtain ⟨e1, e2⟩ := Prod.mk.inj e <;> refine ⟨by omega, fun j h1 h3 => ?_⟩
    · obtain rfl : j = 1 := by omega
      omega
    · omega
  · split at e
    · split at e <;> obtain ⟨e1, e2⟩ := Prod.mk.inj e <;> refine ⟨by omega, fun j h1 h3 => ?_⟩
      · have : j = 1 ∨ j = 2 := by omega
        rcases this with rfl | rfl <;> omega
      · omega
    · split at e
      · split at e <;> obtain ⟨e1, e2⟩ := Prod.mk.inj e <;> refine ⟨by omega, fun j h1 h3 => ?_⟩
        · have : j = 1 ∨ j = 2 ∨ j = 3 := by omega
          rcases this with rfl | rfl | rfl <;> omega
        · omega
      · obtain ⟨e1, e2⟩ := Prod.mk.inj e
        exact ⟨by omega, fun j h1 h3 => by omega⟩
theorem rn_ascii (s : ByteArray) (p c : Nat) (hc : c < 128) : rn s p = c ↔ byt s p = c := by
  by_cases h : byt s p < 128
  · rw [(ascii_dec s p h).1]
  · have := (wide_dec s p h).1
    omega

/-- How many runes of a kind there are from byte p on. -/
def cntE (told : Int → Bool) (s : ByteArray) : Nat → Nat → Nat
  | 0, _ => 0
  | f + 1, p => if p < s.size then (if told (rn s p) = true then 1 + cntE told s f (p + wd s p) else 0) else 0
theorem cntE_go {told : Int → Bool} {s : ByteArray} {f p : Nat} (h : p < s.size) (ht : told (rn s p) = true) : cntE told s (f + 1) p = 1 + cntE told s f (p + wd s p) := by simp [cntE, h, ht]
theorem cntE_stop {told : Int → Bool} {s : ByteArray} {f p : Nat} (h : ¬ (p < s.size ∧ told (rn s p) = true)) : cntE told s f p = 0 := by
  cases f with
  | zero => rfl
  | succ f =>
    unfold cntE
    split
    · split
      · rename_i h1 h2; exact absurd ⟨h1, h2⟩ h
      · rfl
    · rfl
theorem inNm_good (s : ByteArray) (p : Nat) (h : inNm (rn s p) = true) : badB s p = false := by
  cases hb : badB s p with
  | false => rfl
  | true =>
    unfold badB at hb
    simp only [Bool.and_eq_true, beq_iff_eq] at hb
    rw [hb.1] at h
    exact absurd h (by decide +kernel)
theorem run_count (s : ByteArray) (a n : Nat) (hn : n ≤ s.size) : ∀ f g p, a ≤ p → p ≤ n → spE inNm s f p = n → s.size ≤ p + f → n ≤ p + g → Lib.runeCountFrom (s.extract a n) g (p - a) = cntE inNm s f p
  | f, 0, p, ha, hp, he, hf, hg => by
    have : p = n := by omega
    subst this
    unfold Lib.runeCountFrom
    rw [cntE_stop]
    rintro ⟨h1, h2⟩
    cases f with
    | zero => omega
    | succ f =>
      rw [spE_go h1 h2] at he
      have := dec_facts s p h1
      have := spE_bounds inNm s f (p + wd s p) (by omega)
      omega
  | 0, g + 1, p, ha, hp, he, hf, hg => by
    have hsz : (s.extract a n).size = n - a := by simp; omega
    rw [Lib.runeCountFrom_end _ _ _ (by omega)]
    rfl
  | f + 1, g + 1, p, ha, hp, he, hf, hg => by
    have hsz : (s.extract a n).size = n - a := by simp; omega
    by_cases h : p < s.size ∧ inNm (rn s p) = true
    · obtain ⟨h1, h2⟩ := h
      rw [spE_go h1 h2] at he
      have hd := dec_facts s p h1
      have hb := spE_bounds inNm s f (p + wd s p) (by omega)
      rw [cntE_go h1 h2]
      unfold Lib.runeCountFrom
      rw [if_pos (by omega)]
      have e := good_dec (s := s) (t := s.extract a n) (i := p) (j := p - a) (inNm_good s p h2) (by omega) hd.1 (fun k hk => by rw [byt_extract s a n _ (by omega) hn]; congr 1; omega)
      have e2 : (Utf8.decode (s.extract a n) (p - a)).2 = wd s p := e.2
      rw [e2]
      have e3 : p - a + wd s p = p + wd s p - a := by omega
      rw [e3, run_count s a n hn f g (p + wd s p) (by omega) (by omega) he (by omega) (by omega)]
    · rw [cntE_stop h]
      have : p = n := by
        rw [← he]
        by_cases h1 : p < s.size
        · exact (spE_stop (by cases h2 : inNm (rn s p) with | false => rfl | true => exact absurd ⟨h1, h2⟩ h)).symm
        · exact (spE_end h1).symm
      rw [Lib.runeCountFrom_end _ _ _ (by omega)]
/-- The runes of a run of letters and digits. -/
theorem runeCount_run (s : ByteArray) (a : Nat) (h : a ≤ s.size) : Lib.runeCount (s.extract a (spE inNm s s.size a)) = cntE inNm s s.size a := by
  have hb := spE_bounds inNm s s.size a h
  have := run_count s a (spE inNm s s.size a) hb.2 s.size (s.extract a (spE inNm s s.size a)).size a (Nat.le_refl _) hb.1 rfl (by omega) (by simp; omega)
  rw [Nat.sub_self] at this
  exact this

/-- What k digits from byte a on are worth. -/
def numP (s : ByteArray) (a : Nat) : Nat → Nat
  | 0 => 0
  | k + 1 => 10 * numP s a k + (byt s (a + k) - 48)
theorem numP_mono (s : ByteArray) (a : Nat) : ∀ k m, k ≤ m → numP s a k ≤ numP s a m
  | k, 0, h => by
    have : k = 0 := by omega
    subst this; exact Nat.le_refl _
  | k, m + 1, h => by
    by_cases e : k = m + 1
    · subst e; exact Nat.le_refl _
    · have := numP_mono s a k m (by omega)
      have e : numP s a (m + 1) = 10 * numP s a m + (byt s (a + m) - 48) := rfl
      omega
def valL (acc : Nat) : List UInt8 → Nat
  | [] => acc
  | c :: r => valL (acc * 10 + (c.toNat - 48)) r
theorem valL_ge (l : List UInt8) : ∀ acc, acc ≤ valL acc l := by
  induction l with
  | nil => exact fun _ => Nat.le_refl _
  | cons c r ih => exact fun acc => Nat.le_trans (by omega) (ih (acc * 10 + (c.toNat - 48)))
theorem valL_snoc (l : List UInt8) (c : UInt8) : ∀ acc, valL acc (l ++ [c]) = 10 * valL acc l + (c.toNat - 48) := by
  induction l with
  | nil =>
    intro acc
    show acc * 10 + (c.toNat - 48) = 10 * acc + (c.toNat - 48)
    omega
  | cons d r ih =>
    intro acc
    show valL (acc * 10 + (d.toNat - 48)) (r ++ [c]) = 10 * valL (acc * 10 + (d.toNat - 48)) r + (c.toNat - 48)
    exact ih (acc * 10 + (d.toNat - 48))
theorem parseM_dig (M : Nat) (hM : M < 18446744073709551620) (l : List UInt8) (hl : ∀ c ∈ l, 48 ≤ c.toNat ∧ c.toNat ≤ 57) : ∀ acc, acc ≤ M → Lib.parseUintM M acc l = if valL acc l ≤ M then .ok (valL acc l) else .range := by
  induction l with
  | nil =>
    intro acc h
    have e : Lib.parseUintM M acc [] = .ok acc := rfl
    have e2 : valL acc [] = acc := rfl
    rw [e, e2, if_pos h]
  | cons c r ih =>
    intro acc h
    have hc := hl c (.head _)
    have ih' := ih (fun d hd => hl d (.tail _ hd)) (acc * 10 + (c.toNat - 48))
    have hv := valL_ge r (acc * 10 + (c.toNat - 48))
    have e2 : valL acc (c :: r) = valL (acc * 10 + (c.toNat - 48)) r := rfl
    rw [e2]
    rw [Lib.parseUintM, if_pos hc]
    obtain ⟨v, hv2⟩ : ∃ v, valL (acc * 10 + (c.toNat - 48)) r = v := ⟨_, rfl⟩
    rw [hv2] at hv ih' ⊢
    by_cases h1 : 1844674407370955162 ≤ acc
    · rw [if_pos h1, if_neg (by omega)]
    · rw [if_neg h1]
      by_cases h2 : M < acc * 10 + (c.toNat - 48)
      · rw [if_pos h2, if_neg (by omega)]
      · rw [if_neg h2]
        exact ih' (by omega)
/-- What ParseInt says of digits. -/
theorem parseE_dig (l : List UInt8) (h0 : l ≠ []) (hl : ∀ c ∈ l, 48 ≤ c.toNat ∧ c.toNat ≤ 57) : parseE l = if valL 0 l ≤ 9223372036854775807 then (0, (valL 0 l : Int)) else (21, 0) := by
  cases l with
  | nil => exact absurd rfl h0
  | cons c r =>
    have hc := hl c (.head _)
    unfold parseE
    rw [Lib.parseIntB_plain 64 c r (by omega) (by omega)]
    unfold Lib.parseUintB
    rw [if_neg (by simp)]
    have e : (2 ^ 64 - 1 : Nat) = 18446744073709551615 := by decide
    rw [e, parseM_dig 18446744073709551615 (by omega) (c :: r) hl 0 (by omega)]
    obtain ⟨v, hv⟩ : ∃ v, valL 0 (c :: r) = v := ⟨_, rfl⟩
    rw [hv]
    by_cases h1 : v ≤ 9223372036854775807
    · rw [if_pos (by omega), if_pos h1]
      simp only [Lib.signlessC]
      rw [if_neg (by omega)]
    · rw [if_neg h1]
      by_cases h2 : v ≤ 18446744073709551615
      · rw [if_pos h2]
        simp only [Lib.signlessC]
        rw [if_pos (by omega)]
      · rw [if_neg h2]
        simp only [Lib.signlessC]
theorem ext_snoc (s : ByteArray) (a k : Nat) (h : a + k < s.size) : (s.extract a (a + (k + 1))).data.toList = (s.extract a (a + k)).data.toList ++ [s.get! (a + k)] := by
  simp only [ByteArray.data_extract, Array.toList_extract, List.extract_eq_take_drop]
  have e1 : a + (k + 1) - a = k + 1 := by omega
  have e2 : a + k - a = k := by omega
  have hl : k < (s.data.toList.drop a).length := by simp; omega
  rw [e1, e2, List.take_succ_eq_append_getElem hl, get!_list]
  congr 1
  have hk : a + k < s.data.size := h
  simp [List.getD]
  rw [Array.getElem?_eq_getElem hk]
  rfl
theorem valL_ext (s : ByteArray) (a : Nat) : ∀ k, a + k ≤ s.size → valL 0 (s.extract a (a + k)).data.toList = numP s a k
  | 0, _ => by
    have : (s.extract a (a + 0)).data.toList = [] := by simp
    rw [this]; rfl
  | k + 1, h => by
    rw [ext_snoc s a k (by omega), valL_snoc, valL_ext s a k (by omega)]
    rfl
/-- A digit is a byte. -/
theorem isDig_byt (s : ByteArray) (p : Nat) : isDig (rn s p) = true ↔ 48 ≤ byt s p ∧ byt s p ≤ 57 := by
  have hc : isDig (rn s p) = true ↔ 48 ≤ rn s p ∧ rn s p ≤ 57 := by
    unfold isDig cls
    by_cases h : 48 ≤ rn s p ∧ rn s p ≤ 57
    · rw [if_neg (by omega), if_neg (by omega), if_pos (by omega)]; simp [h]
    · simp only [h, iff_false, decide_eq_true_eq]
      split
      · omega
      · split
        · omega
        · rw [if_neg (by omega)]
          split
          · omega
          · split <;> omega
  rw [hc]
  by_cases h : byt s p < 128
  · rw [(ascii_dec s p h).1]
  · have := (wide_dec s p h).1
    omega
/-- Digits up to the end of a row of digits. -/
theorem dig_all (s : ByteArray) (a : Nat) : ∀ f k, s.size ≤ a + k + f → (∀ j, j < k → 48 ≤ byt s (a + j) ∧ byt s (a + j) ≤ 57) → a + k ≤ s.size → ∀ j, a + j < spE isDig s f (a + k) → 48 ≤ byt s (a + j) ∧ byt s (a + j) ≤ 57
  | 0, k, hf, h, hk, j, hj => by unfold spE at hj; exact h j (by omega)
  | f + 1, k, hf, h, hk, j, hj => by
    unfold spE at hj
    split at hj
    · rename_i h1
      split at hj
      · rename_i h2
        have hb := (isDig_byt s (a + k)).1 h2
        have hw := (ascii_dec s (a + k) (by omega)).2
        rw [hw, Nat.add_assoc] at hj
        refine dig_all s a f (k + 1) (by omega) (fun i hi => ?_) (by omega) j hj
        by_cases e : i = k
        · subst e; exact hb
        · exact h i (by omega)
      · exact h j (by omega)
    · exact h j (by omega)
theorem parse_digits (s : ByteArray) (a : Nat) (ha : a < s.size) (h : isDig (rn s a) = true) :
    parseE (s.extract a (spE isDig s s.size a)).data.toList = if numP s a (spE isDig s s.size a - a) ≤ 9223372036854775807 then (0, (numP s a (spE isDig s s.size a - a) : Int)) else (21, 0) := by
  have hb := spE_first isDig s a ha h
  have hall := dig_all s a s.size 0 (by omega) (fun j hj => by omega) (by omega)
  rw [Nat.add_zero] at hall
  obtain ⟨n, hn⟩ : ∃ n, spE isDig s s.size a = n := ⟨_, rfl⟩
  rw [hn] at hb hall ⊢
  have e : n = a + (n - a) := by omega
  have hlen : (s.extract a n).data.toList.length = n - a := by rw [Array.length_toList]; show (s.extract a n).size = _; simp; omega
  rw [parseE_dig]
  · have hv := valL_ext s a (n - a) (by omega)
    rw [← e] at hv
    rw [hv]
  · intro h0; rw [h0] at hlen; simp at hlen; omega
  · intro c hc
    obtain ⟨j, hj, rfl⟩ := List.mem_iff_getElem.1 hc
    rw [hlen] at hj
    have := hall j (by omega)
    rw [← byt_extract s a n j (by omega) hb.2] at this
    unfold byt at this
    rw [get!_list] at this
    have e3 : (s.extract a n).data.toList.getD j 0 = (s.extract a n).data.toList[j] := by
      simp only [List.getD]
      rw [List.getElem?_eq_getElem (by omega)]
      rfl
    rw [e3] at this
    exact this

/-- Where a comment ends, byte by byte. -/
def cmB (s : ByteArray) : Nat → Nat → Nat
  | 0, q => q
  | f + 1, q => if q < s.size then (if byt s q = 10 then q else cmB s f (q + 1)) else q
theorem cmB_end {s : ByteArray} {f q : Nat} (h : ¬ (q < s.size ∧ byt s q ≠ 10)) : cmB s f q = q := by
  cases f with
  | zero => rfl
  | succ f =>
    unfold cmB
    split
    · split
      · rfl
      · rename_i h1 h2; exact absurd ⟨h1, h2⟩ h
    · rfl
theorem cmB_go {s : ByteArray} {f q : Nat} (h : q < s.size) (hb : byt s q ≠ 10) : cmB s (f + 1) q = cmB s f (q + 1) := by simp [cmB, h, hb]
theorem cmB_jump (s : ByteArray) : ∀ w f q, q + w ≤ s.size → (∀ j, j < w → byt s (q + j) ≠ 10) → cmB s (f + w) q = cmB s f (q + w)
  | 0, f, q, _, _ => rfl
  | w + 1, f, q, h, hb => by
    rw [← Nat.add_assoc, cmB_go (f := f + w) (q := q) (by omega) (hb 0 (by omega)), cmB_jump s w f (q + 1) (by omega) (fun j hj => by have := hb (j + 1) (by omega); rwa [Nat.add_assoc, Nat.add_comm 1 j])]
    congr 1; omega
theorem cmB_fuel (s : ByteArray) : ∀ f g q, s.size ≤ q + f → s.size ≤ q + g → cmB s f q = cmB s g q
  | 0, g, q, h, _ => by rw [cmB_end (by omega), cmB_end (by omega)]
  | f + 1, 0, q, _, h => by rw [cmB_end (by omega), cmB_end (by omega)]
  | f + 1, g + 1, q, h1, h2 => by
    unfold cmB
    split
    · split
      · rfl
      · exact cmB_fuel s f g (q + 1) (by omega) (by omega)
    · rfl
theorem cmB_bounds (s : ByteArray) : ∀ f q, q ≤ s.size → q ≤ cmB s f q ∧ cmB s f q ≤ s.size
  | 0, q, h => ⟨Nat.le_refl _, h⟩
  | f + 1, q, h => by
    unfold cmB
    split
    · split
      · exact ⟨Nat.le_refl _, h⟩
      · have := cmB_bounds s f (q + 1) (by omega)
        omega
    · exact ⟨Nat.le_refl _, h⟩
theorem cls_two (r : Int) : cls r = 2 ↔ r = 10 := by
  constructor
  · intro h
    unfold cls at h
    split at h
    · omega
    · split at h
      · assumption
      · split at h
        · omega
        · split at h
          · omega
          · split at h <;> omega
  · rintro rfl; decide +kernel
theorem ptE_comment (s : ByteArray) : ∀ f g h p, s.size ≤ p + f → s.size ≤ p + g → s.size ≤ p + h → p ≤ s.size → ptE s f p true = ptE s g (cmB s h p) false
  | 0, g, h, p, hf, hg, hh, hp => by rw [cmB_end (by omega), ptE_end (by omega), ptE_end (by omega)]
  | f + 1, g, h, p, hf, hg, hh, hp => by
    by_cases hlt : p < s.size
    · have hd := dec_facts s p hlt
      by_cases h10 : byt s p = 10
      · have hr : rn s p = 10 := (rn_ascii s p 10 (by omega)).2 h10
        have hw : wd s p = 1 := (ascii_dec s p (by omega)).2
        have hc : cls (rn s p) = 2 := (cls_two _).2 (by omega)
        rw [cmB_end (by omega), ptE_line hlt hc]
        cases g with
        | zero => omega
        | succ g =>
          rw [ptE_line hlt hc]
          exact ptE_fuel s f g _ _ (by omega) (by omega)
      · have hr : ¬ rn s p = 10 := fun h => h10 ((rn_ascii s p 10 (by omega)).1 h)
        have hc : ¬ cls (rn s p) = 2 := fun h => hr (by have := (cls_two _).1 h; omega)
        have e1 : ptE s (f + 1) p true = ptE s f (p + wd s p) true := by
          by_cases h1 : cls (rn s p) = 1
          · exact ptE_space hlt h1
          · exact ptE_on hlt h1 hc (.inl rfl)
        have e2 : cmB s h p = cmB s h (p + wd s p) := by
          rw [cmB_fuel s h (h + wd s p) p (by omega) (by omega)]
          refine cmB_jump s (wd s p) h p hd.2.1 (fun j hj => ?_)
          by_cases hj0 : j = 0
          · subst hj0; exact h10
          · by_cases ha : byt s p < 128
            · have := (ascii_dec s p ha).2; omega
            · have := (wide_dec s p ha).2 j (by omega) hj; omega
        rw [e1, e2]
        exact ptE_comment s f g h (p + wd s p) (by omega) (by omega) (by omega) hd.2.1
    · rw [cmB_end (by omega), ptE_end hlt, ptE_end hlt]
theorem ptE_hash (s : ByteArray) (f g h p : Nat) (hf : s.size ≤ p + f) (hg : s.size ≤ p + g) (hh : s.size ≤ p + h) (hp : p < s.size) (hb : byt s p = 35) : ptE s f p false = ptE s g (cmB s h p) false := by
  have hr : rn s p = 35 := (rn_ascii s p 35 (by omega)).2 hb
  have hw : wd s p = 1 := (ascii_dec s p (by omega)).2
  have hc : cls ((rn s p : Nat) : Int) = 6 := by rw [hr]; decide +kernel
  cases f with
  | zero => omega
  | succ f =>
    rw [ptE_on hp (by rw [hc]; decide) (by rw [hc]; decide) (.inr (by omega))]
    cases h with
    | zero => omega
    | succ h =>
      rw [cmB_go hp (by omega), hw]
      exact ptE_comment s f g h (p + 1) (by omega) (by omega) (by omega) (by omega)
end Go.Proofs.YtifgmkenfmmelaaDoor
