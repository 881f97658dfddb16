/-
  Plain facts on the tokens of a text that begins with digits (no walk): proved is what 'lexV' says of a number's digits, of them with a zero ahead, of them with a letter behind.
-/
import Derived.Test.YtifgmkenfmmelaaDoorLexQ
namespace Go.Proofs.YtifgmkenfmmelaaDoor
open Go

/-- A text of ASCII alone is UTF-8. -/
theorem chk_ascii (t : ByteArray) (h : ∀ j, j < t.size → byt t j < 128) : ∀ f p, chk t f p = (0, 0)
  | 0, p => rfl
  | f + 1, p => by
    by_cases hp : p < t.size
    · have hd := ascii_dec t p (h p hp)
      have hb : badB t p = false := by
        unfold badB
        rw [hd.1]
        have := h p hp
        have : (byt t p == 65533) = false := by rw [beq_eq_false_iff_ne]; omega
        rw [this]; rfl
      rw [chk_step t f p hp hb]
      exact chk_ascii t h f _
    · exact chk_end t _ p hp
theorem chkAll_ascii (t : ByteArray) (hs : t.size ≤ 65536) (h : ∀ j, j < t.size → byt t j < 128) : chkAll t = (0, 0) := by
  rw [chkAll_of t (by omega)]
  exact chk_ascii t h _ _

/-- k digits, and none behind them. -/
structure Digs (t : ByteArray) (k : Nat) : Prop where
  size : t.size ≤ 65536
  pos : 0 < k
  le : k ≤ t.size
  dig : ∀ j, j < k → 48 ≤ byt t j ∧ byt t j ≤ 57
  stop : k < t.size → ¬ (48 ≤ byt t k ∧ byt t k ≤ 57)
  asc : ∀ j, j < t.size → byt t j < 128
theorem Digs.span {t : ByteArray} {k : Nat} (h : Digs t k) : ∀ f p, p ≤ k → t.size ≤ p + f → spE isDig t f p = k
  | 0, p, h1, h2 => by
    have := h.le
    have : p = k := by omega
    subst this; rfl
  | f + 1, p, h1, h2 => by
    by_cases hp : p < k
    · have hd := h.dig p hp
      have hlt : p < t.size := by have := h.le; omega
      rw [spE_go hlt ((isDig_byt t p).2 hd), (ascii_dec t p (by omega)).2]
      exact h.span f (p + 1) (by omega) (by omega)
    · have : p = k := by omega
      subst this
      by_cases hlt : p < t.size
      · exact spE_stop (by cases e : isDig (rn t p) with | false => rfl | true => exact absurd ((isDig_byt t p).1 e) (h.stop hlt))
      · exact spE_end hlt
theorem Digs.first {t : ByteArray} {k : Nat} (h : Digs t k) : isDig (rn t 0) = true := (isDig_byt t 0).2 (h.dig 0 h.pos)
theorem Digs.cls4 {t : ByteArray} {k : Nat} (h : Digs t k) : cls (rn t 0) = 4 := by
  have := h.first
  unfold isDig at this
  simpa using this
theorem Digs.begin {t : ByteArray} {k : Nat} (h : Digs t k) (f : Nat) : ptE t f 0 false = 0 := by
  have hc := h.cls4
  refine ptE_stop (by rw [hc]; decide) (by rw [hc]; decide) (fun e => ?_)
  rcases e with e | e
  · cases e
  · have hd := h.dig 0 h.pos
    have := (ascii_dec t 0 (by omega)).1
    omega
theorem Digs.tok {t : ByteArray} {k : Nat} (h : Digs t k) : tokT t 0 0 = digT t 0 := by
  unfold tokT oneT
  rw [if_neg (by decide), h.cls4]
  rfl
theorem Digs.lex {t : ByteArray} {k : Nat} (h : Digs t k) : lexV t = lexC t (t.size + 1) 0 (1, 1) [] := by
  unfold lexV
  rw [chkAll_ascii t h.size h.asc, if_pos rfl, h.begin, mvE_done (by omega)]
theorem head_get (t : ByteArray) (h : 0 < t.size) : (t.extract 0 t.size).data.toList.headD 0 = t.get! 0 := by
  have e : t.extract 0 t.size = t := by simp
  rw [e, head_at t h, get!_list]
  simp only [List.getD]
  rw [List.getElem?_eq_getElem (by rw [Array.length_toList]; exact h)]
  rfl
theorem Digs.digT {t : ByteArray} {k : Nat} (h : Digs t k) : digT t 0 = if (zeroB t 0 k || isLet (frs t k)) = true then (21, 0, 0, 0) else if numP t 0 k ≤ 9223372036854775807 then (0, k, 2, (numP t 0 k : Int)) else (21, 0, 0, 0) := by
  have h0 : 0 < t.size := by have := h.le; have := h.pos; omega
  have hp := parse_digits t 0 h0 h.first
  unfold Go.Proofs.YtifgmkenfmmelaaDoor.digT
  rw [hp, h.span t.size 0 (by omega) (by omega), Nat.sub_zero]
  by_cases hn : numP t 0 k ≤ 9223372036854775807
  · rw [if_pos hn, if_pos hn, if_pos rfl]
  · rw [if_neg hn, if_neg hn]; rfl

/-- A number's digits. -/
theorem lex_num {t : ByteArray} (h : Digs t t.size) (hz : byt t 0 = 48 → t.size = 1) (hn : numP t 0 t.size ≤ 9223372036854775807) : ∃ Q, lexV t = (0, (0, 0), [⟨2, t, numP t 0 t.size, (1, 1)⟩, ⟨5, ⟨#[]⟩, 0, Q⟩]) := by
  have h0 : 0 < t.size := h.pos
  have hd : Go.Proofs.YtifgmkenfmmelaaDoor.digT t 0 = (0, t.size, 2, (numP t 0 t.size : Int)) := by
    rw [h.digT, if_neg, if_pos hn]
    have e1 : zeroB t 0 t.size = false := by
      unfold zeroB
      rw [head_get t h0]
      by_cases hb : byt t 0 = 48
      · have := hz hb
        simp [this]
      · have : (t.get! 0).toNat ≠ 48 := hb
        simp [this]
    have e2 : isLet (frs t t.size) = false := by
      unfold frs
      have e : t.extract t.size t.size = ⟨#[]⟩ := by simp; rfl
      rw [e]
      decide +kernel
    rw [e1, e2]; decide
  obtain ⟨g, hg⟩ : ∃ g, t.size = g + 1 := ⟨t.size - 1, by omega⟩
  have hp : ptE t t.size t.size false = t.size := ptE_end (by omega)
  have e := lexC_tok (s := t) (f := t.size) (b := 0) (Q := (1, 1)) (l := []) h0 (h.tok.trans hd) rfl
  rw [h.lex, e]
  simp only [hp]
  rw [hg, lexC_end (by rw [hg]; omega)]
  have e1 : t.extract 0 (g + 1) = t := by rw [← hg]; simp
  have e2 : t.extract (g + 1) (g + 1) = ⟨#[]⟩ := by simp; rfl
  exact ⟨mvE t (g + 1) (g + 1) (g + 1) (mvE t (g + 1) (g + 1) 0 (1, 1)), by rw [e1, e2]; rfl⟩
/-- What isn't a number. -/
theorem lex_bad {t : ByteArray} {k : Nat} (h : Digs t k) (hb : (zeroB t 0 k || isLet (frs t k)) = true) : lexV t = (21, (1, 1), []) := by
  have hd : Go.Proofs.YtifgmkenfmmelaaDoor.digT t 0 = (21, 0, 0, 0) := by rw [h.digT, if_pos hb]
  rw [h.lex, lexC_bad (by have := h.le; have := h.pos; omega) (h.tok.trans hd) (by decide)]

/-- The digits of a number. -/
def digs (n : Nat) : List UInt8 := if n < 10 then [UInt8.ofNat (48 + n)] else digs (n / 10) ++ [UInt8.ofNat (48 + n % 10)]
termination_by n
theorem digs_lt {n : Nat} (h : n < 10) : digs n = [UInt8.ofNat (48 + n)] := by rw [digs, if_pos h]
theorem digs_ge {n : Nat} (h : ¬ n < 10) : digs n = digs (n / 10) ++ [UInt8.ofNat (48 + n % 10)] := by rw [digs, if_neg h]
theorem digs_ne (n : Nat) : digs n ≠ [] := by
  by_cases h : n < 10
  · rw [digs_lt h]; simp
  · rw [digs_ge h]; simp
theorem digs_len (b : Nat) : ∀ n, n < 10 ^ (b + 1) → 0 < (digs n).length ∧ (digs n).length ≤ b + 1 := by
  induction b with
  | zero => intro n h; rw [digs_lt (by omega)]; simp
  | succ b ih =>
    intro n h
    by_cases h1 : n < 10
    · rw [digs_lt h1]; simp
    · rw [digs_ge h1]
      have := ih (n / 10) (by rw [Nat.pow_succ] at h; omega)
      simp; omega
theorem digs_dig : ∀ (f n : Nat), n ≤ f → ∀ c ∈ digs n, 48 ≤ c.toNat ∧ c.toNat ≤ 57 := by
  intro f
  induction f with
  | zero =>
    intro n h c hc
    rw [digs_lt (by omega)] at hc
    simp only [List.mem_singleton] at hc
    subst hc
    rw [UInt8.toNat_ofNat']; omega
  | succ f ih =>
    intro n h c hc
    by_cases h1 : n < 10
    · rw [digs_lt h1] at hc
      simp only [List.mem_singleton] at hc
      subst hc
      rw [UInt8.toNat_ofNat']; omega
    · rw [digs_ge h1] at hc
      rcases List.mem_append.1 hc with hc | hc
      · exact ih (n / 10) (by omega) c hc
      · simp only [List.mem_singleton] at hc
        subst hc
        rw [UInt8.toNat_ofNat']; omega
theorem digs_val : ∀ (f n : Nat), n ≤ f → valL 0 (digs n) = n := by
  intro f
  induction f with
  | zero =>
    intro n h
    have : n = 0 := by omega
    subst this
    rw [digs_lt (by omega)]; decide
  | succ f ih =>
    intro n h
    by_cases h1 : n < 10
    · rw [digs_lt h1]
      show 0 * 10 + ((UInt8.ofNat (48 + n)).toNat - 48) = n
      rw [UInt8.toNat_ofNat']; omega
    · rw [digs_ge h1, valL_snoc, ih (n / 10) (by omega), UInt8.toNat_ofNat']; omega
theorem digs_head : ∀ (f n : Nat), n ≤ f → ∀ c r, digs n = c :: r → c.toNat = 48 → n = 0 := by
  intro f
  induction f with
  | zero => intro n h c r _ _; omega
  | succ f ih =>
    intro n h c r hc h48
    by_cases h1 : n < 10
    · rw [digs_lt h1] at hc
      obtain ⟨rfl, _⟩ := List.cons.inj hc
      rw [UInt8.toNat_ofNat'] at h48
      omega
    · rw [digs_ge h1] at hc
      cases hd : digs (n / 10) with
      | nil =>
        exact absurd hd (digs_ne _)
      | cons c' r' =>
        rw [hd] at hc
        obtain ⟨rfl, _⟩ := List.cons.inj hc
        have := ih (n / 10) (by omega) c' r' hd h48
        omega

theorem byt_list (l : List UInt8) (j : Nat) : byt ⟨⟨l⟩⟩ j = (l.getD j 0).toNat := by unfold byt; rw [get!_list]
theorem size_list (l : List UInt8) : (⟨⟨l⟩⟩ : ByteArray).size = l.length := rfl
/-- The digits as a text. -/
theorem digs_digs (l : List UInt8) (hl : l ≠ []) (hs : l.length ≤ 65000) (hd : ∀ c ∈ l, 48 ≤ c.toNat ∧ c.toNat ≤ 57) (r : List UInt8) (hr : r = [] ∨ r = [120]) : Digs ⟨⟨l ++ r⟩⟩ l.length := by
  have hp : 0 < l.length := List.length_pos_iff.2 hl
  have hlen : (l ++ r).length ≤ l.length + 1 := by rcases hr with rfl | rfl <;> simp
  have hdj : ∀ j, j < l.length → 48 ≤ byt ⟨⟨l ++ r⟩⟩ j ∧ byt ⟨⟨l ++ r⟩⟩ j ≤ 57 := fun j hj => by
    rw [byt_list]
    simp only [List.getD]
    rw [List.getElem?_append_left hj, List.getElem?_eq_getElem hj]
    exact hd _ (List.getElem_mem hj)
  have hstop : ∀ j, l.length ≤ j → j < (l ++ r).length → byt ⟨⟨l ++ r⟩⟩ j = 120 := fun j h1 h2 => by
    rcases hr with rfl | rfl
    · rw [List.append_nil] at h2; omega
    · have e : j = l.length := by simp at h2; omega
      subst e
      rw [byt_list]
      simp only [List.getD]
      rw [List.getElem?_append_right (Nat.le_refl _), Nat.sub_self]
      rfl
  refine ⟨by rw [size_list]; omega, hp, by rw [size_list]; simp, hdj, fun h => ?_, fun j hj => ?_⟩
  · rw [hstop _ (Nat.le_refl _) h]; omega
  · by_cases h : j < l.length
    · have := hdj j h; omega
    · rw [hstop j (by omega) hj]; omega
theorem numP_list (l r : List UInt8) (hl : l.length ≤ (l ++ r).length) : numP ⟨⟨l ++ r⟩⟩ 0 l.length = valL 0 l := by
  have h := valL_ext ⟨⟨l ++ r⟩⟩ 0 l.length (by rw [Nat.zero_add]; exact hl)
  rw [← h]
  congr 1
  simp only [ByteArray.data_extract, Array.toList_extract, List.extract_eq_take_drop, List.drop_zero, Nat.zero_add, Nat.sub_zero]
  simp
/-- A number, read. -/
theorem lex_digs (n : Nat) (hn : n ≤ 9223372036854775807) : ∃ Q, lexV ⟨⟨digs n⟩⟩ = (0, (0, 0), [⟨2, ⟨⟨digs n⟩⟩, n, (1, 1)⟩, ⟨5, ⟨#[]⟩, 0, Q⟩]) := by
  have hlen := digs_len 18 n (by omega)
  have hD := digs_digs (digs n) (digs_ne n) (by omega) (digs_dig n n (Nat.le_refl _)) [] (.inl rfl)
  have hv := numP_list (digs n) [] (by simp)
  rw [List.append_nil] at hD hv
  rw [digs_val n n (Nat.le_refl _)] at hv
  have hsz : (⟨⟨digs n⟩⟩ : ByteArray).size = (digs n).length := rfl
  have h := lex_num (t := ⟨⟨digs n⟩⟩) hD (fun h0 => by
    cases hd : digs n with
    | nil => exact absurd hd (digs_ne n)
    | cons c r =>
      have : n = 0 := digs_head n n (Nat.le_refl _) c r hd (by rw [byt_list, hd] at h0; exact h0)
      subst this
      rw [digs_lt (by omega)] at hd
      rw [← hd]; rfl) (by rw [hsz, hv]; exact hn)
  rw [hsz, hv] at h
  exact h
theorem lex_zero (n : Nat) (hn : n ≤ 9223372036854775807) : lexV ⟨⟨48 :: digs n⟩⟩ = (21, (1, 1), []) := by
  have hlen := digs_len 18 n (by omega)
  have hD := digs_digs (48 :: digs n) (by simp) (by simp; omega) (fun c hc => by
    rcases List.mem_cons.1 hc with rfl | hc
    · decide
    · exact digs_dig n n (Nat.le_refl _) c hc) [] (.inl rfl)
  rw [List.append_nil] at hD
  refine lex_bad hD ?_
  have e : zeroB ⟨⟨48 :: digs n⟩⟩ 0 (48 :: digs n).length = true := by
    unfold zeroB
    rw [head_get ⟨⟨48 :: digs n⟩⟩ hD.pos]
    have : ((⟨⟨48 :: digs n⟩⟩ : ByteArray).get! 0).toNat = 48 := by
      have := byt_list (48 :: digs n) 0
      exact this
    simp [this]; omega
  rw [e]; rfl
theorem lex_letter (n : Nat) (hn : n ≤ 9223372036854775807) : lexV ⟨⟨digs n ++ [120]⟩⟩ = (21, (1, 1), []) := by
  have hlen := digs_len 18 n (by omega)
  have hD := digs_digs (digs n) (digs_ne n) (by omega) (digs_dig n n (Nat.le_refl _)) [120] (.inr rfl)
  refine lex_bad hD ?_
  have hlt : (digs n).length < (⟨⟨digs n ++ [120]⟩⟩ : ByteArray).size := by rw [size_list]; simp
  have hb : byt ⟨⟨digs n ++ [120]⟩⟩ (digs n).length = 120 := by
    rw [byt_list]
    simp only [List.getD]
    rw [List.getElem?_append_right (Nat.le_refl _), Nat.sub_self]
    rfl
  have e : isLet (frs ⟨⟨digs n ++ [120]⟩⟩ (digs n).length) = true := by
    rw [frs_eq _ _ hlt, (ascii_dec _ _ (by omega)).1, hb]
    decide +kernel
  rw [e]; simp
end Go.Proofs.YtifgmkenfmmelaaDoor
