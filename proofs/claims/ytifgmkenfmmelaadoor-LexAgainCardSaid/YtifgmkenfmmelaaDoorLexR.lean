/-
  The reader's methods that read one token: proved is what letters, digits, sign and other answer and leave, as 'TokRes' says.
  Condition: Go's tables of package unicode/utf8 and the two errors of package strconv hold what their text lays ('Env').
-/
import Derived.Test.YtifgmkenfmmelaaDoorLexT
import Derived.Test.YtifgmkenfmmelaaDoorLexS
import Derived.Test.YtifgmkenfmmelaaDoorLexG
import Derived.Lib.AtoiErrMem
namespace Go.Proofs.YtifgmkenfmmelaaDoor
open Go Go.RowKit

/-- The reader stands at byte a of s, at the place P; its list v holds k tokens, xs. -/
structure Rs (w : World) (B : Nat) (s : ByteArray) (a : Nat) (P : Int × Int) (v : Value) (k : Nat) (xs : List Value) : Prop where
  rd : Rd w B s a P v
  own : w.ownsRow (B + 1) 33 5 v k xs
  hs : s.size ≤ 65536
  ha : a ≤ s.size
  h1 : 1 ≤ P.1
  h2 : 1 ≤ P.2
  h3 : P.1 ≤ a + 1
  h4 : P.2 ≤ a + 1
  hk : k ≤ 70000
theorem Rs.later {w w' : World} {B : Nat} {s : ByteArray} {a : Nat} {P : Int × Int} {v : Value} {k : Nat} {xs : List Value} (h : Rs w B s a P v k xs) (hb : Below w.heap.size w w') : Rs w' B s a P v k xs :=
  { h with rd := h.rd.below hb h.rd.lt, own := ownsRow_above h.own (above_of_below hb (B + 1)) (Nat.le_refl _) }
theorem Rs.cell {w : World} {B : Nat} {s : ByteArray} {a : Nat} {P : Int × Int} {v : Value} {k : Nat} {xs : List Value} (h : Rs w B s a P v k xs) : w.cell? ⟨B, 0, none⟩ = some (.string (s.extract a s.size)) := h.rd.cell 0
theorem Rs.cell3 {w : World} {B : Nat} {s : ByteArray} {a : Nat} {P : Int × Int} {v : Value} {k : Nat} {xs : List Value} (h : Rs w B s a P v k xs) : w.cell? ⟨B, 3, none⟩ = some v := h.rd.cell 3
theorem Taken.since {w w1 : World} {B : Nat} {s : ByteArray} {n : Nat} {Q : Int × Int} {k : Nat} {ys : List Value} {e : Ending} {w' : World} (h : Taken w1 B s n Q k ys e w') (hb : Below B w w1) : Taken w B s n Q k ys e w' := by
  obtain ⟨v, h1, h2, h3, h4⟩ := h
  exact ⟨v, h1, h2, h3, hb.trans h4⟩
theorem take_rs {s : ByteArray} {a B k : Nat} {P : Int × Int} {v : Value} {xs : List Value} {w : World} (h : Rs w B s a P v k xs) (n : Nat) (kind num : Int) (hn : a ≤ n) (hn2 : n ≤ s.size) :
    Calls Tryd.prog 21 #[.pointer (some ⟨B, 0, none⟩), .int .i64 kind, .int .i64 (n - a : Nat), .int .i64 num] w (Taken w B s n (mvE s n s.size a P) (k + 1) (xs ++ tokC kind (s.extract a n) num P)) :=
  take_any s a n B k kind num P v xs w h.hs hn hn2 h.h1 h.h2 h.h3 h.h4 h.rd h.own h.hk

/-- What a token's reading has left: o is (error, end, kind, number). -/
def TokRes (w : World) (B : Nat) (s : ByteArray) (a : Nat) (P : Int × Int) (k : Nat) (xs : List Value) (o : Int × Nat × Int × Int) (e : Ending) (w' : World) : Prop :=
  (o.1 = 0 ∧ Taken w B s o.2.1 (mvE s o.2.1 s.size a P) (k + 1) (xs ++ tokC o.2.2.1 (s.extract a o.2.1) o.2.2.2 P) e w') ∨ (o.1 ≠ 0 ∧ e = .returned (.int .i64 o.1) ∧ (∃ v, Rd w' B s a P v) ∧ Below B w w')

theorem spE_rest (told : Int → Bool) (s : ByteArray) (a : Nat) (ha : a ≤ s.size) : spE told (s.extract a s.size) (s.extract a s.size).size 0 = spE told s s.size a - a := by
  have h := spE_shift told s a ha (s.extract a s.size).size 0
  rw [Nat.add_zero, spE_fuel told s _ s.size a (by simp; omega) (by omega)] at h
  omega
theorem span_name_at (s : ByteArray) (a : Nat) (ha : a ≤ s.size) (hs : s.size ≤ 65536) (w : World) :
    Calls Tryd.prog 56 #[.string (s.extract a s.size), .func (.func 27) #[] #[]] w fun e w' => e = .returned (.int .i64 (spE inNm s s.size a - a : Nat)) ∧ Below w.heap.size w w' := by
  have h := span_name (s.extract a s.size) w (by unfold maxLen; simp; omega)
  rw [spE_rest inNm s a ha] at h
  exact h
theorem span_digit_at (s : ByteArray) (a : Nat) (ha : a ≤ s.size) (hs : s.size ≤ 65536) (w : World) :
    Calls Tryd.prog 56 #[.string (s.extract a s.size), .func (.func 44) #[] #[]] w fun e w' => e = .returned (.int .i64 (spE isDig s s.size a - a : Nat)) ∧ Below w.heap.size w w' := by
  have h := span_digit (s.extract a s.size) w (by unfold maxLen; simp; omega)
  rw [spE_rest isDig s a ha] at h
  exact h
theorem word_at (s : ByteArray) (a n : Nat) (ha : a ≤ n) (hn : n ≤ s.size) (b : Bool) (hb : wordL (s.extract a n).toList = b) (w : World) :
    Calls Tryd.prog 12 #[.string ((s.extract a s.size).extract 0 (n - a))] w fun e w' => e = .returned (.bool b) ∧ w = w' := by
  rw [text_ext s a n ha hn, ← hb]
  exact word_any _ w
theorem count_at (s : ByteArray) (a n : Nat) (ha : a ≤ n) (hn : n ≤ s.size) (hs : s.size ≤ 65536) (w : World) :
    Calls Tryd.prog 57 #[.string ((s.extract a s.size).extract 0 (n - a))] w fun e w' => e = .returned (.int .i64 (Lib.runeCount (s.extract a n))) ∧ Below w.heap.size w w' := by
  rw [text_ext s a n ha hn]
  refine (Tryd.utf8_RuneCountInString (s.extract a n) w (by simp; omega)).mono ?_
  rintro e w' ⟨rfl, p, rfl⟩
  exact ⟨rfl, (Below.refl _ _).alloc (Nat.le_refl _) _⟩

/-- A token that begins with a letter. -/
def letT (s : ByteArray) (a : Nat) : Int × Nat × Int × Int :=
  if wordL (s.extract a (spE inNm s s.size a)).toList = true then (0, spE inNm s s.size a, 3, 0) else if 32 < Lib.runeCount (s.extract a (spE inNm s s.size a)) then (22, 0, 0, 0) else (0, spE inNm s s.size a, 1, 0)

theorem TokRes.ok {w w1 w' : World} {B : Nat} {s : ByteArray} {a : Nat} {P : Int × Int} {k : Nat} {xs : List Value} {o : Int × Nat × Int × Int} {n : Nat} {kind num : Int} {v : Value} (ho : o = (0, n, kind, num)) (hb : Below B w w1)
    (h1 : Rd w' B s n (mvE s n s.size a P) v) (h2 : w'.ownsRow (B + 1) 33 5 v (k + 1) (xs ++ tokC kind (s.extract a n) num P)) (h3 : Below B w1 w') : TokRes w B s a P k xs o (.returned (.int .i64 0)) w' := by
  subst ho
  exact .inl ⟨rfl, v, rfl, h1, h2, hb.trans h3⟩
theorem TokRes.bad {w w' : World} {B : Nat} {s : ByteArray} {a : Nat} {P : Int × Int} {k : Nat} {xs : List Value} {o : Int × Nat × Int × Int} {err : Int} {v : Value} (ho : o = (err, 0, 0, 0)) (he : err ≠ 0) (hb : Below B w w')
    (h1 : Rd w' B s a P v) : TokRes w B s a P k xs o (.returned (.int .i64 err)) w' := by
  subst ho
  exact .inr ⟨he, rfl, ⟨v, h1⟩, hb⟩

set_option maxHeartbeats 2000000 in
theorem letters_any {s : ByteArray} {a B k : Nat} {P : Int × Int} {v : Value} {xs : List Value} {w : World} (h : Rs w B s a P v k xs) :
    Calls Tryd.prog 49 #[.pointer (some ⟨B, 0, none⟩)] w (TokRes w B s a P k xs (letT s a)) := by
  have hL : letT s a = if wordL (s.extract a (spE inNm s s.size a)).toList = true then (0, spE inNm s s.size a, 3, 0) else if 32 < Lib.runeCount (s.extract a (spE inNm s s.size a)) then (22, 0, 0, 0) else (0, spE inNm s s.size a, 1, 0) := rfl
  obtain ⟨o, ho⟩ : ∃ o, letT s a = o := ⟨_, rfl⟩
  rw [ho] at hL ⊢
  clear ho
  have hb := spE_bounds inNm s s.size a h.ha
  have hsp := fun w => span_name_at s a h.ha h.hs w
  obtain ⟨n, hn⟩ : ∃ n, spE inNm s s.size a = n := ⟨_, rfl⟩
  rw [hn] at hb hsp hL
  clear hn
  have HS := Lib.hid hsp; clear hsp
  have hs := h.hs
  have hna : n ≤ s.size - a + a := by have := h.ha; omega
  have c0 := h.cell
  have hB : B ≤ w.heap.size := by have := h.rd.lt; omega
  have H := Lib.hid h; clear h
  have HC := Lib.hid (fun w => count_at s a n hb.1 hb.2 hs w)
  cases hwb : wordL (s.extract a n).toList with
  | true =>
    have HW := Lib.hid (fun w => word_at s a n hb.1 hb.2 true hwb w)
    rw [if_pos hwb] at hL
    have HL := Lib.hid hL; clear hL hwb
    go_enter Tryd.func49, Tryd.ntmps49
    go_wp2_with (first | (go_at_call 56; (with_reducible refine (HS.out _).mono ?_); rintro e w1 ⟨rfl, hb1⟩; have H1 := Lib.hid (H.out.later hb1); have d0 := H1.out.cell) | (go_at_call 12; (with_reducible refine (HW.out _).mono ?_); rintro e w2 ⟨rfl, rfl⟩))
    refine (take_rs H1.out n 3 0 hb.1 hb.2).mono ?_
    rintro e w3 ⟨v', rfl, hr, ho, hbb⟩
    go_wp2
    go_ret
    exact TokRes.ok HL.out (hb1.mono hB) hr ho hbb
  | false =>
    have HW := Lib.hid (fun w => word_at s a n hb.1 hb.2 false hwb w)
    rw [if_neg (by rw [hwb]; simp)] at hL
    clear hwb
    by_cases hc : 32 < Lib.runeCount (s.extract a n)
    · rw [if_pos hc] at hL
      have HL := Lib.hid hL; clear hL
      have hc2 : (32 : Int) < (Lib.runeCount (s.extract a n) : Int) := by omega
      go_enter Tryd.func49, Tryd.ntmps49
      go_wp2_with (first | (go_at_call 56; (with_reducible refine (HS.out _).mono ?_); rintro e w1 ⟨rfl, hb1⟩; have H1 := Lib.hid (H.out.later hb1); have d0 := H1.out.cell) | (go_at_call 12; (with_reducible refine (HW.out _).mono ?_); rintro e w2 ⟨rfl, rfl⟩) | (go_at_call 57; (with_reducible refine (HC.out _).mono ?_); rintro e w4 ⟨rfl, hb4⟩))
      go_ret
      exact TokRes.bad HL.out (by simp) ((hb1.mono hB).trans (hb4.mono (by have := hb1.size; omega))) (H1.out.later hb4).rd
    · rw [if_neg hc] at hL
      have HL := Lib.hid hL; clear hL
      have hc2 : ¬ (32 : Int) < (Lib.runeCount (s.extract a n) : Int) := by omega
      go_enter Tryd.func49, Tryd.ntmps49
      go_wp2_with (first | (go_at_call 56; (with_reducible refine (HS.out _).mono ?_); rintro e w1 ⟨rfl, hb1⟩; have H1 := Lib.hid (H.out.later hb1); have d0 := H1.out.cell) | (go_at_call 12; (with_reducible refine (HW.out _).mono ?_); rintro e w2 ⟨rfl, rfl⟩) | (go_at_call 57; (with_reducible refine (HC.out _).mono ?_); rintro e w4 ⟨rfl, hb4⟩; have H4 := Lib.hid (H1.out.later hb4)))
      refine (take_rs H4.out n 1 0 hb.1 hb.2).mono ?_
      rintro e w3 ⟨v', rfl, hr, ho, hbb⟩
      go_wp2
      go_ret
      exact TokRes.ok HL.out ((hb1.mono hB).trans (hb4.mono (by have := hb1.size; omega))) hr ho hbb

/-- A token that begins with a sign. -/
def sigT (s : ByteArray) (a : Nat) : Int × Nat × Int × Int :=
  if 0 < sgL (s.extract a s.size).data.toList then (0, a + (sgL (s.extract a s.size).data.toList).toNat, 4, 0) else (20, 0, 0, 0)
theorem twoL_len (l : List UInt8) (h : twoL l = true) : l.length = 2 := by
  unfold twoL at h
  simp only [Bool.or_eq_true, beq_iff_eq] at h
  rcases h with ((((h | h) | h) | h) | h) | h <;> (subst h; rfl)
theorem sgL_bounds (l : List UInt8) (h : 0 < l.length) : 0 ≤ sgL l ∧ sgL l ≤ l.length := by
  unfold sgL
  split
  · rename_i h2
    have := twoL_len _ h2
    rw [List.length_take] at this
    omega
  · split <;> omega

set_option maxHeartbeats 2000000 in
theorem sign_any {s : ByteArray} {a B k : Nat} {P : Int × Int} {v : Value} {xs : List Value} {w : World} (h : Rs w B s a P v k xs) (hlt : a < s.size) :
    Calls Tryd.prog 51 #[.pointer (some ⟨B, 0, none⟩)] w (TokRes w B s a P k xs (sigT s a)) := by
  have hL : sigT s a = if 0 < sgL (s.extract a s.size).data.toList then (0, a + (sgL (s.extract a s.size).data.toList).toNat, 4, 0) else (20, 0, 0, 0) := rfl
  obtain ⟨o, ho⟩ : ∃ o, sigT s a = o := ⟨_, rfl⟩
  rw [ho] at hL ⊢
  clear ho
  have hs := h.hs
  have hlen : (s.extract a s.size).data.toList.length = s.size - a := by rw [Array.length_toList]; show (s.extract a s.size).size = _; simp
  have hb := sgL_bounds (s.extract a s.size).data.toList (by omega)
  have hsg := fun w => signSize_any (s.extract a s.size) w (by unfold maxLen; simp; omega) (by simp; omega)
  obtain ⟨g, hg⟩ : ∃ g, sgL (s.extract a s.size).data.toList = g := ⟨_, rfl⟩
  rw [hg] at hb hsg hL
  rw [hlen] at hb
  clear hg hlen
  have HS := Lib.hid hsg; clear hsg
  have c0 := h.cell
  have hB : B ≤ w.heap.size := by have := h.rd.lt; omega
  have H := Lib.hid h; clear h
  by_cases hz : 0 < g
  · rw [if_pos hz] at hL
    have HL := Lib.hid hL; clear hL
    have HT := Lib.hid (take_rs H.out (a + g.toNat) 4 0 (by omega) (by omega))
    have hga : ((a + g.toNat - a : Nat) : Int) = g := by omega
    rw [hga] at HT
    clear hga
    go_enter Tryd.func51, Tryd.ntmps51
    go_wp2_with (go_at_call 59; (with_reducible refine (HS.out _).mono ?_); rintro e w1 ⟨rfl, rfl⟩)
    refine HT.out.mono ?_
    rintro e w3 ⟨v', rfl, hr, ho, hbb⟩
    go_wp2
    go_ret
    exact TokRes.ok HL.out (Below.refl _ _) hr ho hbb
  · rw [if_neg hz] at hL
    have HL := Lib.hid hL; clear hL
    go_enter Tryd.func51, Tryd.ntmps51
    go_wp2_with (go_at_call 59; (with_reducible refine (HS.out _).mono ?_); rintro e w1 ⟨rfl, rfl⟩)
    go_ret
    exact TokRes.bad HL.out (by simp) (Below.refl _ _) H.out.rd

theorem other_any {s : ByteArray} {a B k : Nat} {P : Int × Int} {v : Value} {xs : List Value} {w : World} (h : Rs w B s a P v k xs) :
    Calls Tryd.prog 52 #[.pointer (some ⟨B, 0, none⟩)] w (TokRes w B s a P k xs (20, 0, 0, 0)) := by
  have H := Lib.hid h; clear h
  go_enter Tryd.func52, Tryd.ntmps52
  go_wp2
  go_ret
  exact TokRes.bad rfl (by simp) (Below.refl _ _) H.out.rd
end Go.Proofs.YtifgmkenfmmelaaDoor
