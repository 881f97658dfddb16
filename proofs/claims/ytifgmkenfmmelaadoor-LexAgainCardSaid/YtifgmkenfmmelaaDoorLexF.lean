/-
  The reader's steps: proved is what reading picks, and what token and skip answer and leave.
  Condition: Go's tables of package unicode/utf8 and the two errors of package strconv hold what their text lays ('Env').
-/
import Derived.Test.YtifgmkenfmmelaaDoorLexE
namespace Go.Proofs.YtifgmkenfmmelaaDoor
open Go Go.RowKit

/-- The reader's method that reads a token of a class. -/
def rdF (K : Int) : Nat := if K = 3 then 49 else if K = 4 then 50 else if K = 5 then 51 else 52
theorem reading_any (B : Nat) (r : Int) (w : World) :
    Calls Tryd.prog 37 #[.pointer (some ⟨B, 0, none⟩), .int .i32 r] w fun e w' => e = .returned (.func (.func (rdF (cls r))) #[.pointer (some ⟨B, 0, none⟩)] #[]) ∧ w = w' := by
  obtain ⟨K, hK⟩ : ∃ K, cls r = K := ⟨_, rfl⟩
  have hcl := fun w => class_any r w
  rw [hK] at hcl ⊢
  clear hK
  have HC := Lib.hid hcl; clear hcl
  by_cases h3 : K = 3
  · subst h3
    go_enter Tryd.func37, Tryd.ntmps37
    go_wp2_with (go_at_call 45; refine (HC.out _).mono ?_; rintro e w' ⟨rfl, rfl⟩)
    go_ret
    exact ⟨rfl, rfl⟩
  · by_cases h4 : K = 4
    · subst h4
      go_enter Tryd.func37, Tryd.ntmps37
      go_wp2_with (go_at_call 45; refine (HC.out _).mono ?_; rintro e w' ⟨rfl, rfl⟩)
      go_ret
      exact ⟨rfl, rfl⟩
    · by_cases h5 : K = 5
      · subst h5
        go_enter Tryd.func37, Tryd.ntmps37
        go_wp2_with (go_at_call 45; refine (HC.out _).mono ?_; rintro e w' ⟨rfl, rfl⟩)
        go_ret
        exact ⟨rfl, rfl⟩
      · have hf : rdF K = 52 := by unfold rdF; rw [if_neg h3, if_neg h4, if_neg h5]
        rw [hf]
        have n3 : (K == 3) = false := by simpa using h3
        have n4 : (K == 4) = false := by simpa using h4
        have n5 : (K == 5) = false := by simpa using h5
        clear hf
        go_enter Tryd.func37, Tryd.ntmps37
        go_wp2_with (go_at_call 45; refine (HC.out _).mono ?_; rintro e w' ⟨rfl, rfl⟩)
        go_ret
        exact ⟨rfl, rfl⟩

/-- The token at byte a. -/
def oneT (s : ByteArray) (a : Nat) : Int × Nat × Int × Int :=
  if cls (rn s a) = 3 then letT s a else if cls (rn s a) = 4 then digT s a else if cls (rn s a) = 5 then sigT s a else (20, 0, 0, 0)
/-- The method that is picked reads it. -/
theorem one_any {s : ByteArray} {a B k : Nat} {P : Int × Int} {v : Value} {xs : List Value} {w : World} (h : Rs w B s a P v k xs) (hlt : a < s.size) (hE : Env w) :
    Calls Tryd.prog (rdF (cls (rn s a))) #[.pointer (some ⟨B, 0, none⟩)] w (TokRes w B s a P k xs (oneT s a)) := by
  unfold rdF oneT
  split
  · exact letters_any h
  · split
    · exact digits_any h hlt hE
    · split
      · exact sign_any h hlt
      · exact other_any h

theorem frs_eq (s : ByteArray) (a : Nat) (h : a < s.size) : frs s a = rn s a := by
  unfold frs
  rw [decode_from s a h]
  rfl
/-- The token at byte a, k tokens being there. -/
def tokT (s : ByteArray) (a k : Nat) : Int × Nat × Int × Int := if k = 32768 then (23, 0, 0, 0) else oneT s a

theorem ownsRow_shape {w : World} {base : Nat} {e : TypeId} {size : Nat} {v : Value} {n : Nat} {xs : List Value} (h : w.ownsRow base e size v n xs) : ∃ a c, v = .slice a n c := by
  rcases h with ⟨_, ⟨h1, h2⟩ | ⟨g, cap, cur, hv, _⟩⟩
  · exact ⟨none, 0, by rw [h2, h1]⟩
  · exact ⟨_, _, hv⟩

set_option maxRecDepth 100000 in
set_option maxHeartbeats 2000000 in
theorem token_any {s : ByteArray} {a B k : Nat} {P : Int × Int} {v : Value} {xs : List Value} {w : World} (h : Rs w B s a P v k xs) (hlt : a < s.size) (hE : Env w) :
    Calls Tryd.prog 20 #[.pointer (some ⟨B, 0, none⟩)] w (TokRes w B s a P k xs (tokT s a k)) := by
  obtain ⟨va, vc, rfl⟩ := ownsRow_shape h.own
  have c0 := h.cell
  have c3 := h.cell3
  have hB : B ≤ w.heap.size := by have := h.rd.lt; omega
  have H := Lib.hid h; clear h
  have HE := Lib.hid hE; clear hE
  by_cases hk : k = 32768
  · have HL := Lib.hid (show tokT s a k = (23, 0, 0, 0) by unfold tokT; rw [if_pos hk])
    subst hk
    go_enter Tryd.func20, Tryd.ntmps20
    go_wp2_with fail
    go_ret
    exact TokRes.bad HL.out (by simp) (Below.refl _ _) H.out.rd
  · have hk2 : ¬ (k : Int) = 32768 := by omega
    have HL := Lib.hid (show tokT s a k = oneT s a by unfold tokT; rw [if_neg hk])
    have hf := fun w hE => first_at s a w hE
    rw [frs_eq s a hlt] at hf
    have HF := Lib.hid hf; clear hf
    have HO := Lib.hid (fun v w (h : Rs w B s a P v k xs) (hE : Env w) => one_any h hlt hE)
    have HD := Lib.hid (fun w => reading_any B (rn s a) w)
    obtain ⟨F, hF⟩ : ∃ F, rdF (cls (rn s a)) = F := ⟨_, rfl⟩
    have hF4 : F = 49 ∨ F = 50 ∨ F = 51 ∨ F = 52 := by
      rw [← hF]
      unfold rdF
      split
      · exact .inl rfl
      · split
        · exact .inr (.inl rfl)
        · split
          · exact .inr (.inr (.inl rfl))
          · exact .inr (.inr (.inr rfl))
    rw [hF] at HO HD
    clear hF
    have H4 := Lib.hid hF4; clear hF4
    obtain ⟨T, hT⟩ : ∃ T, oneT s a = T := ⟨_, rfl⟩
    rw [hT] at HO HL
    rw [HL.out]
    clear hT HL
    go_enter Tryd.func20, Tryd.ntmps20
    go_wp2_with (first | (go_at_call 38; (with_reducible refine (HF.out _ HE.out).mono ?_); rintro e w1 ⟨rfl, hb1⟩; have H1 := Lib.hid (H.out.later hb1); have E1 := Lib.hid (HE.out.later hb1)) | (go_at_call 37; (with_reducible refine (HD.out _).mono ?_); rintro e w2 ⟨rfl, rfl⟩))
    rcases H4.out with rfl | rfl | rfl | rfl
    all_goals
      go_wp2_with fail
      refine (HO.out _ _ H1.out E1.out).mono ?_
      rintro e w3 hr
      rcases hr with ⟨h1, v', rfl, hr, ho, hbb⟩ | ⟨h1, rfl, ⟨v', hr⟩, hbb⟩
      · go_wp2
        go_ret
        exact .inl ⟨h1, v', rfl, hr, ho, (hb1.mono hB).trans hbb⟩
      · go_wp2
        go_ret
        exact .inr ⟨h1, rfl, ⟨v', hr⟩, (hb1.mono hB).trans hbb⟩

theorem ptE_rest (s : ByteArray) (a : Nat) (ha : a ≤ s.size) : ptE (s.extract a s.size) (s.extract a s.size).size 0 false = ptE s s.size a false - a := by
  have h := ptE_shift s a ha (s.extract a s.size).size 0 false
  rw [Nat.add_zero, ptE_fuel s _ s.size a false (by simp; omega) (by omega)] at h
  omega
/-- What skip has left: the reader stands at the next token, or at the end. -/
def Skipped (w : World) (B : Nat) (s : ByteArray) (a : Nat) (P : Int × Int) (v : Value) (k : Nat) (xs : List Value) (e : Ending) (w' : World) : Prop :=
  e = .returned (.tuple #[]) ∧ Rs w' B s (ptE s s.size a false) (mvE s (ptE s s.size a false) s.size a P) v k xs ∧ Below B w w'
theorem Rs.moved {w w' : World} {B : Nat} {s : ByteArray} {a n : Nat} {P : Int × Int} {v v' : Value} {k k' : Nat} {xs xs' : List Value} (h : Rs w B s a P v k xs) (hn : a ≤ n) (hn2 : n ≤ s.size)
    (hr : Rd w' B s n (mvE s n s.size a P) v') (ho : w'.ownsRow (B + 1) 33 5 v' k' xs') (hk : k' ≤ 70000) : Rs w' B s n (mvE s n s.size a P) v' k' xs' := by
  have hb := mvE_bounds s n s.size a a P h.h1 h.h2 h.h3 h.h4 (Nat.le_refl _) hn
  exact ⟨hr, ho, h.hs, hn2, hb.1, hb.2.1, hb.2.2.1, hb.2.2.2, hk⟩
theorem skip_any {s : ByteArray} {a B k : Nat} {P : Int × Int} {v : Value} {xs : List Value} {w : World} (h : Rs w B s a P v k xs) :
    Calls Tryd.prog 19 #[.pointer (some ⟨B, 0, none⟩)] w (Skipped w B s a P v k xs) := by
  have hb := ptE_bounds s s.size a false h.ha
  have hp := fun w => parting_any (s.extract a s.size) w (by have := h.hs; unfold maxLen; simp; omega)
  rw [ptE_rest s a h.ha] at hp
  unfold Skipped
  obtain ⟨n, hn⟩ : ∃ n, ptE s s.size a false = n := ⟨_, rfl⟩
  rw [hn] at hb hp ⊢
  clear hn
  have HP := Lib.hid hp; clear hp
  have c0 := h.cell
  have hB : B ≤ w.heap.size := by have := h.rd.lt; omega
  have H := Lib.hid h; clear h
  go_enter Tryd.func19, Tryd.ntmps19
  go_wp2_with (go_at_call 36; (with_reducible refine (HP.out _).mono ?_); rintro e w1 ⟨rfl, hb1⟩; have H1 := Lib.hid (H.out.later hb1))
  have h1 := H1.out
  refine (move_any s a n B P v _ h1.hs hb.1 hb.2 h1.h1 h1.h2 h1.h3 h1.h4 h1.rd).mono ?_
  rintro e w2 ⟨rfl, hr, hb2, ha2⟩
  go_wp2
  go_end0
  exact ⟨rfl, h1.moved hb.1 hb.2 hr (ownsRow_above h1.own ha2 (Nat.le_refl _)) h1.hk, (hb1.mono hB).trans hb2⟩
end Go.Proofs.YtifgmkenfmmelaaDoor
