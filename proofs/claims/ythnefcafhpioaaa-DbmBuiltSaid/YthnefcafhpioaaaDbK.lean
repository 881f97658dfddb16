/-
  With, plain: what it answers may be, and has just the points that keep to the bound.
-/
import Derived.Test.YthnefcafhpioaaaDbJ
namespace Go.Proofs.Ythnefcafhpioaaa
open Go Go.RowKit Go.Shelf

theorem okM_at {n : Nat} {m : List Int} (h : okM n m = true) {i j : Nat} (hi : i < n) (hj : j < n) : isBound (gM n m i j) ∧ (i = j → gM n m i j = 0) ∧ gM n m i j = gM n m (acr j) (acr i) := by
  have h1 := List.all_eq_true.1 (List.all_eq_true.1 h i (List.mem_range.2 hi)) j (List.mem_range.2 hj)
  unfold okC at h1
  simp only [Bool.and_eq_true, Bool.or_eq_true, decide_eq_true_eq] at h1
  exact ⟨h1.1.1, fun e => h1.1.2.resolve_left (fun h => h e), h1.2⟩
theorem okM_of {n : Nat} {m : List Int} (h : ∀ i j, i < n → j < n → isBound (gM n m i j) ∧ (i = j → gM n m i j = 0) ∧ gM n m i j = gM n m (acr j) (acr i)) : okM n m = true :=
  okM_true fun i hi j hj => by
    obtain ⟨h1, h2, h3⟩ := h i j hi hj
    unfold okC
    simp only [Bool.and_eq_true, Bool.or_eq_true, decide_eq_true_eq]
    refine ⟨⟨h1, ?_⟩, h3⟩
    by_cases e : i = j
    · exact .inr (h2 e)
    · exact .inl e
theorem withM_len (n : Nat) (m : List Int) (i j : Nat) (q : Int) : (withM n m i j q).length = m.length := by unfold withM; rw [sM_len, sM_len]
theorem withM_at {N : Nat} {m : List Int} {i j : Nat} (q : Int) (hm : m.length = 2 * N * (2 * N)) (hi : i < 2 * N) (hj : j < 2 * N) (a b : Nat) (hb : b < 2 * N) :
    gM (2 * N) (withM (2 * N) m i j q) a b = if (a = i ∧ b = j) ∨ (a = acr j ∧ b = acr i) then lessV (gM (2 * N) m i j) q else gM (2 * N) m a b := by
  unfold withM
  rw [gM_sM (by rw [sM_len]; exact hm) (acr_lt hj) (acr_lt hi) hb, gM_sM hm hi hj hb]
  by_cases h1 : a = acr j ∧ b = acr i
  · rw [if_pos h1, if_pos (.inr h1)]
  · rw [if_neg h1]
    by_cases h2 : a = i ∧ b = j
    · rw [if_pos h2, if_pos (.inl h2)]
    · rw [if_neg h2, if_neg (fun h => h.elim h2 h1)]
theorem withM_ok {N : Nat} {m : List Int} {i j : Nat} {q : Int} (hm : m.length = 2 * N * (2 * N)) (ho : okM (2 * N) m = true) (hi : i < 2 * N) (hj : j < 2 * N) (hq : i = j → 0 ≤ q) : okM (2 * N) (withM (2 * N) m i j q) = true := by
  refine okM_of fun a b ha hb => ?_
  rw [withM_at q hm hi hj a b hb, withM_at q hm hi hj (acr b) (acr a) (acr_lt ha)]
  obtain ⟨o1, o2, o3⟩ := okM_at ho ha hb
  by_cases h : (a = i ∧ b = j) ∨ (a = acr j ∧ b = acr i)
  · rw [if_pos h, if_pos (by
      rcases h with ⟨rfl, rfl⟩ | ⟨rfl, rfl⟩
      · exact .inr ⟨rfl, rfl⟩
      · exact .inl ⟨acr_acr _, acr_acr _⟩)]
    refine ⟨less_bound _ _, fun e => ?_, rfl⟩
    have hij : i = j := by
      rcases h with ⟨h1, h2⟩ | ⟨h1, h2⟩
      · omega
      · exact (acr_inj (by rw [← h1, ← h2, e])).symm
    obtain ⟨-, p2, -⟩ := okM_at ho hi hj
    rw [p2 hij]
    have h0 := hq hij
    have hn : 0 ≤ nearV q := by unfold nearV; split <;> (try split) <;> omega
    unfold lessV
    rw [show nearV 0 = 0 by decide]
    omega
  · rw [if_neg h, if_neg (fun h' => h (by
      rcases h' with ⟨h1, h2⟩ | ⟨h1, h2⟩
      · exact .inr ⟨by rw [← h2, acr_acr], by rw [← h1, acr_acr]⟩
      · exact .inl ⟨acr_inj h2, acr_inj h1⟩))]
    exact ⟨o1, o2, o3⟩
theorem vS_acr (x : List Int) (i : Nat) : vS x (acr i) = -vS x i := by
  unfold vS acr
  by_cases h : i % 2 = 0
  · rw [if_pos h, if_pos h, if_neg (by omega), show (i + 1) / 2 = i / 2 by omega]
  · rw [if_neg h, if_neg h, if_pos (by omega), show (i - 1) / 2 = i / 2 by omega]; omega
theorem apV_acr (x : List Int) (i j : Nat) : apV x (acr j) (acr i) = apV x i j := by
  unfold apV; rw [vS_acr, vS_acr]; congr 1; omega
theorem hasM_iff {n : Nat} {m p : List Int} : hasM n m p = true ↔ ∀ i j, i < n → j < n → apV p i j ≤ gM n m i j := by
  unfold hasM
  simp only [List.all_eq_true, List.mem_range, decide_eq_true_eq]
  exact ⟨fun h i j hi hj => h i hi j hj, fun h i hi j hj => h i j hi hj⟩
theorem withM_has {N : Nat} {m p : List Int} {i j : Nat} {q : Int} (hm : m.length = 2 * N * (2 * N)) (ho : okM (2 * N) m = true) (hi : i < 2 * N) (hj : j < 2 * N) :
    hasM (2 * N) (withM (2 * N) m i j q) p = (hasM (2 * N) m p && decide (apV p i j ≤ nearV q)) := by
  have hb := (okM_at ho hi hj).1
  have e1 : lessV (gM (2 * N) m i j) q = min (gM (2 * N) m i j) (nearV q) := by unfold lessV; rw [near_same hb]
  rw [Bool.eq_iff_iff, Bool.and_eq_true, hasM_iff, hasM_iff, decide_eq_true_eq]
  constructor
  · intro h
    have h0 := h i j hi hj
    rw [withM_at q hm hi hj i j hj, if_pos (.inl ⟨rfl, rfl⟩), e1] at h0
    refine ⟨fun a b ha hb' => ?_, by omega⟩
    have h1 := h a b ha hb'
    rw [withM_at q hm hi hj a b hb'] at h1
    by_cases hc : (a = i ∧ b = j) ∨ (a = acr j ∧ b = acr i)
    · rcases hc with ⟨rfl, rfl⟩ | ⟨rfl, rfl⟩
      · omega
      · rw [apV_acr, ← (okM_at ho hi hj).2.2]; omega
    · rw [if_neg hc] at h1; exact h1
  · rintro ⟨h, h2⟩ a b ha hb'
    rw [withM_at q hm hi hj a b hb']
    split
    · rename_i hc
      have h0 := h i j hi hj
      rcases hc with ⟨rfl, rfl⟩ | ⟨rfl, rfl⟩
      · rw [e1]; omega
      · rw [apV_acr, e1]; omega
    · exact h a b ha hb'
/-- Whether a point keeps to the bound, as the law reckons it. -/
def keepB (p : List Int) (i j : Nat) (q : Int) : Bool := if q ≤ 4611686018427387904 then (decide ((diffV p i j).2 < 0) || ((diffV p i j).2 == 0 && decide ((diffV p i j).1 ≤ max q (-4611686018427387904)))) else true
theorem keepB_eq (p : List Int) (i j : Nat) (q : Int) (hq : q ≤ 9223372036854775807) : keepB p i j q = decide (apV p i j ≤ nearV q) := by
  unfold keepB apV diffV
  obtain ⟨D, hD⟩ : ∃ D, vS p i - vS p j = D := ⟨_, rfl⟩
  rw [hD]
  rw [Bool.eq_iff_iff, decide_eq_true_eq]
  by_cases h1 : q ≤ 4611686018427387904
  · rw [if_pos h1]
    by_cases h2 : 4611686018427387904 < D
    · rw [if_pos h2]
      have e : nearV D = 9223372036854775807 := by unfold nearV; rw [if_pos h2]
      rw [e]
      unfold nearV
      rw [if_neg (by omega)]
      simp
      split <;> omega
    · rw [if_neg h2]
      by_cases h3 : D < -4611686018427387904
      · rw [if_pos h3]
        have e : nearV D = -4611686018427387904 := by unfold nearV; rw [if_neg h2, if_pos h3]
        rw [e]
        unfold nearV
        rw [if_neg (by omega)]
        simp
        split <;> omega
      · rw [if_neg h3]
        have e : nearV D = D := by unfold nearV; rw [if_neg h2, if_neg h3]
        rw [e]
        unfold nearV
        rw [if_neg (by omega)]
        simp
        split <;> omega
  · rw [if_neg h1]
    have e : nearV q = 9223372036854775807 := by unfold nearV; rw [if_pos (by omega)]
    rw [e]
    unfold nearV
    simp
    split <;> (try split) <;> omega
theorem diff_self (p : List Int) (i : Nat) : diffV p i i = (0, 0) := by unfold diffV; rw [Int.sub_self]; rfl
/-- With has just the points that keep to the bound. -/
theorem with_has {x : Oc} {i j : Nat} {q : Int} {p : List Int} (hc : chkO x = 0) (hw : witB x.n i j = true) (hp : (p.length : Int) = x.n) (hq : q ≤ 9223372036854775807) :
    (withO x i j q).2 = 0 ∧ hasV (withO x i j q).1 p = (hasV x p && keepB p i j q) := by
  obtain ⟨N, hN, hn, hem, hok⟩ := chk_zero hc
  obtain ⟨n, em, m⟩ := x
  simp only at hn hem hok hp hw
  subst hn
  obtain ⟨-, -, hi1, hj1⟩ := (witB_iff _ _ _).1 hw
  have hi : i < 2 * N := by omega
  have hj : j < 2 * N := by omega
  unfold withO
  rw [if_neg (by simp [hc]), if_neg (by simp [hw])]
  cases em with
  | true =>
    rw [if_pos (by rfl)]
    exact ⟨rfl, by unfold hasV; rw [if_pos (.inr (.inl rfl)), if_pos (.inr (.inl rfl))]; rfl⟩
  | false =>
    obtain ⟨hl, ho⟩ := hok rfl
    have hx : hasV ⟨N, false, m⟩ p = hasM (2 * N) m p := by unfold hasV; rw [if_neg (by simp [hc, hp])]; rfl
    rw [hx]
    by_cases h : i = j ∧ q < 0
    · rw [if_pos (by simp [h.1, h.2])]
      refine ⟨rfl, ?_⟩
      have hk : keepB p i j q = false := by
        obtain ⟨rfl, h2⟩ := h
        unfold keepB
        rw [diff_self, if_pos (by omega)]
        simp
        omega
      rw [hk, Bool.and_false]
      unfold hasV; rw [if_pos (.inr (.inl rfl))]
    · rw [if_neg (by simp; intro h'; have : i = j := by omega
                     by_cases hq0 : q < 0
                     · exact absurd ⟨this, hq0⟩ h
                     · omega)]
      refine ⟨rfl, ?_⟩
      have hok2 : okM (2 * N) (withM (2 * N) m i j q) = true := withM_ok hl ho hi hj fun e => by
        by_cases hq0 : q < 0
        · exact absurd ⟨e, hq0⟩ h
        · omega
      have hc2 : chkO ⟨N, false, withM (2 * N) m i j q⟩ = 0 := by
        rw [chk_ok hN (by simp only [Bool.false_eq_true, if_false, beq_iff_eq]; rw [withM_len, hl, sq4]), hok2]; rfl
      have e : hasV ⟨N, false, withM (2 * N) m i j q⟩ p = hasM (2 * N) (withM (2 * N) m i j q) p := by unfold hasV; rw [if_neg (by simp [hc2, hp])]; rfl
      show hasV ⟨N, false, withM (2 * N) m i j q⟩ p = _
      rw [e, withM_has hl ho hi hj, keepB_eq p i j q hq]
end Go.Proofs.Ythnefcafhpioaaa
