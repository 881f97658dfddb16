/-
  Plainly: Points has its points, Top every one; what Cells gives, laid on Top, is the octagon.
-/
import Derived.Test.YthnefcafhpioaaaDfD
import Derived.Test.YthnefcafhpioaaaDeF
namespace Go.Proofs.Ythnefcafhpioaaa
open Go Go.RowKit Go.Shelf

theorem chk_of {N : Nat} {m : List Int} (hN : N ≤ 64) (hl : m.length = 2 * N * (2 * N)) (ho : okM (2 * N) m = true) : chkO ⟨N, false, m⟩ = 0 := by
  rw [chk_ok hN (by simp only [Bool.false_eq_true, if_false, beq_iff_eq]; rw [hl, sq4]), if_pos (by simp [ho])]
theorem top_at {n : Nat} (a b : Nat) (ha : a < n) (hb : b < n) : gM n (topM n) a b = if a = b then 0 else inf := by
  rw [show topM n = topI n n from rfl, topI_at (Nat.le_refl n) a b ha hb]
  by_cases h : a = b
  · rw [if_pos ⟨h, ha⟩, if_pos h]
  · rw [if_neg (fun e => h e.1), if_neg h]
theorem top_ok (N : Nat) : okM (2 * N) (topM (2 * N)) = true := okM_of fun i j hi hj => by
  rw [top_at i j hi hj, top_at _ _ (acr_lt hj) (acr_lt hi)]
  by_cases h : i = j
  · rw [if_pos h, if_pos (by rw [h])]
    exact ⟨.inr (by omega), fun _ => rfl, rfl⟩
  · rw [if_neg h, if_neg (fun e => h (acr_inj e).symm)]
    exact ⟨.inl rfl, fun e => absurd e h, rfl⟩
theorem apV_self (p : List Int) (i : Nat) : apV p i i = 0 := by unfold apV; rw [Int.sub_self]; decide
theorem top_has (n : Nat) (p : List Int) : hasM n (topM n) p = true := hasM_iff.2 fun i j hi hj => by
  rw [top_at i j hi hj]
  by_cases h : i = j
  · subst h; rw [if_pos rfl, apV_self]; exact Int.le_refl _
  · rw [if_neg h]; exact apV_inf p i j
theorem best_ge (i j : Nat) : ∀ (l : List (List Int)) (b : Int) , b ≤ l.foldl (fun b p => max b (apV p i j)) b ∧ ∀ p ∈ l, apV p i j ≤ l.foldl (fun b p => max b (apV p i j)) b
  | [], b => ⟨Int.le_refl _, fun p h => by cases h⟩
  | q :: l, b => by
    obtain ⟨h1, h2⟩ := best_ge i j l (max b (apV q i j))
    refine ⟨?_, fun p hp => ?_⟩
    · show b ≤ l.foldl _ (max b (apV q i j)); omega
    · rcases List.mem_cons.1 hp with rfl | hp
      · show _ ≤ l.foldl _ (max b (apV p i j)); omega
      · exact h2 p hp
theorem best_bound (i j : Nat) : ∀ (l : List (List Int)) (b : Int), isBound b → isBound (l.foldl (fun b p => max b (apV p i j)) b)
  | [], b, h => h
  | q :: l, b, h => best_bound i j l _ (by have h2 : isBound (apV q i j) := near_bound _; show isBound (max b (apV q i j)); unfold isBound at *; omega)
theorem best_acr (l : List (List Int)) (i j : Nat) : bestV l i j = bestV l (acr j) (acr i) := by unfold bestV; simp only [apV_acr]
theorem pts_ok {N : Nat} {l : List (List Int)} (h : l.length ≠ 0) : okM (2 * N) (ptsM (2 * N) l) = true := okM_of fun i j hi hj => by
  rw [ptsM_at l i j hi hj, ptsM_at l _ _ (acr_lt hj) (acr_lt hi)]
  exact ⟨best_bound i j l _ (.inr (by omega)), fun e => by subst e; exact bestV_diag l i h, best_acr l i j⟩
theorem pts_has {n : Nat} {l : List (List Int)} {p : List Int} (h : p ∈ l) : hasM n (ptsM n l) p = true := hasM_iff.2 fun i j hi hj => by
  rw [ptsM_at l i j hi hj]
  exact (best_ge i j l _).2 p h

/-- What Cells gave, laid on t. -/
def layC (n : Nat) (t : List Int) (xs : List ((Nat × Nat) × Int)) : List Int := xs.foldl (fun t x => withM n t x.1.1 x.1.2 x.2) t
/-- A cell that stands in m. -/
def Good (n : Nat) (m : List Int) (x : (Nat × Nat) × Int) : Prop := x.1.1 < n ∧ x.1.2 < n ∧ x.1.1 ≠ x.1.2 ∧ x.2 = gM n m x.1.1 x.1.2 ∧ isBound x.2
/-- A matrix under way: each cell is inf yet, or m's. -/
def Half (n : Nat) (m t : List Int) : Prop := t.length = n * n ∧ okM n t = true ∧ ∀ a b, a < n → b < n → a ≠ b → gM n t a b = inf ∨ gM n t a b = gM n m a b
theorem near_is {c : Int} (h : isBound c) : nearV c = c := by
  unfold isBound at h; unfold nearV
  rcases h with h | h
  · rw [if_pos (by omega), h]
  · rw [if_neg (by omega), if_neg (by omega)]
theorem less_half {v c : Int} (hc : isBound c) (h : v = inf ∨ v = c) : lessV v c = c := by
  unfold lessV
  rw [near_is hc]
  rcases h with rfl | rfl
  · rw [show nearV inf = inf by decide]
    unfold isBound at hc
    rcases hc with h | h
    · rw [h]; decide
    · have : (inf : Int) = 9223372036854775807 := rfl
      omega
  · rw [near_is hc]; exact Int.min_self _
theorem half_step {N : Nat} {m t : List Int} {x : (Nat × Nat) × Int} (ho : okM (2 * N) m = true) (h : Half (2 * N) m t) (hx : Good (2 * N) m x) :
    Half (2 * N) m (withM (2 * N) t x.1.1 x.1.2 x.2) ∧ ∀ a b, a < 2 * N → b < 2 * N → gM (2 * N) (withM (2 * N) t x.1.1 x.1.2 x.2) a b = if (a = x.1.1 ∧ b = x.1.2) ∨ (a = acr x.1.2 ∧ b = acr x.1.1) then gM (2 * N) m a b else gM (2 * N) t a b := by
  obtain ⟨hi, hj, hne, hv, hb⟩ := hx
  have e : ∀ a b, a < 2 * N → b < 2 * N → gM (2 * N) (withM (2 * N) t x.1.1 x.1.2 x.2) a b = if (a = x.1.1 ∧ b = x.1.2) ∨ (a = acr x.1.2 ∧ b = acr x.1.1) then gM (2 * N) m a b else gM (2 * N) t a b := fun a b ha hb' => by
    rw [withM_at x.2 h.1 hi hj a b hb']
    by_cases hc : (a = x.1.1 ∧ b = x.1.2) ∨ (a = acr x.1.2 ∧ b = acr x.1.1)
    · rw [if_pos hc, if_pos hc, less_half hb (by rw [hv]; exact h.2.2 _ _ hi hj hne), hv]
      rcases hc with ⟨rfl, rfl⟩ | ⟨rfl, rfl⟩
      · rfl
      · exact (okM_at ho hi hj).2.2
    · rw [if_neg hc, if_neg hc]
  refine ⟨⟨by rw [withM_len]; exact h.1, withM_ok h.1 h.2.1 hi hj (fun e => absurd e hne), fun a b ha hb' hab => ?_⟩, e⟩
  rw [e a b ha hb']
  by_cases hc : (a = x.1.1 ∧ b = x.1.2) ∨ (a = acr x.1.2 ∧ b = acr x.1.1)
  · rw [if_pos hc]; exact .inr rfl
  · rw [if_neg hc]; exact h.2.2 a b ha hb' hab
theorem lay_half {N : Nat} {m : List Int} (ho : okM (2 * N) m = true) : ∀ (xs : List ((Nat × Nat) × Int)) (t : List Int), Half (2 * N) m t → (∀ x ∈ xs, Good (2 * N) m x) → Half (2 * N) m (layC (2 * N) t xs) ∧ ∀ a b, a < 2 * N → b < 2 * N → gM (2 * N) (layC (2 * N) t xs) a b = if ∃ x ∈ xs, (a = x.1.1 ∧ b = x.1.2) ∨ (a = acr x.1.2 ∧ b = acr x.1.1) then gM (2 * N) m a b else gM (2 * N) t a b
  | [], t, h, _ => ⟨h, fun a b _ _ => by rw [if_neg (by simp)]; rfl⟩
  | x :: xs, t, h, hx => by
    obtain ⟨h1, h2⟩ := half_step ho h (hx x (by simp))
    obtain ⟨h3, h4⟩ := lay_half ho xs _ h1 (fun y hy => hx y (by simp [hy]))
    refine ⟨h3, fun a b ha hb => ?_⟩
    have e := h4 a b ha hb
    show gM (2 * N) (layC (2 * N) (withM (2 * N) t x.1.1 x.1.2 x.2) xs) a b = _
    rw [e]
    by_cases hc : ∃ y ∈ xs, (a = y.1.1 ∧ b = y.1.2) ∨ (a = acr y.1.2 ∧ b = acr y.1.1)
    · rw [if_pos hc, if_pos (by obtain ⟨y, hy, hh⟩ := hc; exact ⟨y, by simp [hy], hh⟩)]
    · rw [if_neg hc, h2 a b ha hb]
      by_cases hd : (a = x.1.1 ∧ b = x.1.2) ∨ (a = acr x.1.2 ∧ b = acr x.1.1)
      · rw [if_pos hd, if_pos ⟨x, by simp, hd⟩]
      · rw [if_neg hd, if_neg (by
          rintro ⟨y, hy, hh⟩
          rcases List.mem_cons.1 hy with rfl | hy
          · exact hd hh
          · exact hc ⟨y, hy, hh⟩)]
theorem half_top {N : Nat} (m : List Int) : Half (2 * N) m (topM (2 * N)) := ⟨topM_len _, top_ok N, fun a b ha hb hab => .inl (by rw [top_at a b ha hb, if_neg hab])⟩
theorem cel_good {N : Nat} {m : List Int} (ho : okM (2 * N) m = true) : ∀ x ∈ celL (2 * N) m (allP (2 * N)), Good (2 * N) m x := fun x hx => by
  unfold celL at hx
  obtain ⟨y, hy, rfl⟩ := List.mem_map.1 hx
  obtain ⟨h1, h2⟩ := List.mem_filter.1 hy
  obtain ⟨hi, hj⟩ := allP_lt h1
  unfold celB at h2
  simp only [Bool.and_eq_true, decide_eq_true_eq] at h2
  exact ⟨hi, hj, h2.2.1, rfl, (okM_at ho hi hj).1⟩
theorem lay_all {N : Nat} {m : List Int} (hl : m.length = 2 * N * (2 * N)) (ho : okM (2 * N) m = true) : layC (2 * N) (topM (2 * N)) (celL (2 * N) m (allP (2 * N))) = m := by
  obtain ⟨h1, h2⟩ := lay_half ho _ _ (half_top m) (cel_good ho)
  refine gM_ext h1.1 hl fun a b ha hb => ?_
  rw [h2 a b ha hb]
  by_cases hc : ∃ x ∈ celL (2 * N) m (allP (2 * N)), (a = x.1.1 ∧ b = x.1.2) ∨ (a = acr x.1.2 ∧ b = acr x.1.1)
  · rw [if_pos hc]
  · rw [if_neg hc, top_at a b ha hb]
    obtain ⟨o1, o2, o3⟩ := okM_at ho ha hb
    by_cases hab : a = b
    · rw [if_pos hab, o2 hab]
    · rw [if_neg hab]
      by_cases hi : gM (2 * N) m a b = inf
      · rw [hi]
      · exfalso
        have hin : ∀ u v, u < 2 * N → v < 2 * N → celB (2 * N) m (u, v) = true → ((u, v), gM (2 * N) m u v) ∈ celL (2 * N) m (allP (2 * N)) := fun u v hu hv h => by
          unfold celL
          exact List.mem_map.2 ⟨(u, v), List.mem_filter.2 ⟨mem_allP hu hv, h⟩, rfl⟩
        by_cases hf : acr b < a
        · refine hc ⟨_, hin (acr b) (acr a) (acr_lt hb) (acr_lt ha) ?_, .inr ⟨?_, ?_⟩⟩
          · unfold celB fstP
            simp only [Bool.and_eq_true, decide_eq_true_eq]
            refine ⟨by rw [← o3]; exact hi, fun e => hab (acr_inj e).symm, ?_⟩
            rw [acr_acr, if_neg (by omega)]
          · simp only [acr_acr]
          · simp only [acr_acr]
        · refine hc ⟨_, hin a b ha hb ?_, .inl ⟨rfl, rfl⟩⟩
          unfold celB fstP
          simp only [Bool.and_eq_true, decide_eq_true_eq]
          exact ⟨hi, hab, by rw [if_neg hf]⟩
/-- Laying one cell by With. -/
theorem lay_with {N : Nat} {m t : List Int} {x : (Nat × Nat) × Int} (hN : N ≤ 64) (h : Half (2 * N) m t) (hx : Good (2 * N) m x) : withO ⟨N, false, t⟩ x.1.1 x.1.2 x.2 = (⟨N, false, withM (2 * N) t x.1.1 x.1.2 x.2⟩, 0) := by
  obtain ⟨hi, hj, hne, -⟩ := hx
  have hw : witB (N : Int) (x.1.1 : Int) (x.1.2 : Int) = true := (witB_iff _ _ _).2 ⟨by omega, by omega, by omega, by omega⟩
  unfold withO
  rw [if_neg (by rw [chk_of hN h.1 h.2.1]; simp), if_neg (by simp [hw]), if_neg (by simp; intro e; exact absurd (by omega) hne)]
  simp
theorem layC_snoc (n : Nat) (t : List Int) (xs : List ((Nat × Nat) × Int)) (x : (Nat × Nat) × Int) : layC n t (xs ++ [x]) = withM n (layC n t xs) x.1.1 x.1.2 x.2 := by unfold layC; rw [List.foldl_append]; rfl
/-- Has of what Points, Top, Empty answer. -/
theorem pts_hasV {N : Nat} {l : List (List Int)} {p : List Int} (hN : N ≤ 64) (hu : unl (N : Int) l = false) (hp : p ∈ l) : hasV ⟨N, false, ptsM (2 * N) l⟩ p = true := by
  have hl : l.length ≠ 0 := fun e => by rw [List.eq_nil_of_length_eq_zero e] at hp; cases hp
  obtain ⟨k, hk⟩ := List.getElem?_of_mem hp
  unfold hasV
  rw [if_neg (by simp [chk_of hN (ptsM_len _ _) (pts_ok hl), unl_false hu hk])]
  simp [pts_has hp]
theorem top_hasV {N : Nat} {p : List Int} (hN : N ≤ 64) (hp : p.length = N) : hasV (topO N) p = true := by
  have e : (topO (N : Int)) = ⟨N, false, topM (2 * N)⟩ := by show (⟨(N : Int), false, topM (2 * ((N : Int)).toNat)⟩ : Oc) = _; simp
  rw [e]
  unfold hasV
  rw [if_neg (by simp [chk_of hN (topM_len _) (top_ok N), hp])]
  simp [top_has]
theorem empty_hasV (n : Int) (p : List Int) : hasV (emptyOc n) p = false := by unfold hasV; rw [if_pos (.inr (.inl rfl))]
end Go.Proofs.Ythnefcafhpioaaa
