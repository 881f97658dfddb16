/-
  The document's Points, plainly.
-/
import Derived.Test.YthnefcafhpioaaaDeD
namespace Go.Proofs.Ythnefcafhpioaaa
open Go Go.RowKit Go.Shelf

def bestV (l : List (List Int)) (i j : Nat) : Int := l.foldl (fun b p => max b (apV p i j)) (-4611686018427387904)
theorem apV_lo (p : List Int) (i j : Nat) : -4611686018427387904 ≤ apV p i j := by unfold apV nearV; split <;> (try split) <;> omega
theorem bestV_succ {l : List (List Int)} {k : Nat} {p : List Int} (h : l[k]? = some p) (i j : Nat) : bestV (l.take (k + 1)) i j = max (bestV (l.take k) i j) (apV p i j) := by
  unfold bestV
  rw [List.take_add_one, h, List.foldl_append]
  rfl
theorem bestV_lo (i j : Nat) : ∀ (l : List (List Int)) (b : Int), -4611686018427387904 ≤ b → -4611686018427387904 ≤ l.foldl (fun b p => max b (apV p i j)) b
  | [], b, h => h
  | p :: l, b, h => bestV_lo i j l _ (by show _ ≤ max b (apV p i j); omega)
theorem bestV_hi (i j : Nat) : ∀ (l : List (List Int)) (b : Int), b ≤ 9223372036854775807 → l.foldl (fun b p => max b (apV p i j)) b ≤ 9223372036854775807
  | [], b, h => h
  | p :: l, b, h => bestV_hi i j l _ (by have := apV_inf p i j; show max b (apV p i j) ≤ _; omega)
theorem bestV_diag (l : List (List Int)) (i : Nat) (h : l.length ≠ 0) : bestV l i i = 0 := by
  have h0 : ∀ p, apV p i i = 0 := fun p => by unfold apV; rw [Int.sub_self]; decide
  have h1 : ∀ (l : List (List Int)) (b : Int), b ≤ 0 → l.length ≠ 0 → l.foldl (fun b p => max b (apV p i i)) b = 0 := by
    intro l
    induction l with
    | nil => intro b _ h; exact absurd rfl h
    | cons p l ih =>
      intro b hb _
      rw [List.foldl_cons, h0]
      rcases Nat.eq_zero_or_pos l.length with hl | hl
      · rw [List.eq_nil_of_length_eq_zero hl]; show max b 0 = 0; omega
      · exact ih _ (by omega) (by omega)
  exact h1 l _ (by omega) h
/-- What one point does to the best so far, by what Diff says. -/
theorem best_step (p : List Int) (i j : Nat) (b : Int) (hb : -4611686018427387904 ≤ b) (hb2 : b ≤ 9223372036854775807) : (diffV p i j = (0, 1) ∧ max b (apV p i j) = 9223372036854775807) ∨ (diffV p i j = (0, -1) ∧ max b (apV p i j) = b) ∨ (∃ d, diffV p i j = (d, 0) ∧ max b (apV p i j) = max b d) := by
  unfold diffV apV nearV
  obtain ⟨D, hD⟩ : ∃ D, vS p i - vS p j = D := ⟨_, rfl⟩
  rw [hD]
  by_cases k1 : 4611686018427387904 < D
  · rw [if_pos k1, if_pos k1]
    exact .inl ⟨rfl, by omega⟩
  · rw [if_neg k1, if_neg k1]
    by_cases k2 : D < -4611686018427387904
    · rw [if_pos k2, if_pos k2]
      exact .inr (.inl ⟨rfl, by omega⟩)
    · rw [if_neg k2, if_neg k2]
      exact .inr (.inr ⟨D, rfl, rfl⟩)
theorem lay_at {n : Nat} (p : List Int) : ∀ (xs : List (Nat × Nat)) (m : List Int), m.length = n * n → (∀ x ∈ xs, x.1 < n ∧ x.2 < n) → ∀ a b, a < n → b < n → gM n (xs.foldl (stM n p) m) a b = if (a, b) ∈ xs then max (gM n m a b) (apV p a b) else gM n m a b
  | [], m, _, _, a, b, _, _ => by simp
  | (i, j) :: xs, m, hm, hx, a, b, ha, hb => by
    obtain ⟨hi, hj⟩ := hx (i, j) (by simp)
    simp only at hi hj
    rw [List.foldl_cons, lay_at p xs _ (by rw [stM_len]; exact hm) (fun x h => hx x (by simp [h])) a b ha hb]
    have e : gM n (stM n p m (i, j)) a b = if a = i ∧ b = j then max (gM n m i j) (apV p i j) else gM n m a b := gM_sM hm hi hj hb _
    rw [e]
    by_cases h : a = i ∧ b = j
    · obtain ⟨rfl, rfl⟩ := h
      rw [if_pos (And.intro rfl rfl), if_pos (show (a, b) ∈ (a, b) :: xs by simp)]
      split
      · omega
      · rfl
    · rw [if_neg h]
      have h2 : ((a, b) ∈ (i, j) :: xs) ↔ (a, b) ∈ xs := by
        rw [List.mem_cons]
        refine ⟨fun h3 => h3.resolve_left (fun e => h ?_), .inr⟩
        injection e with e1 e2
        exact ⟨e1, e2⟩
      by_cases h3 : (a, b) ∈ xs
      · rw [if_pos h3, if_pos (h2.2 h3)]
      · rw [if_neg h3, if_neg (fun h4 => h3 (h2.1 h4))]
theorem pts_at {n : Nat} : ∀ (l : List (List Int)) (m : List Int), m.length = n * n → ∀ a b, a < n → b < n → gM n (l.foldl (layM n) m) a b = l.foldl (fun c p => max c (apV p a b)) (gM n m a b)
  | [], m, _, a, b, _, _ => rfl
  | p :: l, m, hm, a, b, ha, hb => by
    rw [List.foldl_cons, List.foldl_cons, pts_at l _ (by rw [layM_len]; exact hm) a b ha hb]
    have e : gM n (layM n m p) a b = max (gM n m a b) (apV p a b) := by
      have h := lay_at p (allP n) m hm (fun x hx => allP_lt hx) a b ha hb
      rw [if_pos (mem_allP ha hb)] at h
      exact h
    rw [e]
theorem ptsM_at {n : Nat} (l : List (List Int)) (a b : Nat) (ha : a < n) (hb : b < n) : gM n (ptsM n l) a b = bestV l a b := by
  unfold ptsM bestV
  rw [pts_at l _ (by simp) a b ha hb]
  congr 1
  unfold gM
  rw [List.getD_eq_getElem?_getD, List.getElem?_replicate, if_pos (cell_lt ha hb)]; rfl
def rp1 (n : Nat) (l : List (List Int)) (i : Nat) (m : List Int) (j : Nat) : List Int := if i = j then m else sM n m i j (bestV l i j)
def rpR (n : Nat) (l : List (List Int)) (i t : Nat) (m : List Int) : List Int := forN t (rp1 n l i) m
def rpI (n : Nat) (l : List (List Int)) (t : Nat) : List Int := forN t (fun m i => rpR n l i n m) (topM n)
theorem rpR_len (n : Nat) (l : List (List Int)) (i t : Nat) (m : List Int) : (rpR n l i t m).length = m.length := forN_keep (P := fun (k : List Int) => k.length = m.length) rfl fun j k _ h => by unfold rp1; split <;> simp [sM_len, h]
theorem rpI_len (n : Nat) (l : List (List Int)) (t : Nat) : (rpI n l t).length = n * n := forN_keep (P := fun (k : List Int) => k.length = n * n) (topM_len n) fun i k _ h => by rw [rpR_len]; exact h
theorem rpI_at {n t : Nat} (l : List (List Int)) (ht : t ≤ n) : ∀ a b, a < n → b < n → gM n (rpI n l t) a b = if a < t ∧ a ≠ b then bestV l a b else gM n (topM n) a b := by
  have h := forN_ind (n := t) (f := fun m i => rpR n l i n m) (s := topM n) (P := fun t m => m.length = n * n ∧ ∀ a b, a < n → b < n → gM n m a b = if a < t ∧ a ≠ b then bestV l a b else gM n (topM n) a b)
    ⟨topM_len n, fun a b ha hb => by rw [if_neg (by omega)]⟩
    (fun i m hi ⟨hl, hm⟩ => by
      have h2 := forN_ind (n := n) (f := rp1 n l i) (s := m) (P := fun j k => k.length = n * n ∧ ∀ a b, a < n → b < n → gM n k a b = if (a < i ∨ (a = i ∧ b < j)) ∧ a ≠ b then bestV l a b else gM n (topM n) a b)
        ⟨hl, fun a b ha hb => by
          rw [hm a b ha hb]
          by_cases h1 : a < i ∧ a ≠ b
          · rw [if_pos h1, if_pos (by omega)]
          · rw [if_neg h1, if_neg (by omega)]⟩
        (fun j k hj ⟨hk, hkm⟩ => by
          unfold rp1
          by_cases hij : i = j
          · rw [if_pos hij]
            refine ⟨hk, fun a b ha hb => ?_⟩
            rw [hkm a b ha hb]
            by_cases h1 : (a < i ∨ (a = i ∧ b < j)) ∧ a ≠ b
            · rw [if_pos h1, if_pos (by omega)]
            · rw [if_neg h1, if_neg (by omega)]
          · rw [if_neg hij]
            refine ⟨by rw [sM_len]; exact hk, fun a b ha hb => ?_⟩
            rw [gM_sM hk (by omega) hj hb]
            by_cases h0 : a = i ∧ b = j
            · obtain ⟨rfl, rfl⟩ := h0
              rw [if_pos ⟨rfl, rfl⟩, if_pos (by omega)]
            · rw [if_neg h0, hkm a b ha hb]
              by_cases h1 : (a < i ∨ (a = i ∧ b < j)) ∧ a ≠ b
              · rw [if_pos h1, if_pos (by omega)]
              · rw [if_neg h1, if_neg (by omega)])
      refine ⟨h2.1, fun a b ha hb => ?_⟩
      show gM n (forN n (rp1 n l i) m) a b = _
      rw [h2.2 a b ha hb]
      by_cases h1 : (a < i ∨ (a = i ∧ b < n)) ∧ a ≠ b
      · rw [if_pos h1, if_pos (by omega)]
      · rw [if_neg h1, if_neg (by omega)])
  exact h.2
theorem rp_pts (n : Nat) (l : List (List Int)) (hl : l.length ≠ 0) : rpI n l n = ptsM n l := gM_ext (rpI_len n l n) (ptsM_len n l) fun a b ha hb => by
  rw [rpI_at l (Nat.le_refl n) a b ha hb, ptsM_at l a b ha hb]
  by_cases h : a = b
  · subst h
    rw [if_neg (by omega), bestV_diag l a hl, show topM n = topI n n from rfl, topI_at (Nat.le_refl n) a a ha hb, if_pos ⟨rfl, ha⟩]
  · rw [if_pos ⟨ha, h⟩]
end Go.Proofs.Ythnefcafhpioaaa
