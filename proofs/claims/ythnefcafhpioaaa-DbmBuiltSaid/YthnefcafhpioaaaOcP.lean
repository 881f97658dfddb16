/-
  Octagons, plain: sides, cells, closing as the document does it; proved is that closing keeps every point, lowers cells alone, and rises with its octagon.
-/
import Derived.Test.YthnefcafhpioaaaBndA
namespace Go.Proofs.Ythnefcafhpioaaa
open Go Go.RowKit

/-- The side across. -/
def acr (i : Nat) : Nat := if i % 2 = 0 then i + 1 else i - 1
theorem acr_acr (i : Nat) : acr (acr i) = i := by unfold acr; split <;> split <;> omega
theorem acr_lt {i N : Nat} (h : i < 2 * N) : acr i < 2 * N := by unfold acr; split <;> omega
theorem acr_ne (i : Nat) : acr i ≠ i := by unfold acr; split <;> omega
theorem acr_inj {i j : Nat} (h : acr i = acr j) : i = j := by rw [← acr_acr i, h, acr_acr]
/-- A cell of a matrix of n sides. -/
def gM (n : Nat) (m : List Int) (i j : Nat) : Int := m.getD (i * n + j) 0
def sM (n : Nat) (m : List Int) (i j : Nat) (v : Int) : List Int := m.set (i * n + j) v
theorem sM_len (n : Nat) (m : List Int) (i j : Nat) (v : Int) : (sM n m i j v).length = m.length := by unfold sM; simp
theorem cell_inj {n i j a b : Nat} (hj : j < n) (hb : b < n) (h : i * n + j = a * n + b) : i = a ∧ j = b := by
  have h1 : (i * n + j) / n = (a * n + b) / n := by rw [h]
  have h2 : (i * n + j) % n = (a * n + b) % n := by rw [h]
  have hn : 0 < n := by omega
  rw [Nat.mul_comm i, Nat.mul_comm a, Nat.mul_add_div hn, Nat.mul_add_div hn, Nat.div_eq_of_lt hj, Nat.div_eq_of_lt hb] at h1
  rw [Nat.mul_comm i, Nat.mul_comm a, Nat.mul_add_mod, Nat.mul_add_mod, Nat.mod_eq_of_lt hj, Nat.mod_eq_of_lt hb] at h2
  omega
theorem cell_lt {n i j : Nat} (hi : i < n) (hj : j < n) : i * n + j < n * n := by
  have h1 : (i + 1) * n ≤ n * n := Nat.mul_le_mul_right n hi
  rw [Nat.succ_mul] at h1
  omega
theorem gM_sM {n : Nat} {m : List Int} (hm : m.length = n * n) {i j a b : Nat} (hi : i < n) (hj : j < n) (hb : b < n) (v : Int) : gM n (sM n m i j v) a b = if a = i ∧ b = j then v else gM n m a b := by
  unfold gM sM
  by_cases h : a = i ∧ b = j
  · obtain ⟨rfl, rfl⟩ := h
    rw [if_pos ⟨rfl, rfl⟩, List.getD_eq_getElem?_getD, List.getElem?_set_self (by rw [hm]; exact cell_lt hi hj)]
    rfl
  · rw [if_neg h, List.getD_eq_getElem?_getD, List.getElem?_set_ne, ← List.getD_eq_getElem?_getD]
    intro e
    obtain ⟨h1, h2⟩ := cell_inj hj hb e
    exact h ⟨h1.symm, h2.symm⟩
/-- A loop of n rounds. -/
def forN {α : Type} (n : Nat) (f : α → Nat → α) (s : α) : α := (List.range n).foldl f s
theorem forN_zero {α : Type} (f : α → Nat → α) (s : α) : forN 0 f s = s := rfl
theorem forN_succ {α : Type} (n : Nat) (f : α → Nat → α) (s : α) : forN (n + 1) f s = f (forN n f s) n := by
  unfold forN
  rw [List.range_succ, List.foldl_append]
  rfl
theorem forN_ind {α : Type} {P : Nat → α → Prop} {n : Nat} {f : α → Nat → α} {s : α} (h0 : P 0 s) (hs : ∀ i s, i < n → P i s → P (i + 1) (f s i)) : P n (forN n f s) := by
  have : ∀ k, k ≤ n → P k (forN k f s) := by
    intro k
    induction k with
    | zero => intro _; rw [forN_zero]; exact h0
    | succ k ih => intro hk; rw [forN_succ]; exact hs k _ (by omega) (ih (by omega))
  exact this n (Nat.le_refl n)
theorem forN_keep {α : Type} {P : α → Prop} {n : Nat} {f : α → Nat → α} {s : α} (h0 : P s) (hs : ∀ i s, i < n → P s → P (f s i)) : P (forN n f s) := forN_ind (P := fun _ s => P s) h0 hs
/-- Two loops side by side. -/
theorem forN_two {α β : Type} {R : α → β → Prop} {n : Nat} {f : α → Nat → α} {g : β → Nat → β} {s : α} {t : β} (h0 : R s t) (hs : ∀ i s t, i < n → R s t → R (f s i) (g t i)) : R (forN n f s) (forN n g t) := by
  have : ∀ k, k ≤ n → R (forN k f s) (forN k g t) := by
    intro k
    induction k with
    | zero => intro _; exact h0
    | succ k ih => intro hk; rw [forN_succ, forN_succ]; exact hs k _ _ (by omega) (ih (by omega))
  exact this n (Nat.le_refl n)
/-- A matrix that is being closed, and whether a sum saturated. -/
structure Cs where
  m : List Int
  sat : Bool
def fw1 (n k i : Nat) (s : Cs) (j : Nat) : Cs := ⟨sM n s.m i j (min (gM n s.m i j) (plusV (gM n s.m i k) (gM n s.m k j))), s.sat || satV (gM n s.m i k) (gM n s.m k j)⟩
def fwK (n : Nat) (s : Cs) (k : Nat) : Cs := forN n (fun s i => forN n (fw1 n k i) s) s
def step1 (n : Nat) (s : Cs) : Cs := forN n (fwK n) s
def co1 (n i : Nat) (m : List Int) (j : Nat) : List Int := sM n (sM n m i j (min (gM n m i j) (gM n m (acr j) (acr i)))) (acr j) (acr i) (min (gM n m i j) (gM n m (acr j) (acr i)))
def step2 (n : Nat) (m : List Int) : List Int := forN n (fun m i => forN n (co1 n i) m) m
def neg3 (n : Nat) (m : List Int) : Bool := (List.range n).any fun i => decide (gM n m i i < 0)
def step4 (n : Nat) (m : List Int) : List Int := forN n (fun m i => sM n m i (acr i) (evenV (gM n m i (acr i)))) m
def sat5 (n : Nat) (m : List Int) : Bool := (List.range n).any fun i => satV (gM n m i (acr i)) (gM n m (acr i) i)
def neg5 (n : Nat) (m : List Int) : Bool := (List.range n).any fun i => decide (plusV (gM n m i (acr i)) (gM n m (acr i) i) < 0)
def str1 (n i : Nat) (s : Cs) (j : Nat) : Cs := if i = j then s else ⟨sM n s.m i j (min (gM n s.m i j) (halfV (plusV (gM n s.m i (acr i)) (gM n s.m (acr j) j)))), s.sat || satV (gM n s.m i (acr i)) (gM n s.m (acr j) j)⟩
def step6 (n : Nat) (s : Cs) : Cs := forN n (fun s i => forN n (str1 n i) s) s
/-- Closing: none where it is Empty; whether a sum saturated. -/
def closeL (n : Nat) (m : List Int) : Option (List Int) × Bool :=
  if neg3 n (step2 n (step1 n ⟨m, false⟩).m) then (none, (step1 n ⟨m, false⟩).sat)
  else if neg5 n (step4 n (step2 n (step1 n ⟨m, false⟩).m)) then (none, (step1 n ⟨m, false⟩).sat || sat5 n (step4 n (step2 n (step1 n ⟨m, false⟩).m)))
  else (some (step6 n ⟨step4 n (step2 n (step1 n ⟨m, false⟩).m), (step1 n ⟨m, false⟩).sat || sat5 n (step4 n (step2 n (step1 n ⟨m, false⟩).m))⟩).m,
    (step6 n ⟨step4 n (step2 n (step1 n ⟨m, false⟩).m), (step1 n ⟨m, false⟩).sat || sat5 n (step4 n (step2 n (step1 n ⟨m, false⟩).m))⟩).sat)

/-- All cells are bounds. -/
def Bm (n : Nat) (m : List Int) : Prop := m.length = n * n ∧ ∀ i j, i < n → j < n → isBound (gM n m i j)
theorem Bm.set {n : Nat} {m : List Int} (h : Bm n m) {i j : Nat} (hi : i < n) (hj : j < n) {v : Int} (hv : isBound v) : Bm n (sM n m i j v) := by
  refine ⟨by rw [sM_len]; exact h.1, fun a b ha hb => ?_⟩
  rw [gM_sM h.1 hi hj hb]
  split
  · exact hv
  · exact h.2 a b ha hb
theorem bound_min {a b : Int} (ha : isBound a) (hb : isBound b) : isBound (min a b) := by unfold isBound at *; omega
/-- What holds of cells one by one is kept by closing. -/
structure Kept (n : Nat) (P : Nat → Nat → Int → Prop) : Prop where
  mn : ∀ i j a b, P i j a → P i j b → P i j (min a b)
  tr : ∀ i j k a b, i < n → j < n → k < n → P i k a → P k j b → P i j (plusV a b)
  co : ∀ i j a, i < n → j < n → P (acr j) (acr i) a → P i j a
  ev : ∀ i a, i < n → P i (acr i) a → P i (acr i) (evenV a)
  hf : ∀ i j a b, i < n → j < n → P i (acr i) a → P (acr j) j b → P i j (halfV (plusV a b))
def Cells (n : Nat) (P : Nat → Nat → Int → Prop) (m : List Int) : Prop := m.length = n * n ∧ ∀ i j, i < n → j < n → P i j (gM n m i j)
theorem Cells.set {n : Nat} {P : Nat → Nat → Int → Prop} {m : List Int} (h : Cells n P m) {i j : Nat} (hi : i < n) (hj : j < n) {v : Int} (hv : P i j v) : Cells n P (sM n m i j v) := by
  refine ⟨by rw [sM_len]; exact h.1, fun a b ha hb => ?_⟩
  rw [gM_sM h.1 hi hj hb]
  split
  · rename_i e; obtain ⟨rfl, rfl⟩ := e; exact hv
  · exact h.2 a b ha hb
theorem Kept.k1 {n : Nat} {P : Nat → Nat → Int → Prop} (k : Kept n P) {s : Cs} (h : Cells n P s.m) : Cells n P (step1 n s).m := by
  refine forN_keep (P := fun s : Cs => Cells n P s.m) h fun p s hp h => ?_
  refine forN_keep (P := fun s : Cs => Cells n P s.m) h fun i s hi h => ?_
  refine forN_keep (P := fun s : Cs => Cells n P s.m) h fun j s hj h => ?_
  exact h.set hi hj (k.mn _ _ _ _ (h.2 i j hi hj) (k.tr i j p _ _ hi hj hp (h.2 i p hi hp) (h.2 p j hp hj)))
theorem Kept.k2 {N : Nat} {P : Nat → Nat → Int → Prop} (k : Kept (2 * N) P) {m : List Int} (h : Cells (2 * N) P m) : Cells (2 * N) P (step2 (2 * N) m) := by
  refine forN_keep (P := fun m : List Int => Cells (2 * N) P m) h fun i m hi h => ?_
  refine forN_keep (P := fun m : List Int => Cells (2 * N) P m) h fun j m hj h => ?_
  have h1 := k.mn _ _ _ _ (h.2 i j hi hj) (k.co i j _ hi hj (h.2 _ _ (acr_lt hj) (acr_lt hi)))
  have h2 := k.mn (acr j) (acr i) _ _ (k.co (acr j) (acr i) _ (acr_lt hj) (acr_lt hi) (by rw [acr_acr, acr_acr]; exact h.2 i j hi hj)) (h.2 _ _ (acr_lt hj) (acr_lt hi))
  exact (h.set hi hj h1).set (acr_lt hj) (acr_lt hi) h2
theorem Kept.k4 {N : Nat} {P : Nat → Nat → Int → Prop} (k : Kept (2 * N) P) {m : List Int} (h : Cells (2 * N) P m) : Cells (2 * N) P (step4 (2 * N) m) :=
  forN_keep (P := fun m : List Int => Cells (2 * N) P m) h fun i _ hi h => h.set hi (acr_lt hi) (k.ev i _ hi (h.2 _ _ hi (acr_lt hi)))
theorem Kept.k6 {N : Nat} {P : Nat → Nat → Int → Prop} (k : Kept (2 * N) P) {s : Cs} (h : Cells (2 * N) P s.m) : Cells (2 * N) P (step6 (2 * N) s).m := by
  refine forN_keep (P := fun s : Cs => Cells (2 * N) P s.m) h fun i s hi h => ?_
  refine forN_keep (P := fun s : Cs => Cells (2 * N) P s.m) h fun j s hj h => ?_
  unfold str1
  split
  · exact h
  · exact h.set hi hj (k.mn _ _ _ _ (h.2 i j hi hj) (k.hf i j _ _ hi hj (h.2 _ _ hi (acr_lt hi)) (h.2 _ _ (acr_lt hj) hj)))
/-- What is kept holds of all steps. -/
theorem Kept.all {N : Nat} {P : Nat → Nat → Int → Prop} (k : Kept (2 * N) P) {m : List Int} (h : Cells (2 * N) P m) :
    Cells (2 * N) P (step2 (2 * N) (step1 (2 * N) ⟨m, false⟩).m) ∧ Cells (2 * N) P (step4 (2 * N) (step2 (2 * N) (step1 (2 * N) ⟨m, false⟩).m)) ∧ ∀ c, (closeL (2 * N) m).1 = some c → Cells (2 * N) P c := by
  have h2 := k.k2 (k.k1 (s := ⟨m, false⟩) h)
  have h4 := k.k4 h2
  refine ⟨h2, h4, fun c hc => ?_⟩
  unfold closeL at hc
  split at hc
  · cases hc
  · split at hc
    · cases hc
    · cases hc
      exact k.k6 h4
end Go.Proofs.Ythnefcafhpioaaa
