/-
  Plain: a loop that counts up: where it stands, cut short and whole.
-/
import Derived.Test.YtbodbbdofoeclaaQFamP

namespace Go.Proofs.Ytbodbbdofoeclaa
open Go Go.RowKit Go.Maps

def whileS (c : Nd) (ts : List Nd) : Nd := .mk .S 4 0 e0 [] [c] ts []
def lpC (n : Int) : Nd := cmpC 1 (varE xS) (numE n)
def lpB : List Nd := [giveS xS (twoE 6 (varE xS) (numE 1))]
def lpS (n : Int) : List Nd := [whileS (lpC n) lpB]
theorem bind_go {α β : Type} (a : α) (s : Rn) (f : α → Rn → Res β) : (Res.go a s).bind f = f a s := rfl
theorem val_x (m : Nat) (x : Int) (a : List (List Int)) (e : List (Bool × Int × Bool)) (t : Nat) (l : List Int) : valN ⟨plW [oneD], m⟩ (varE xS) ⟨[x], a, e, t, l⟩ = .go x ⟨[x], a, e, t, l⟩ := by
  show Res.go ([x].getD (plW [oneD] xS) 0) _ = _
  rw [pl_x]
  rfl
theorem lp_cond (m : Nat) (n x : Int) (t : Nat) : hldN ⟨plW [oneD], m⟩ (lpC n) ⟨[x], [], [], t, []⟩ = (stepR ⟨plW [oneD], m⟩ ⟨[x], [], [], t, []⟩).bind fun _ s => .go (cmpB 1 x n) s := by
  show (valN _ (varE xS) _).bind (fun a s => (valN _ (numE n) s).bind fun b s => (stepR _ s).bind fun _ s => .go (cmpB 1 a b) s) = _
  rw [val_x]
  show (valN _ (numE n) _).bind _ = _
  rw [val_num]
  rfl
theorem lp_body (m : Nat) (x : Int) (t : Nat) (hx : fitsI (x + 1)) : stL ⟨plW [oneD], m⟩ lpB ⟨[x], [], [], t, []⟩ = (stepR ⟨plW [oneD], m⟩ ⟨[x], [], [], t, []⟩).bind fun _ s => .go () { s with vars := s.vars.set 0 (x + 1) } := by
  unfold lpB
  rw [stL_one, st_give]
  unfold asgR
  rw [val_two _ 6 (by decide), val_x, bar_two 6 (by decide), bind_go, val_num, bind_go]
  show Res.bind (doK ⟨plW [oneD], m⟩ 6 x 1 ⟨[x], [], [], t, []⟩) _ = _
  unfold doK
  have hz : (numK 6 x 1).2 = 0 := by
    show (numT (x + 1)).2 = 0
    unfold numT
    rw [if_pos hx]
  have hv : (numK 6 x 1).1 = x + 1 := by
    show (numT (x + 1)).1 = _
    unfold numT
    rw [if_pos hx]
  cases hst : stepR ⟨plW [oneD], m⟩ ⟨[x], [], [], t, []⟩ with
  | stop a b s' => rfl
  | go u s' =>
    show Res.bind (if (numK 6 x 1).2 = 0 then Res.go (numK 6 x 1).1 s' else .stop 3 (numK 6 x 1).2 s') _ = _
    rw [if_pos hz, hv]
    show Res.go () (putV ⟨plW [oneD], m⟩ xS (x + 1) s') = _
    rw [putV_x]
    rfl
def lpFin (k n : Nat) : Int × Int × Rn := if 2 * n + 1 ≤ k then (2, 0, ⟨[(n : Int)], [], [], 2 * n + 1, []⟩) else (1, 0, ⟨[((k / 2 : Nat) : Int)], [], [], k, []⟩)
theorem step_no (m t : Nat) (x : Int) (h : t = m) : stepR ⟨plW [oneD], m⟩ ⟨[x], [], [], t, []⟩ = .stop 1 0 ⟨[x], [], [], t, []⟩ := by
  unfold stepR
  rw [if_pos h]
theorem step_yes (m t : Nat) (x : Int) (h : t ≠ m) : stepR ⟨plW [oneD], m⟩ ⟨[x], [], [], t, []⟩ = .go () ⟨[x], [], [], t + 1, []⟩ := by
  unfold stepR
  rw [if_neg h]
theorem lp_loop (k n : Nat) (hn : n ≤ 500) : ∀ (f j : Nat), j ≤ n → 2 * j ≤ k → k < f + 2 * j → outR (loopR (hldN ⟨plW [oneD], k⟩ (lpC n)) (stL ⟨plW [oneD], k⟩ lpB) f ⟨[(j : Int)], [], [], 2 * j, []⟩) = lpFin k n
  | 0, j, _, h2, h3 => by omega
  | f + 1, j, h1, h2, h3 => by
    rw [loopR_succ, lp_cond]
    by_cases hk : 2 * j = k
    · rw [step_no _ _ _ hk]
      show (1, 0, (⟨[(j : Int)], [], [], 2 * j, []⟩ : Rn)) = _
      unfold lpFin
      rw [if_neg (by omega), hk, show k / 2 = j by omega]
    · rw [step_yes _ _ _ hk]
      show outR (if cmpB 1 (j : Int) (n : Int) = true then _ else _) = _
      have hc : cmpB 1 (j : Int) (n : Int) = decide ((j : Int) < (n : Int)) := rfl
      rw [hc]
      by_cases hj : j < n
      · have hd : decide ((j : Int) < (n : Int)) = true := by simp; omega
        rw [hd]
        simp only [if_true]
        rw [lp_body _ _ _ (by unfold fitsI; omega)]
        by_cases hk2 : 2 * j + 1 = k
        · rw [step_no _ _ _ hk2]
          show (1, 0, (⟨[(j : Int)], [], [], 2 * j + 1, []⟩ : Rn)) = _
          unfold lpFin
          rw [if_neg (by omega), hk2, show k / 2 = j by omega]
        · rw [step_yes _ _ _ hk2]
          show outR (loopR _ _ f ⟨[(j : Int) + 1], [], [], 2 * j + 1 + 1, []⟩) = _
          have e := lp_loop k n hn f (j + 1) (by omega) (by omega) (by omega)
          rw [show (((j + 1 : Nat)) : Int) = (j : Int) + 1 by omega, show 2 * (j + 1) = 2 * j + 1 + 1 by omega] at e
          exact e
      · obtain rfl : j = n := by omega
        have hd : decide ((j : Int) < (j : Int)) = false := by simp
        rw [hd]
        show (2, 0, (⟨[(j : Int)], [], [], 2 * j + 1, []⟩ : Rn)) = _
        unfold lpFin
        rw [if_pos (by omega)]
theorem lp_runO (k n : Nat) (hn : n ≤ 500) : runO [oneD] (lpS n) [] k = lpFin k n := by
  have hs : runS [oneD] [] = ⟨[0], [], [], 0, []⟩ := by kernel_rfl
  unfold runO
  rw [hs]
  unfold lpS
  rw [stL_one]
  show outR (loopR (hldN ⟨plW [oneD], ((k : Int)).toNat⟩ (lpC n)) (stL ⟨plW [oneD], ((k : Int)).toNat⟩ lpB) (((k : Int)).toNat + 1 - 0) ⟨[0], [], [], 0, []⟩) = _
  rw [show ((k : Int)).toNat = k by omega]
  exact lp_loop k n hn (k + 1) 0 (by omega) (by omega) (by omega)
theorem lp_runF (k n : Nat) (hk : k ≤ 2000) : runF [oneD] (lpS n) [] k = 0 := by
  have hnum : numE (n : Int) = kE 1 n e0 [] := by unfold numE; rw [if_neg (by omega)]
  have h1 : numE 1 = kE 1 1 e0 [] := rfl
  refine runF_of (well_of (fault_of (by unfold lpS lpC; rw [hnum]; kernel_rfl) ?_) (by decide +kernel) ?_) (by omega) (by simp)
  · have e : allL ([oneD] ++ lpS n) = [oneD, whileS (lpC n) lpB, lpC n, varE xS, kE 1 n e0 [], giveS xS (twoE 6 (varE xS) (kE 1 1 e0 [])), twoE 6 (varE xS) (kE 1 1 e0 []), varE xS, kE 1 1 e0 []] := by
      unfold lpS lpC
      rw [hnum]
      rfl
    rw [e]
    intro y hy
    simp only [List.mem_cons, List.not_mem_nil, or_false] at hy
    rcases hy with rfl | rfl | rfl | rfl | rfl | rfl | rfl | rfl | rfl
    · exact ⟨by decide +kernel, by decide +kernel⟩
    · exact ⟨by show wellS 4 e0 0 1 1 0 = true; decide +kernel, by kernel_rfl⟩
    · exact ⟨by show wellC 3 1 2 0 = true; decide +kernel, by kernel_rfl⟩
    · exact ⟨by decide +kernel, by decide +kernel⟩
    · exact ⟨well_num (by omega), rfl⟩
    · exact ⟨by decide +kernel, by decide +kernel⟩
    · exact ⟨by decide +kernel, by decide +kernel⟩
    · exact ⟨by decide +kernel, by decide +kernel⟩
    · exact ⟨by decide +kernel, by decide +kernel⟩
  · have e : usesL (lpS n) = [(xS, false), (xS, false), (xS, false)] := by
      unfold lpS lpC
      rw [hnum]
      rfl
    rw [e]
    decide +kernel
end Go.Proofs.Ytbodbbdofoeclaa
