/-
  Plain: layer 8's families: what their programs come to.
-/
import Derived.Test.YtbodbbdofoeclaaQFamB

namespace Go.Proofs.Ytbodbbdofoeclaa
open Go Go.RowKit Go.Maps

theorem fault_of {ds ss : List Nd} (hlim : (progT ds ss).lim = 0) (hall : ∀ y ∈ allL (ds ++ ss), wellN y = true ∧ namelessB y = false) : faultT (progT ds ss) = 0 := by
  unfold faultT
  rw [if_neg (by simpa using hlim), progT_list hlim]
  rw [if_neg (by simp only [List.any_eq_true, not_exists, not_and]; intro y hy; simp [(hall y hy).1]), if_neg (by simp only [List.any_eq_true, not_exists, not_and]; intro y hy; simp [(hall y hy).2])]
theorem well_of {ds ss : List Nd} (h1 : faultT (progT ds ss) = 0) (h2 : (declW [] ds).2 = 0) (h3 : (badU (lookL ds) (usesL ss)).2 = 0) : (wellP ds ss).2 = 0 := by
  unfold wellP
  rw [if_neg (by simpa using h1), if_neg (by simpa using h2)]
  exact h3
theorem runF_of {ds ss : List Nd} {script : List Int} {k : Int} (h : (wellP ds ss).2 = 0) (hk : 0 ≤ k ∧ k ≤ 65536) (hs : script.length ≤ 65536) : runF ds ss script k = 0 := by
  unfold runF
  rw [if_neg (by simpa using h), if_neg (by omega)]
theorem well_num {n : Int} (h : 0 ≤ n) : wellN (kE 1 n e0 []) = true := by
  show wellE 1 n e0 0 = true
  unfold wellE kindE ownE argsE
  by_cases h0 : n = 0
  · subst h0; decide +kernel
  · have : 0 < n := by omega
    simp [this, e0]
theorem less_num {n : Int} : namelessB (kE 1 n e0 []) = false := rfl
def numL (n : Int) : List Nd := if n < 0 then [kE 5 0 e0 [kE 1 (-n) e0 []], kE 1 (-n) e0 []] else [kE 1 n e0 []]
theorem all_num (n : Int) : allN (numE n) = numL n := by unfold numE numL; split <;> rfl
theorem uses_num (n : Int) : usesN (numE n) = [] := by unfold numE; split <;> rfl
theorem num_good (n : Int) : ∀ y ∈ numL n, wellN y = true ∧ namelessB y = false := by
  intro y hy
  unfold numL at hy
  split at hy
  · rename_i h
    simp only [List.mem_cons, List.not_mem_nil, or_false] at hy
    rcases hy with rfl | rfl
    · exact ⟨by show wellE 5 0 e0 1 = true; decide +kernel, rfl⟩
    · exact ⟨well_num (by omega), rfl⟩
  · rename_i h
    simp only [List.mem_cons, List.not_mem_nil, or_false] at hy
    subst hy
    exact ⟨well_num (by omega), rfl⟩
theorem val_num (E : Rv) (n : Int) (s : Rn) : valN E (numE n) s = .go n s := by
  unfold numE
  split
  · show Res.go (-(-n)) s = _
    rw [Int.neg_neg]
  · rfl
theorem bar_num (n : Int) : barN (numE n) = true := by unfold numE; split <;> rfl
theorem val_two (E : Rv) (k : Int) (hk : 6 ≤ k) (x y : Nd) (s : Rn) : valN E (twoE k x y) s = (valN E x s).bind fun a s => (valN E y s).bind fun b s => doK E k a b s := by
  have hc : conK k 0 [x, y] = none := by
    show (if k = 1 then some 0 else if k = 5 ∧ kindN x = 1 then some (-(numN x)) else none) = none
    rw [if_neg (by omega), if_neg (by omega)]
  show valK E k e0 (conK k 0 [x, y]) (valL E [x, y]) s = _
  rw [hc, val_op E k e0 _ s (by omega) 2 (fun h => by omega) (fun _ => rfl), argR_two]
  show ((valN E x s).bind _).bind _ = _
  cases valN E x s with
  | stop a b s' => rfl
  | go a s' =>
    show ((valN E y s').bind _).bind _ = (valN E y s').bind _
    cases valN E y s' <;> rfl
theorem bar_two (k : Int) (hk : 6 ≤ k) (x y : Nd) : barN (twoE k x y) = false := by
  show ((conK k 0 [x, y]).isSome || decide (k = 2)) = false
  have hc : conK k 0 [x, y] = none := by
    show (if k = 1 then some 0 else if k = 5 ∧ kindN x = 1 then some (-(numN x)) else none) = none
    rw [if_neg (by omega), if_neg (by omega)]
  rw [hc]
  simp
  omega
theorem st_give (E : Rv) (nm : ByteArray) (x : Nd) (s : Rn) : stN E (giveS nm x) s = asgR E nm x s := rfl
theorem stL_one (E : Rv) (x : Nd) (s : Rn) : stL E [x] s = stN E x s := by
  rw [stL_cons]
  cases h : stN E x s with
  | stop a b s' => rfl
  | go u s' => unfold stL; rfl
theorem pl_x : plW [oneD] xS = 0 := by kernel_rfl
theorem putV_x (m : Nat) (v : Int) (s : Rn) : putV ⟨plW [oneD], m⟩ xS v s = { s with vars := s.vars.set 0 v } := by
  show { s with vars := s.vars.set (plW [oneD] xS) v } = _
  rw [pl_x]
/-- A program of one operation. -/
def doS (k a b : Int) : List Nd := [giveS xS (twoE k (numE a) (numE b))]
theorem do_all (k a b : Int) : allL ([oneD] ++ doS k a b) = [oneD, giveS xS (twoE k (numE a) (numE b)), twoE k (numE a) (numE b)] ++ (numL a ++ numL b) := by
  rw [← all_num, ← all_num]
  show allN oneD ++ (allN (giveS xS (twoE k (numE a) (numE b))) ++ allL []) = _
  simp [allN, allL, oneD, giveS, twoE, kE]
theorem do_uses (k a b : Int) (hk : 6 ≤ k) : usesL (doS k a b) = [(xS, false)] := by
  show usesN (giveS xS (twoE k (numE a) (numE b))) ++ usesL [] = _
  have e : usesN (twoE k (numE a) (numE b)) = [] := by
    show headU e0 (k == 2) (k == 4) ++ usesL [numE a, numE b] = []
    have h2 : (k == 2) = false := by simp; omega
    have h4 : (k == 4) = false := by simp; omega
    rw [h2, h4]
    simp [headU, usesL, uses_num]
  show (headU xS true false ++ (usesL [] ++ (usesL [twoE k (numE a) (numE b)] ++ (usesL [] ++ usesL [])))) ++ usesL [] = _
  simp [usesL, e, headU]
theorem do_lim (k a b : Int) : (progT [oneD] (doS k a b)).lim = 0 := by
  unfold doS numE
  split <;> split <;> kernel_rfl
theorem do_runF (k a b : Int) (hk : 6 ≤ k ∧ k ≤ 10) : runF [oneD] (doS k a b) [] 10 = 0 := by
  refine runF_of (well_of (fault_of (do_lim k a b) ?_) (by decide +kernel) ?_) (by omega) (by simp)
  · rw [do_all]
    intro y hy
    rcases List.mem_append.1 hy with hy | hy
    · simp only [List.mem_cons, List.not_mem_nil, or_false] at hy
      rcases hy with rfl | rfl | rfl
      · exact ⟨by decide +kernel, by decide +kernel⟩
      · exact ⟨by show wellS 1 xS 1 0 0 0 = true; decide +kernel, by kernel_rfl⟩
      · refine ⟨?_, ?_⟩
        · show wellE k 0 e0 2 = true
          have hc : k = 6 ∨ k = 7 ∨ k = 8 ∨ k = 9 ∨ k = 10 := by omega
          rcases hc with rfl | rfl | rfl | rfl | rfl <;> decide +kernel
        · have hc : k = 6 ∨ k = 7 ∨ k = 8 ∨ k = 9 ∨ k = 10 := by omega
          rcases hc with rfl | rfl | rfl | rfl | rfl <;> rfl
    · rcases List.mem_append.1 hy with hy | hy
      · exact num_good a y hy
      · exact num_good b y hy
  · rw [do_uses k a b hk.1]
    decide +kernel
theorem do_runO (k a b : Int) (hk : 6 ≤ k ∧ k ≤ 10) : runO [oneD] (doS k a b) [] 10 = if (numK k a b).2 = 0 then (2, 0, ⟨[(numK k a b).1], [], [], 1, []⟩) else (3, (numK k a b).2, ⟨[0], [], [], 1, []⟩) := by
  have hs : runS [oneD] [] = ⟨[0], [], [], 0, []⟩ := by kernel_rfl
  unfold runO
  rw [hs]
  show outR (stL ⟨plW [oneD], 10⟩ [giveS xS (twoE k (numE a) (numE b))] _) = _
  rw [stL_one, st_give]
  unfold asgR
  rw [val_two _ k hk.1, val_num, bar_two k hk.1]
  show outR (Res.bind (Res.bind (valN _ (numE b) _) _) _) = _
  rw [val_num]
  show outR (Res.bind (doK ⟨plW [oneD], 10⟩ k a b ⟨[0], [], [], 0, []⟩) _) = _
  unfold doK stepR
  rw [if_neg (by decide)]
  show outR (Res.bind (if _ then _ else _) _) = _
  by_cases hz : (numK k a b).2 = 0
  · rw [if_pos hz, if_pos hz]
    show outR (.go () (putV ⟨plW [oneD], 10⟩ xS _ _)) = _
    rw [putV_x]
    rfl
  · rw [if_neg hz, if_neg hz]
    rfl
end Go.Proofs.Ytbodbbdofoeclaa
