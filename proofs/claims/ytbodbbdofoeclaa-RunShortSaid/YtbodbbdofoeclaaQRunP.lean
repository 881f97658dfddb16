/-
  Plain: a run of a tree (values, conditions, statements, loops), as steps go; proved is that steps never go back, that a condition takes one at least, and that a loop's fuel doesn't matter.
-/
import Derived.Test.YtbodbbdofoeclaaQArD
import Derived.Test.YtbodbbdofoeclaaQWellA

namespace Go.Proofs.Ytbodbbdofoeclaa
open Go Go.RowKit

/-- A run as it stands. -/
structure Rn where
  vars : List Int
  arrs : List (List Int)
  evs : List (Bool × Int × Bool)
  steps : Nat
  left : List Int
/-- What a part of a run comes to: it goes on with an answer, or it has ended (status, what is wrong). -/
inductive Res (α : Type) where
  | go (a : α) (s : Rn)
  | stop (st wr : Int) (s : Rn)
def Res.bind {α β : Type} (r : Res α) (f : α → Rn → Res β) : Res β := match r with
  | .go a s => f a s
  | .stop x y s => .stop x y s
def Res.at {α : Type} : Res α → Rn
  | .go _ s => s
  | .stop _ _ s => s
/-- Where names lie, and how many steps may be done. -/
structure Rv where
  pl : ByteArray → Nat
  most : Nat
def stepR (E : Rv) (s : Rn) : Res Unit := if s.steps = E.most then .stop 1 0 s else .go () { s with steps := s.steps + 1 }
def noteR (b : Bool) (n : Int) (h : Bool) (s : Rn) : Rn := { s with evs := s.evs ++ [(b, n, h)] }
def inputR (E : Rv) (s : Rn) : Res Int := match s.left with
  | [] => .stop 2 0 s
  | x :: r => (stepR E s).bind fun _ s => .go x (noteR true x false { s with left := r })
def numT (x : Int) : Int × Int := if fitsI x then (x, 0) else (0, 1)
def numK (k a b : Int) : Int × Int :=
  if k = 5 then numT (-a) else if k = 6 then numT (a + b) else if k = 7 then numT (a - b) else if k = 8 then numT (a * b)
  else if k = 9 then (if b = 0 then (0, 2) else numT (a.tdiv b)) else (if b = 0 then (0, 2) else if a = -9223372036854775808 ∧ b = -1 then (0, 1) else (a.tmod b, 0))
def doK (E : Rv) (k a b : Int) (s : Rn) : Res Int := (stepR E s).bind fun _ s => if (numK k a b).2 = 0 then .go (numK k a b).1 s else .stop 3 (numK k a b).2 s
def itemR (E : Rv) (nm : ByteArray) (i : Int) (s : Rn) : Res Nat := (stepR E s).bind fun _ s => if i < 0 ∨ ((s.arrs.getD (E.pl nm) []).length : Int) ≤ i then .stop 3 3 s else .go i.toNat s
def kindN : Nd → Int | .mk _ k _ _ _ _ _ _ => k
def numN : Nd → Int | .mk _ _ n _ _ _ _ _ => n
/-- The number of a constant. -/
def conK (k n : Int) : List Nd → Option Int
  | [] => if k = 1 then some n else none
  | x :: _ => if k = 1 then some n else if k = 5 ∧ kindN x = 1 then some (-(numN x)) else none
def conN : Nd → Option Int | .mk _ k n _ xs _ _ _ => conK k n xs
def barN (x : Nd) : Bool := (conN x).isSome || decide (kindN x = 2)
def fnR (fs : List (Rn → Res Int)) (i : Nat) : Rn → Res Int := fs.getD i (fun s => .go 0 s)
def hnR (hs : List (Rn → Res Bool)) (i : Nat) : Rn → Res Bool := hs.getD i (fun s => .go false s)
def valK (E : Rv) (k : Int) (nm : ByteArray) (c : Option Int) (fs : List (Rn → Res Int)) (s : Rn) : Res Int := match c with
  | some n => .go n s
  | none => if k = 2 then .go (s.vars.getD (E.pl nm) 0) s else if k = 3 then inputR E s
    else if k = 4 then (fnR fs 0 s).bind fun i s => (itemR E nm i s).bind fun j s => .go ((s.arrs.getD (E.pl nm) []).getD j 0) s
    else if k = 5 then (fnR fs 0 s).bind fun a s => doK E k a 0 s
    else (fnR fs 0 s).bind fun a s => (fnR fs 1 s).bind fun b s => doK E k a b s
mutual
def valN (E : Rv) : Nd → Rn → Res Int
  | .mk _ k n nm xs _ _ _ => valK E k nm (conK k n xs) (valL E xs)
def valL (E : Rv) : List Nd → List (Rn → Res Int)
  | [] => []
  | x :: r => valN E x :: valL E r
end
def hldK (E : Rv) (k n : Int) (fs : List (Rn → Res Int)) (hs : List (Rn → Res Bool)) (s : Rn) : Res Bool :=
  if k = 4 then (hnR hs 0 s).bind fun b s => .go (!b) s
  else if k = 5 then (hnR hs 0 s).bind fun b s => if b then hnR hs 1 s else .go false s
  else if k = 6 then (hnR hs 0 s).bind fun b s => if b then .go true s else hnR hs 1 s
  else if k = 3 then (fnR fs 0 s).bind fun a s => (fnR fs 1 s).bind fun b s => (stepR E s).bind fun _ s => .go (cmpB n a b) s
  else (stepR E s).bind fun _ s => .go (decide (k = 1)) s
mutual
def hldN (E : Rv) : Nd → Rn → Res Bool
  | .mk _ k n _ xs cs _ _ => hldK E k n (valL E xs) (hldL E cs)
def hldL (E : Rv) : List Nd → List (Rn → Res Bool)
  | [] => []
  | x :: r => hldN E x :: hldL E r
end
def loopR (h : Rn → Res Bool) (b : Rn → Res Unit) : Nat → Rn → Res Unit
  | 0, s => .stop 1 0 s
  | n + 1, s => (h s).bind fun c s => if c then (b s).bind fun _ s => loopR h b n s else .go () s
def putV (E : Rv) (nm : ByteArray) (v : Int) (s : Rn) : Rn := { s with vars := s.vars.set (E.pl nm) v }
def putA (E : Rv) (nm : ByteArray) (j : Nat) (v : Int) (s : Rn) : Rn := { s with arrs := s.arrs.set (E.pl nm) ((s.arrs.getD (E.pl nm) []).set j v) }
def barL : List Nd → Bool
  | [] => false
  | x :: _ => barN x
def stK (E : Rv) (k : Int) (nm : ByteArray) (q : Bool) (fs : List (Rn → Res Int)) (hs : List (Rn → Res Bool)) (t e : Rn → Res Unit) (s : Rn) : Res Unit :=
  if k = 1 then (fnR fs 0 s).bind fun v s => (if q then stepR E s else .go () s).bind fun _ s => .go () (putV E nm v s)
  else if k = 2 then (fnR fs 0 s).bind fun i s => (fnR fs 1 s).bind fun v s => (itemR E nm i s).bind fun j s => .go () (putA E nm j v s)
  else if k = 3 then (hnR hs 0 s).bind fun b s => if b then t s else e s
  else if k = 4 then loopR (hnR hs 0) t (E.most + 1 - s.steps) s
  else if k = 5 then (hnR hs 0 s).bind fun b s => (stepR E s).bind fun _ s => if b then .go () (noteR false 0 true s) else .stop 3 4 (noteR false 0 false s)
  else if k = 6 then (hnR hs 0 s).bind fun b s => if b then .go () s else .stop 2 0 s
  else if k = 7 then stepR E s
  else .go () s
mutual
def stN (E : Rv) : Nd → Rn → Res Unit
  | .mk _ k _ nm xs cs ts es => stK E k nm (barL xs) (valL E xs) (hldL E cs) (stL E ts) (stL E es)
def stL (E : Rv) : List Nd → Rn → Res Unit
  | [] => fun s => .go () s
  | x :: r => fun s => (stN E x s).bind fun _ s => stL E r s
end
theorem valL_at (E : Rv) : ∀ (l : List Nd) (i : Nat) (hi : i < l.length), fnR (valL E l) i = valN E l[i]
  | [], i, hi => by simp at hi
  | x :: r, 0, _ => by unfold valL fnR; rfl
  | x :: r, i + 1, hi => by
    have h := valL_at E r i (by simpa using hi)
    unfold valL
    unfold fnR at h ⊢
    simpa using h
theorem hldL_at (E : Rv) : ∀ (l : List Nd) (i : Nat) (hi : i < l.length), hnR (hldL E l) i = hldN E l[i]
  | [], i, hi => by simp at hi
  | x :: r, 0, _ => by unfold hldL hnR; rfl
  | x :: r, i + 1, hi => by
    have h := hldL_at E r i (by simpa using hi)
    unfold hldL
    unfold hnR at h ⊢
    simpa using h

/-- Steps don't go back. -/
def Up {α : Type} (s : Rn) (r : Res α) : Prop := s.steps ≤ r.at.steps
theorem Up.bind {α β : Type} {s : Rn} {r : Res α} {f : α → Rn → Res β} (h : Up s r) (hf : ∀ a s, Up s (f a s)) : Up s (r.bind f) := by
  cases r with
  | go a s' => exact Nat.le_trans h (hf a s')
  | stop x y s' => exact h
theorem up_go {α : Type} (a : α) (s s' : Rn) (h : s'.steps = s.steps) : Up s (.go a s') := Nat.le_of_eq h.symm
theorem up_stop {α : Type} (x y : Int) (s s' : Rn) (h : s'.steps = s.steps) : Up s (.stop x y s' : Res α) := Nat.le_of_eq h.symm
theorem up_ite {α : Type} {s : Rn} {p : Prop} [Decidable p] {a b : Res α} (ha : Up s a) (hb : Up s b) : Up s (if p then a else b) := by split <;> assumption
theorem step_up (E : Rv) (s : Rn) : Up s (stepR E s) := by
  unfold stepR
  split
  · exact Nat.le_refl _
  · exact Nat.le_succ _
theorem input_up (E : Rv) (s : Rn) : Up s (inputR E s) := by
  unfold inputR
  split
  · exact Nat.le_refl _
  · exact (step_up E s).bind fun _ s => up_go _ _ _ rfl
theorem do_up (E : Rv) (k a b : Int) (s : Rn) : Up s (doK E k a b s) := (step_up E s).bind fun _ _ => up_ite (up_go _ _ _ rfl) (up_stop _ _ _ _ rfl)
theorem item_up (E : Rv) (nm : ByteArray) (i : Int) (s : Rn) : Up s (itemR E nm i s) := (step_up E s).bind fun _ _ => up_ite (up_stop _ _ _ _ rfl) (up_go _ _ _ rfl)
theorem fn_up {fs : List (Rn → Res Int)} (h : ∀ f ∈ fs, ∀ s, Up s (f s)) (i : Nat) (s : Rn) : Up s (fnR fs i s) := by
  unfold fnR
  rw [List.getD_eq_getElem?_getD]
  cases hi : fs[i]? with
  | none => exact Nat.le_refl _
  | some f => exact h f (List.mem_of_getElem? hi) s
theorem hn_up {fs : List (Rn → Res Bool)} (h : ∀ f ∈ fs, ∀ s, Up s (f s)) (i : Nat) (s : Rn) : Up s (hnR fs i s) := by
  unfold hnR
  rw [List.getD_eq_getElem?_getD]
  cases hi : fs[i]? with
  | none => exact Nat.le_refl _
  | some f => exact h f (List.mem_of_getElem? hi) s
theorem valK_up (E : Rv) (k : Int) (nm : ByteArray) (c : Option Int) {fs : List (Rn → Res Int)} (h : ∀ f ∈ fs, ∀ s, Up s (f s)) (s : Rn) : Up s (valK E k nm c fs s) := by
  unfold valK
  split
  · exact Nat.le_refl _
  · refine up_ite (Nat.le_refl _) (up_ite (input_up E s) (up_ite ?_ (up_ite ?_ ?_)))
    · exact (fn_up h 0 s).bind fun _ s => (item_up E nm _ s).bind fun _ s => Nat.le_refl _
    · exact (fn_up h 0 s).bind fun _ s => do_up E _ _ _ s
    · exact (fn_up h 0 s).bind fun _ s => (fn_up h 1 s).bind fun _ s => do_up E _ _ _ s
mutual
theorem valN_up (E : Rv) : ∀ (x : Nd) (s : Rn), Up s (valN E x s)
  | .mk _ k n nm xs _ _ _, s => by
    unfold valN
    exact valK_up E k nm _ (valL_up E xs) s
theorem valL_up (E : Rv) : ∀ (l : List Nd), ∀ f ∈ valL E l, ∀ s, Up s (f s)
  | [], f, h => by unfold valL at h; cases h
  | x :: r, f, h => by
    unfold valL at h
    rcases List.mem_cons.1 h with rfl | h
    · exact valN_up E x
    · exact valL_up E r f h
end
theorem hldK_up (E : Rv) (k n : Int) {fs : List (Rn → Res Int)} {hs : List (Rn → Res Bool)} (h : ∀ f ∈ fs, ∀ s, Up s (f s)) (hh : ∀ f ∈ hs, ∀ s, Up s (f s)) (s : Rn) : Up s (hldK E k n fs hs s) := by
  unfold hldK
  refine up_ite ?_ (up_ite ?_ (up_ite ?_ (up_ite ?_ ?_)))
  · exact (hn_up hh 0 s).bind fun _ s => Nat.le_refl _
  · exact (hn_up hh 0 s).bind fun _ s => up_ite (hn_up hh 1 s) (Nat.le_refl _)
  · exact (hn_up hh 0 s).bind fun _ s => up_ite (Nat.le_refl _) (hn_up hh 1 s)
  · exact (fn_up h 0 s).bind fun _ s => (fn_up h 1 s).bind fun _ s => (step_up E s).bind fun _ s => Nat.le_refl _
  · exact (step_up E s).bind fun _ s => Nat.le_refl _
mutual
theorem hldN_up (E : Rv) : ∀ (x : Nd) (s : Rn), Up s (hldN E x s)
  | .mk _ k n nm xs cs _ _, s => by
    unfold hldN
    exact hldK_up E k n (valL_up E xs) (hldL_up E cs) s
theorem hldL_up (E : Rv) : ∀ (l : List Nd), ∀ f ∈ hldL E l, ∀ s, Up s (f s)
  | [], f, h => by unfold hldL at h; cases h
  | x :: r, f, h => by
    unfold hldL at h
    rcases List.mem_cons.1 h with rfl | h
    · exact hldN_up E x
    · exact hldL_up E r f h
end
theorem loop_up {h : Rn → Res Bool} {b : Rn → Res Unit} (hh : ∀ s, Up s (h s)) (hb : ∀ s, Up s (b s)) : ∀ (n : Nat) (s : Rn), Up s (loopR h b n s)
  | 0, _ => Nat.le_refl _
  | n + 1, s => (hh s).bind fun _ s => up_ite ((hb s).bind fun _ s => loop_up hh hb n s) (Nat.le_refl _)
theorem stK_up (E : Rv) (k : Int) (nm : ByteArray) (q : Bool) {fs : List (Rn → Res Int)} {hs : List (Rn → Res Bool)} {t e : Rn → Res Unit} (h : ∀ f ∈ fs, ∀ s, Up s (f s)) (hh : ∀ f ∈ hs, ∀ s, Up s (f s)) (ht : ∀ s, Up s (t s)) (he : ∀ s, Up s (e s)) (s : Rn) : Up s (stK E k nm q fs hs t e s) := by
  unfold stK
  refine up_ite ?_ (up_ite ?_ (up_ite ?_ (up_ite ?_ (up_ite ?_ (up_ite ?_ (up_ite ?_ ?_))))))
  · exact (fn_up h 0 s).bind fun _ s => (up_ite (step_up E s) (Nat.le_refl _)).bind fun _ s => Nat.le_refl _
  · exact (fn_up h 0 s).bind fun _ s => (fn_up h 1 s).bind fun _ s => (item_up E nm _ s).bind fun _ s => Nat.le_refl _
  · exact (hn_up hh 0 s).bind fun _ s => up_ite (ht s) (he s)
  · exact loop_up (hn_up hh 0) ht _ s
  · exact (hn_up hh 0 s).bind fun _ s => (step_up E s).bind fun _ s => up_ite (Nat.le_refl _) (Nat.le_refl _)
  · exact (hn_up hh 0 s).bind fun _ s => up_ite (Nat.le_refl _) (Nat.le_refl _)
  · exact step_up E s
  · exact Nat.le_refl _
mutual
theorem stN_up (E : Rv) : ∀ (x : Nd) (s : Rn), Up s (stN E x s)
  | .mk _ k n nm xs cs ts es, s => by
    unfold stN
    exact stK_up E k nm _ (valL_up E xs) (hldL_up E cs) (stL_up E ts) (stL_up E es) s
theorem stL_up (E : Rv) : ∀ (l : List Nd) (s : Rn), Up s (stL E l s)
  | [], s => by unfold stL; exact Nat.le_refl _
  | x :: r, s => by
    unfold stL
    exact (stN_up E x s).bind fun _ s => stL_up E r s
end
/-- A condition takes a step. -/
def More {α : Type} (s : Rn) (r : Res α) : Prop := ∀ a s', r = .go a s' → s.steps < s'.steps
theorem More.bind {α β : Type} {s : Rn} {r : Res α} {f : α → Rn → Res β} (h : More s r) (hf : ∀ a s, Up s (f a s)) : More s (r.bind f) := by
  intro b s2 hb
  cases r with
  | go a s' =>
    have h1 := h a s' rfl
    have h2 := hf a s'
    unfold Up at h2
    change f a s' = _ at hb
    rw [hb] at h2
    exact Nat.lt_of_lt_of_le h1 h2
  | stop x y s' => cases hb
theorem More.behind {α β : Type} {s : Rn} {r : Res α} {f : α → Rn → Res β} (h : Up s r) (hf : ∀ a s, More s (f a s)) : More s (r.bind f) := by
  intro b s2 hb
  cases r with
  | go a s' => exact Nat.lt_of_le_of_lt h (hf a s' b s2 hb)
  | stop x y s' => cases hb
theorem step_more (E : Rv) (s : Rn) : More s (stepR E s) := by
  intro a s' h
  unfold stepR at h
  split at h
  · cases h
  · cases h; exact Nat.lt_succ_self _
/-- Each condition has its parts. -/
def partsR (k : Int) (len : Nat) : Prop := (k = 4 → len = 1) ∧ (5 ≤ k → len = 2)
mutual
def cndN : Nd → Prop
  | .mk _ k _ _ _ cs _ _ => k ≤ 6 ∧ partsR k cs.length ∧ cndL cs
def cndL : List Nd → Prop
  | [] => True
  | x :: r => cndN x ∧ cndL r
end
mutual
theorem hldN_more (E : Rv) : ∀ (x : Nd) (s : Rn), cndN x → More s (hldN E x s)
  | .mk _ k n nm xs cs _ _, s, h => by
    unfold cndN at h
    obtain ⟨hk6, ⟨h4, h5⟩, hc⟩ := h
    unfold hldN hldK
    by_cases k4 : k = 4
    · rw [if_pos k4]
      exact (hldL_more E cs 0 s (by have := h4 k4; omega) hc).bind fun _ s => Nat.le_refl _
    rw [if_neg k4]
    by_cases k5 : k = 5
    · rw [if_pos k5]
      exact (hldL_more E cs 0 s (by have := h5 (by omega); omega) hc).bind fun _ s => up_ite (hn_up (hldL_up E cs) 1 s) (Nat.le_refl _)
    rw [if_neg k5]
    by_cases k6 : k = 6
    · rw [if_pos k6]
      exact (hldL_more E cs 0 s (by have := h5 (by omega); omega) hc).bind fun _ s => up_ite (Nat.le_refl _) (hn_up (hldL_up E cs) 1 s)
    rw [if_neg k6]
    split
    · exact More.behind (fn_up (valL_up E xs) 0 s) fun _ s => More.behind (fn_up (valL_up E xs) 1 s) fun _ s => (step_more E s).bind fun _ s => Nat.le_refl _
    · exact (step_more E s).bind fun _ s => Nat.le_refl _
theorem hldL_more (E : Rv) : ∀ (l : List Nd) (i : Nat) (s : Rn), i < l.length → cndL l → More s (hnR (hldL E l) i s)
  | [], i, s, hi, _ => by simp at hi
  | x :: r, 0, s, _, h => by
    unfold cndL at h
    have := hldN_more E x s h.1
    unfold hldL hnR
    exact this
  | x :: r, i + 1, s, hi, h => by
    unfold cndL at h
    have := hldL_more E r i s (by simpa using hi) h.2
    unfold hldL
    unfold hnR at this ⊢
    simpa using this
end
/-- How far steps go. -/
theorem step_most {E : Rv} {s s' : Rn} {a : Unit} (hs : s.steps ≤ E.most) (h : stepR E s = .go a s') : s'.steps ≤ E.most := by
  unfold stepR at h
  split at h
  · cases h
  · rename_i hne
    cases h
    exact Nat.lt_of_le_of_ne hs hne
/-- A loop's fuel doesn't matter, where it is enough. -/
theorem loop_fuel {M : Nat} {h : Rn → Res Bool} {b : Rn → Res Unit} (hm : ∀ s, More s (h s)) (hb : ∀ s, Up s (b s)) (hle : ∀ s, s.steps ≤ M → (h s).at.steps ≤ M) (hle2 : ∀ s, s.steps ≤ M → (b s).at.steps ≤ M) :
    ∀ (n m : Nat) (s : Rn), s.steps ≤ M → M < n + s.steps → M < m + s.steps → loopR h b n s = loopR h b m s
  | 0, m, s, h0, h1, h2 => by omega
  | n + 1, 0, s, h0, h1, h2 => by omega
  | n + 1, m + 1, s, h0, h1, h2 => by
    unfold loopR
    have hm0 := hm s
    have hl := hle s h0
    cases hh : h s with
    | stop x y s' => rfl
    | go c s' =>
      rw [hh] at hl hm0
      have h3 := hm0 c s' rfl
      change s'.steps ≤ M at hl
      change (if c then (b s').bind _ else _) = (if c then (b s').bind _ else _)
      cases c with
      | false => rfl
      | true =>
        simp only [if_true]
        have hb0 := hb s'
        have hl2 := hle2 s' hl
        cases hbb : b s' with
        | stop x y s2 => rfl
        | go u s2 =>
          rw [hbb] at hb0 hl2
          unfold Up at hb0
          change s'.steps ≤ s2.steps at hb0
          change s2.steps ≤ M at hl2
          exact loop_fuel hm hb hle hle2 n m s2 hl2 (by omega) (by omega)
end Go.Proofs.Ytbodbbdofoeclaa
