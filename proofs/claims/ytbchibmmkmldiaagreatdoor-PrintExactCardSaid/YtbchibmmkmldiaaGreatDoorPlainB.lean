/-
  Plain: the document's form of a tree says what the project asks of each of its nodes.
-/
import Derived.Test.YtbchibmmkmldiaaGreatDoorPlainA
namespace Go.Proofs.YtbchibmmkmldiaaGreatDoor
open Go Go.RowKit

mutual
/-- All nodes of a tree, in the nodes' order. -/
def allN : Nd → List Nd
  | .mk ty k n nm xs cs ts es => .mk ty k n nm xs cs ts es :: match ty with
    | .E => allL xs
    | .C => allL xs ++ allL cs
    | .S => allL cs ++ (allL xs ++ (allL ts ++ allL es))
    | .D => []
def allL : List Nd → List Nd
  | [] => []
  | x :: r => allN x ++ allL r
end
def named (y : Nd) : Bool := !namelessB y
/-- f' is f with what the nodes of l ask. -/
def Formed (l : List Nd) (f f' : Fm) : Prop := f'.ok = (f.ok && l.all wellN) ∧ (f'.ok = true → f'.names = (f.names && l.all named))
theorem Formed.nil (f : Fm) : Formed [] f f := ⟨by simp, fun _ => by simp⟩
theorem Formed.app {l m : List Nd} {f g h : Fm} (a : Formed l f g) (b : Formed m g h) : Formed (l ++ m) f h := by
  refine ⟨?_, fun hh => ?_⟩
  · rw [b.1, a.1, List.all_append, Bool.and_assoc]
  · have hg : g.ok = true := by
      have := b.1
      rw [hh] at this
      cases hgo : g.ok with
      | true => rfl
      | false => rw [hgo] at this; simp at this
    rw [b.2 hh, a.2 hg, List.all_append, Bool.and_assoc]
theorem Formed.one {x : Nd} {f g : Fm} (h1 : g.ok = (f.ok && wellN x)) (h2 : g.names = (f.names && named x)) : Formed [x] f g := ⟨by simp [h1], fun _ => by simp [h2]⟩
theorem head_E (k n : Int) (nm : ByteArray) (xs cs ts es : List Nd) (f : Fm) : Formed [.mk .E k n nm xs cs ts es] f (headE k n nm xs.length f) := by
  obtain ⟨ok, names⟩ := f
  refine Formed.one ?_ ?_
  · simp only [wellN, wellE, headE, nameF]
    cases ((k == 2) || (k == 4)) <;> cases ok <;> cases kindE k <;> cases ownE k n xs.length <;> cases (nm.toList == []) <;> rfl
  · simp only [named, namelessB, mustN, ownNm, headE, nameF]
    cases ((k == 2) || (k == 4)) <;> cases names <;> cases nameB nm <;> rfl
theorem head_S (k n : Int) (nm : ByteArray) (xs cs ts es : List Nd) (f : Fm) : Formed [.mk .S k n nm xs cs ts es] f (headS k nm xs.length cs.length ts.length es.length f) := by
  obtain ⟨ok, names⟩ := f
  refine Formed.one ?_ ?_
  · simp only [wellN, wellS, headS, nameF]
    cases ((k == 1) || (k == 2)) <;> cases ok <;> cases kindS k <;> cases ownS k xs.length cs.length ts.length es.length <;> cases (nm.toList == []) <;> rfl
  · simp only [named, namelessB, mustN, ownNm, headS, nameF]
    cases ((k == 1) || (k == 2)) <;> cases names <;> cases nameB nm <;> rfl
theorem head_C (k n : Int) (nm : ByteArray) (xs cs ts es : List Nd) (f : Fm) : Formed [.mk .C k n nm xs cs ts es] f (headC k n xs.length cs.length f) := by
  obtain ⟨ok, names⟩ := f
  refine Formed.one ?_ ?_
  · simp only [wellN, wellC, headC]
    cases ok <;> cases kindC k <;> cases ownC k n xs.length cs.length <;> rfl
  · simp only [named, namelessB, mustN, headC]
    cases names <;> rfl
mutual
theorem formed_N : ∀ (x : Nd) (f : Fm), (∀ y ∈ allN x, y.ty ≠ .D) → Formed (allN x) f (formN x f)
  | .mk ty k n nm xs cs ts es, f, hd => by
    unfold allN at hd ⊢
    unfold formN
    cases ty with
    | E => exact (head_E k n nm xs cs ts es f).app (formed_L xs _ (fun y hy => hd y (List.mem_cons_of_mem _ hy)))
    | C =>
      have h1 := formed_L xs (headC k n xs.length cs.length f) (fun y hy => hd y (List.mem_cons_of_mem _ (List.mem_append_left _ hy)))
      have h2 := formed_L cs (formL xs (headC k n xs.length cs.length f)) (fun y hy => hd y (List.mem_cons_of_mem _ (List.mem_append_right _ hy)))
      exact (head_C k n nm xs cs ts es f).app (h1.app h2)
    | S =>
      have h1 := formed_L cs (headS k nm xs.length cs.length ts.length es.length f) (fun y hy => hd y (List.mem_cons_of_mem _ (List.mem_append_left _ hy)))
      have h2 := fun g => formed_L xs g (fun y hy => hd y (List.mem_cons_of_mem _ (List.mem_append_right _ (List.mem_append_left _ hy))))
      have h3 := fun g => formed_L ts g (fun y hy => hd y (List.mem_cons_of_mem _ (List.mem_append_right _ (List.mem_append_right _ (List.mem_append_left _ hy)))))
      have h4 := fun g => formed_L es g (fun y hy => hd y (List.mem_cons_of_mem _ (List.mem_append_right _ (List.mem_append_right _ (List.mem_append_right _ hy)))))
      exact (head_S k n nm xs cs ts es f).app (h1.app ((h2 _).app ((h3 _).app (h4 _))))
    | D => exact absurd rfl (hd _ (List.mem_cons_self ..))
theorem formed_L : ∀ (l : List Nd) (f : Fm), (∀ y ∈ allL l, y.ty ≠ .D) → Formed (allL l) f (formL l f)
  | [], f, _ => by unfold allL formL; exact Formed.nil f
  | x :: r, f, hd => by
    unfold allL at hd ⊢
    unfold formL
    cases hf : f.ok with
    | true =>
      simp only [if_true]
      exact (formed_N x f (fun y hy => hd y (List.mem_append_left _ hy))).app (formed_L r _ (fun y hy => hd y (List.mem_append_right _ hy)))
    | false =>
      simp only [Bool.false_eq_true, if_false]
      exact ⟨by rw [hf]; rfl, fun h => by rw [hf] at h; cases h⟩
end
end Go.Proofs.YtbchibmmkmldiaaGreatDoor
