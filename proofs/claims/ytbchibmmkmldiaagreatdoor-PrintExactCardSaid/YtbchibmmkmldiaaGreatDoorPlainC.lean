/-
  Plain: the document's answer for an expression or a condition is the project's.
-/
import Derived.Test.YtbchibmmkmldiaaGreatDoorPlainB
namespace Go.Proofs.YtbchibmmkmldiaaGreatDoor
open Go Go.RowKit

theorem if_lim {a rest : Tr} (h : (if a.lim ≠ 0 then a else rest).lim = 0) : a.lim = 0 ∧ (if a.lim ≠ 0 then a else rest) = rest := by
  by_cases hz : a.lim = 0
  · exact ⟨hz, if_neg (by simpa using hz)⟩
  · rw [if_pos (by simpa using hz)] at h
    exact absurd h hz
theorem list_node {x : Nd} {d : Int} {t : Tr} (h : (nodeT x d t).lim = 0) : (nodeT x d t).l = t.l ++ [x] := by
  unfold nodeT at h ⊢
  by_cases hz : byd t.l.length d = 0
  · rw [if_neg (by simpa using hz)]
  · rw [if_pos (by simpa using hz)] at h
    exact absurd h hz
mutual
theorem list_N : ∀ (x : Nd) (d : Int) (t : Tr), (tourN x d t).lim = 0 → (tourN x d t).l = t.l ++ allN x
  | .mk ty k n nm xs cs ts es, d, t, h => by
    unfold tourN at h ⊢
    unfold allN
    obtain ⟨h1, e1⟩ := if_lim h
    rw [e1] at h ⊢
    have l1 := list_node h1
    cases ty with
    | E =>
      have h2 := list_L xs (d + 1) _ h
      rw [l1, List.append_assoc] at h2
      exact h2
    | C =>
      obtain ⟨h2, e2⟩ := if_lim h
      have l2 := list_L xs (d + 1) _ h2
      have e3 := congrArg Tr.lim e2
      have l3 := list_L cs (d + 1) _ (e3.symm.trans h)
      rw [l2, l1] at l3
      exact (congrArg Tr.l e2).trans (l3.trans (by simp))
    | S =>
      obtain ⟨h2, e2⟩ := if_lim h
      have l2 := list_L cs (d + 1) _ h2
      have g2 := (congrArg Tr.lim e2).symm.trans h
      obtain ⟨h3, e3⟩ := if_lim g2
      have l3 := list_L xs (d + 1) _ h3
      have g3 := (congrArg Tr.lim e3).symm.trans g2
      obtain ⟨h4, e4⟩ := if_lim g3
      have l4 := list_L ts (d + 1) _ h4
      have g4 := (congrArg Tr.lim e4).symm.trans g3
      have l5 := list_L es (d + 1) _ g4
      rw [l4, l3, l2, l1] at l5
      exact (congrArg Tr.l e2).trans ((congrArg Tr.l e3).trans ((congrArg Tr.l e4).trans (l5.trans (by simp))))
    | D => exact l1
theorem list_L : ∀ (l : List Nd) (d : Int) (t : Tr), (tourL l d t).lim = 0 → (tourL l d t).l = t.l ++ allL l
  | [], d, t, _ => by unfold tourL allL; simp
  | x :: r, d, t, h => by
    unfold tourL at h ⊢
    unfold allL
    obtain ⟨h1, e1⟩ := if_lim h
    rw [e1] at h ⊢
    rw [list_L r d _ h, list_N x d t h1, List.append_assoc]
end
/-- What the document answers for an expression or a condition is what the project answers. -/
theorem checks_same (x : Nd) (hd : ∀ y ∈ allN x, y.ty ≠ .D) : docChk x = prjChk x := by
  have hm := match_N x 1 ⟨0, 0, 0⟩ ⟨[], 0, 0⟩ ⟨rfl, rfl, rfl⟩ rfl
  have hl := list_N x 1 ⟨[], 0, 0⟩
  have hf := formed_N x ⟨true, true⟩ hd
  unfold docChk prjChk faultT
  rw [← hm.2.2] at hl ⊢
  by_cases hz : (walkN x 1 ⟨0, 0, 0⟩).bad = 0
  · rw [if_neg (by simpa using hz), if_neg (by simpa using hz), (hl hz).trans (List.nil_append _)]
    obtain ⟨h1, h2⟩ := hf
    simp only [Bool.true_and] at h1 h2
    have ea : (allN x).any (fun x => !wellN x) = !(allN x).all wellN := by rw [List.not_all_eq_any_not]
    have eb : (allN x).any namelessB = !(allN x).all named := by
      rw [List.not_all_eq_any_not]
      congr 1
      funext y
      simp [named]
    rw [ea, eb]
    unfold toldF
    rw [h1] at h2 ⊢
    cases hw : (allN x).all wellN with
    | false => rfl
    | true =>
      rw [h2 hw]
      cases (allN x).all named <;> rfl
  · rw [if_pos (by simpa using hz), if_pos (by simpa using hz)]
end Go.Proofs.YtbchibmmkmldiaaGreatDoor
