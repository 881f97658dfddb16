/-
  Plain: the document's walk and the project's tour meet the same nodes: the same number, the same depth, the same limit.
-/
import Derived.Test.YtbchibmmkmldiaaGreatDoorOwnX
namespace Go.Proofs.YtbchibmmkmldiaaGreatDoor
open Go Go.RowKit

def Match (s : Wk) (t : Tr) : Prop := s.n = t.l.length ∧ s.dep = t.dep ∧ s.bad = t.lim
theorem match_node {x : Nd} {d : Int} {s : Wk} {t : Tr} (h : Match s t) (hb : s.bad = 0) : Match (nodeW d s) (nodeT x d t) := by
  obtain ⟨n, dep, bad⟩ := s
  obtain ⟨l, tdep, lim⟩ := t
  obtain ⟨h1, h2, h3⟩ := h
  simp only at h1 h2 h3 hb
  subst h1 h2 h3 hb
  unfold nodeW nodeT byd
  by_cases hk : l.length = 4096
  · simp [hk, Match]
  · have hk2 : ¬ (l.length : Int) = 4096 := by omega
    by_cases h64 : 64 < d
    · simp [hk, hk2, h64, Match]
    · simp [hk, hk2, h64, Match]
theorem match_if {F : Wk → Wk} (hF : ∀ s, s.bad ≠ 0 → F s = s) {A : Wk} {a rest : Tr} (h : Match A a) (hr : A.bad = 0 → Match (F A) rest) : Match (F A) (if a.lim ≠ 0 then a else rest) := by
  by_cases hz : A.bad = 0
  · rw [if_neg (by rw [← h.2.2]; simpa using hz)]
    exact hr hz
  · rw [if_pos (by rw [← h.2.2]; exact hz), hF A hz]
    exact h
mutual
theorem match_N : ∀ (x : Nd) (d : Int) (s : Wk) (t : Tr), Match s t → s.bad = 0 → Match (walkN x d s) (tourN x d t)
  | .mk ty k n nm xs cs ts es, d, s, t, h, hb => by
    have h1 := match_node (x := .mk ty k n nm xs cs ts es) (d := d) h hb
    unfold walkN tourN
    by_cases hz : (nodeW d s).bad = 0
    · rw [if_neg (by simpa using hz), if_neg (by rw [← h1.2.2]; simpa using hz)]
      cases ty with
      | E => exact match_L xs (d + 1) _ _ h1 hz
      | C => exact match_if (F := fun s => walkL cs (d + 1) s) (fun s hs => walkL_bad cs (d + 1) s hs) (match_L xs (d + 1) _ _ h1 hz) (fun hz => match_L cs (d + 1) _ _ (match_L xs (d + 1) _ _ h1 (by assumption)) hz)
      | S =>
        have h2 := match_L cs (d + 1) _ _ h1 hz
        refine match_if (F := fun s => walkL es (d + 1) (walkL ts (d + 1) (walkL xs (d + 1) s))) (fun s hs => by rw [walkL_bad xs _ _ hs, walkL_bad ts _ _ hs, walkL_bad es _ _ hs]) h2 (fun hz2 => ?_)
        have h3 := match_L xs (d + 1) _ _ h2 hz2
        refine match_if (F := fun s => walkL es (d + 1) (walkL ts (d + 1) s)) (fun s hs => by rw [walkL_bad ts _ _ hs, walkL_bad es _ _ hs]) h3 (fun hz3 => ?_)
        have h4 := match_L ts (d + 1) _ _ h3 hz3
        exact match_if (F := fun s => walkL es (d + 1) s) (fun s hs => walkL_bad es _ _ hs) h4 (fun hz4 => match_L es (d + 1) _ _ h4 hz4)
      | D => exact h1
    · rw [if_pos (by simpa using hz), if_pos (by rw [← h1.2.2]; simpa using hz)]
      exact h1
theorem match_L : ∀ (l : List Nd) (d : Int) (s : Wk) (t : Tr), Match s t → s.bad = 0 → Match (walkL l d s) (tourL l d t)
  | [], d, s, t, h, _ => by unfold walkL tourL; exact h
  | x :: r, d, s, t, h, hb => by
    unfold walkL tourL
    have h1 := match_N x d s t h hb
    exact match_if (F := fun s => walkL r d s) (fun s hs => walkL_bad r d s hs) h1 (fun hz => match_L r d _ _ h1 hz)
end
end Go.Proofs.YtbchibmmkmldiaaGreatDoor
