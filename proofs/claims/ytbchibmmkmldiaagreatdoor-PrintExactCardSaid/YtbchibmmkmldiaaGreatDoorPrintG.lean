/-
  From the checks to what the texts ask: proved is that a tree without a fault is one whose text is made of its parts, and not too long.
-/
import Derived.Test.YtbchibmmkmldiaaGreatDoorPrintP
import Derived.Test.YtbchibmmkmldiaaGreatDoorPlainC
namespace Go.Proofs.YtbchibmmkmldiaaGreatDoor
open Go Go.RowKit

theorem nm_small {nm : ByteArray} (h : nameB nm = true) : nm.size ≤ 128 := by
  by_cases hb : 128 < nm.size
  · rw [nmG_big hb] at h; cases h
  · omega
theorem sl_row {w : World} {ty : Ty} {l : List Nd} {v : Value} {P : Prop} (h : SlOf l.length (fun b o => RowIn w ty l b o) v) (hr : ∀ b o, RowIn w ty l b o → P) (h0 : l = [] → P) : P := by
  obtain ⟨a, c, _, _, _, hz | ⟨b, o, _, hrow⟩⟩ := h
  · exact h0 (List.eq_nil_of_length_eq_zero hz)
  · exact hr b o hrow
theorem goodTL_nil (t : Ty) : goodTL t [] := by unfold goodTL; trivial
theorem cstL_nil : cstL [] = 0 := by unfold cstL; rfl
mutual
theorem good_N (w : World) : ∀ (x : Nd) (vs : List Value), x.ty = .E ∨ x.ty = .C → NdIn w x vs → (∀ y ∈ allN x, wellN y = true ∧ named y = true) → goodT x ∧ cstN x ≤ 192 * (allN x).length
  | .mk .E k n nm xs cs ts es, vs, _, hin, hall => by
    unfold NdIn at hin
    obtain ⟨hf, -, hn, -, vx, vc, vt, ve, -, hx, -, -, -⟩ := hin
    obtain ⟨rfl, rfl, rfl⟩ := hf
    have e : allN (.mk .E k n nm xs [] [] []) = .mk .E k n nm xs [] [] [] :: allL xs := by unfold allN; rfl
    rw [e] at hall ⊢
    have hme := hall _ (List.mem_cons_self ..)
    have hL : goodTL .E xs ∧ cstL xs ≤ 192 * (allL xs).length :=
      sl_row hx (fun b o hr => good_L w .E xs b o (.inl rfl) hr (fun y hy => hall y (List.mem_cons_of_mem _ hy))) (fun h => by subst h; exact ⟨goodTL_nil _, by rw [cstL_nil]; omega⟩)
    obtain ⟨h1, h2⟩ := hme
    have h1' : wellE k n nm xs.length = true := h1
    unfold wellE kindE ownE argsE at h1'
    simp only [Bool.and_eq_true, Bool.or_eq_true, decide_eq_true_eq, beq_iff_eq] at h1'
    obtain ⟨⟨hk, hnm⟩, hlen, hnum⟩ := h1'
    have hsz : nm.size ≤ 128 := by
      by_cases hq : k = 2 ∨ k = 4
      · have h3 : (!(((k == 2) || (k == 4)) && !nameB nm)) = true := h2
        rw [show ((k == 2) || (k == 4)) = true by simpa using hq, Bool.true_and, Bool.not_not] at h3
        exact nm_small h3
      · have h3 := hnm.resolve_left hq
        have h4 : nm.size = 0 := by
          rw [← show nm.toList.length = nm.size by rw [Lib.toList_data]; rfl, h3]; rfl
        omega
    refine ⟨?_, ?_⟩
    · unfold goodT
      refine ⟨⟨hk.1, hk.2, fun h => ⟨?_, hn⟩, fun h => ?_, fun h => ?_⟩, hL.1, goodTL_nil _⟩
      · omega
      · rw [if_pos h] at hlen; omega
      · rw [if_neg (by omega), if_pos (by omega)] at hlen; omega
    · unfold cstN
      rw [cstL_nil, List.length_cons]
      omega
  | .mk .C k n nm xs cs ts es, vs, _, hin, hall => by
    unfold NdIn at hin
    obtain ⟨hf, -, hn, -, vx, vc, vt, ve, -, hx, hc, -, -⟩ := hin
    obtain ⟨rfl, rfl, rfl⟩ := hf
    have e : allN (.mk .C k n ⟨#[]⟩ xs cs [] []) = .mk .C k n ⟨#[]⟩ xs cs [] [] :: (allL xs ++ allL cs) := by unfold allN; rfl
    rw [e] at hall ⊢
    have hme := hall _ (List.mem_cons_self ..)
    have hX : goodTL .E xs ∧ cstL xs ≤ 192 * (allL xs).length :=
      sl_row hx (fun b o hr => good_L w .E xs b o (.inl rfl) hr (fun y hy => hall y (List.mem_cons_of_mem _ (List.mem_append_left _ hy)))) (fun h => by subst h; exact ⟨goodTL_nil _, by rw [cstL_nil]; omega⟩)
    have hC : goodTL .C cs ∧ cstL cs ≤ 192 * (allL cs).length :=
      sl_row hc (fun b o hr => good_L w .C cs b o (.inr rfl) hr (fun y hy => hall y (List.mem_cons_of_mem _ (List.mem_append_right _ hy)))) (fun h => by subst h; exact ⟨goodTL_nil _, by rw [cstL_nil]; omega⟩)
    have h1' : wellC k n xs.length cs.length = true := hme.1
    unfold wellC kindC ownC opC exprsC partsC at h1'
    simp only [Bool.and_eq_true, decide_eq_true_eq, beq_iff_eq] at h1'
    obtain ⟨hk, hop, hxl, hcl⟩ := h1'
    refine ⟨?_, ?_⟩
    · unfold goodT
      refine ⟨⟨hk.1, hk.2, fun h => ?_, fun h => ?_, fun h => ?_⟩, hX.1, hC.1⟩
      · rw [if_pos h] at hxl hop
        rw [decide_eq_true_eq] at hop
        exact ⟨by omega, hop⟩
      · rw [if_pos h] at hcl; omega
      · rw [if_neg (by omega), if_pos (by omega)] at hcl; omega
    · unfold cstN
      rw [List.length_cons, List.length_append, show (⟨#[]⟩ : ByteArray).size = 0 from rfl]
      omega
  | .mk .S k n nm xs cs ts es, _, h, _, _ => by simp [Nd.ty] at h
  | .mk .D k n nm xs cs ts es, _, h, _, _ => by simp [Nd.ty] at h
theorem good_L (w : World) : ∀ (ty : Ty) (l : List Nd) (b o : Nat), ty = .E ∨ ty = .C → RowIn w ty l b o → (∀ y ∈ allL l, wellN y = true ∧ named y = true) → goodTL ty l ∧ cstL l ≤ 192 * (allL l).length
  | ty, [], _, _, _, _, _ => ⟨goodTL_nil _, by rw [cstL_nil]; omega⟩
  | ty, x :: r, b, o, hty, hrow, hall => by
    unfold RowIn at hrow
    obtain ⟨⟨hx, vs, -, hin⟩, hr⟩ := hrow
    have e : allL (x :: r) = allN x ++ allL r := by rw [allL]
    rw [e] at hall ⊢
    have h1 := good_N w x vs (hx ▸ hty) hin (fun y hy => hall y (List.mem_append_left _ hy))
    have h2 := good_L w ty r b (o + ty.size) hty hr (fun y hy => hall y (List.mem_append_right _ hy))
    refine ⟨?_, ?_⟩
    · unfold goodTL
      exact ⟨hx, h1.1, h2.1⟩
    · unfold cstL
      rw [List.length_append]
      omega
end
theorem chk_good {w : World} {x : Nd} {vs : List Value} (hty : x.ty = .E ∨ x.ty = .C) (hin : NdIn w x vs) (hz : prjChk x = 0) : goodT x ∧ cstN x ≤ 786432 := by
  unfold prjChk faultT at hz
  have hl := list_N x 1 ⟨[], 0, 0⟩
  have hok := (tourN_ok x 1 ⟨[], 0, 0⟩ (by unfold Tr.ok; simp) (by omega)).1
  by_cases h0 : (tourN x 1 ⟨[], 0, 0⟩).lim = 0
  · rw [if_neg (by simpa using h0)] at hz
    rw [hl h0, List.nil_append] at hz hok
    by_cases h1 : (allN x).any (fun x => !wellN x) = true
    · rw [if_pos h1] at hz; cases hz
    rw [if_neg h1] at hz
    by_cases h2 : (allN x).any namelessB = true
    · rw [if_pos h2] at hz; cases hz
    have hall : ∀ y ∈ allN x, wellN y = true ∧ named y = true := fun y hy => by
      refine ⟨?_, ?_⟩
      · cases hw : wellN y with
        | true => rfl
        | false => exact absurd (List.any_eq_true.2 ⟨y, hy, by simp [hw]⟩) h1
      · unfold named
        cases hw : namelessB y with
        | false => rfl
        | true => exact absurd (List.any_eq_true.2 ⟨y, hy, hw⟩) h2
    have h := good_N w x vs hty hin hall
    exact ⟨h.1, by omega⟩
  · rw [if_pos h0] at hz
    exact absurd hz h0
end Go.Proofs.YtbchibmmkmldiaaGreatDoor
