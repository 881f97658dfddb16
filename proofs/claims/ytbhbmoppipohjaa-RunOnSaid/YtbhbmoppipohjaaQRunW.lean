/-
  Plain: a well program runs: each name has its place, each node its parts.
-/
import Derived.Test.YtbhbmoppipohjaaQRunZ

namespace Go.Proofs.Ytbhbmoppipohjaa
open Go Go.RowKit Go.Maps

def goodU (K : Me) (u : Us) : Prop := if u.2 then K.E.pl u.1 < K.ab.length else K.E.pl u.1 < K.nv
mutual
theorem okN_of (K : Me) (w : World) : ∀ (x : Nd) (vs : List Value), NdIn w x vs → (∀ y ∈ allN x, wellN y = true) → (∀ u ∈ usesN x, goodU K u) → okN K x
  | .mk ty k n nm xs cs ts es, vs, hin, hall, hus => by
    unfold NdIn at hin
    obtain ⟨hfit, -, -, -, vx, vc, vt, ve, -, hx, hc, ht, he⟩ := hin
    cases ty with
    | E =>
      simp only [fits] at hfit
      obtain ⟨rfl, rfl, rfl⟩ := hfit
      have e : allN (.mk .E k n nm xs [] [] []) = .mk .E k n nm xs [] [] [] :: allL xs := by unfold allN; rfl
      have eu : usesN (.mk .E k n nm xs [] [] []) = headU nm (k == 2) (k == 4) ++ usesL xs := by unfold usesN; rfl
      rw [e] at hall
      rw [eu] at hus
      have h1 : wellE k n nm xs.length = true := hall _ (List.mem_cons_self ..)
      unfold wellE kindE ownE argsE at h1
      simp only [Bool.and_eq_true, Bool.or_eq_true, decide_eq_true_eq, beq_iff_eq] at h1
      obtain ⟨⟨hk, -⟩, hlen, hn⟩ := h1
      unfold okN
      refine ⟨⟨hk.1, hk.2, fun h => by omega, fun h => ?_, fun h => ?_, fun h => ?_, fun h => ?_⟩, ?_, by unfold okL; trivial, by unfold okL; trivial, by unfold okL; trivial⟩
      · rw [if_pos h] at hlen; omega
      · rw [if_neg (by omega), if_pos ⟨h, hk.2⟩] at hlen; omega
      · have := hus (nm, false) (List.mem_append_left _ (by subst h; simp [headU]))
        simpa [goodU] using this
      · have := hus (nm, true) (List.mem_append_left _ (by subst h; simp [headU]))
        simpa [goodU] using this
      · exact sl_rowR hx (fun b o hr => okL_of K w .E xs b o hr (fun y hy => hall y (List.mem_cons_of_mem _ hy)) (fun u hu => hus u (List.mem_append_right _ hu))) (fun h => by subst h; unfold okL; trivial)
    | C =>
      simp only [fits] at hfit
      obtain ⟨-, rfl, rfl⟩ := hfit
      have e : allN (.mk .C k n nm xs cs [] []) = .mk .C k n nm xs cs [] [] :: (allL xs ++ allL cs) := by unfold allN; rfl
      have eu : usesN (.mk .C k n nm xs cs [] []) = usesL xs ++ usesL cs := by unfold usesN; rfl
      rw [e] at hall
      rw [eu] at hus
      have h1 : wellC k n xs.length cs.length = true := hall _ (List.mem_cons_self ..)
      unfold wellC kindC ownC exprsC partsC at h1
      simp only [Bool.and_eq_true, decide_eq_true_eq, beq_iff_eq] at h1
      obtain ⟨hk, -, hxl, hcl⟩ := h1
      unfold okN
      refine ⟨⟨hk.1, hk.2, fun h => ?_, fun h => ?_, fun h => ?_⟩, ?_, ?_, by unfold okL; trivial, by unfold okL; trivial⟩
      · rw [if_pos h] at hxl; omega
      · rw [if_pos h] at hcl; omega
      · rw [if_neg (by omega), if_pos (by omega)] at hcl; omega
      · exact sl_rowR hx (fun b o hr => okL_of K w .E xs b o hr (fun y hy => hall y (List.mem_cons_of_mem _ (List.mem_append_left _ hy))) (fun u hu => hus u (List.mem_append_left _ hu))) (fun h => by subst h; unfold okL; trivial)
      · exact sl_rowR hc (fun b o hr => okL_of K w .C cs b o hr (fun y hy => hall y (List.mem_cons_of_mem _ (List.mem_append_right _ hy))) (fun u hu => hus u (List.mem_append_right _ hu))) (fun h => by subst h; unfold okL; trivial)
    | S =>
      have e : allN (.mk .S k n nm xs cs ts es) = .mk .S k n nm xs cs ts es :: (allL cs ++ (allL xs ++ (allL ts ++ allL es))) := by unfold allN; rfl
      have eu : usesN (.mk .S k n nm xs cs ts es) = headU nm (k == 1) (k == 2) ++ (usesL cs ++ (usesL xs ++ (usesL ts ++ usesL es))) := by unfold usesN; rfl
      rw [e] at hall
      rw [eu] at hus
      have h1 : wellS k nm xs.length cs.length ts.length es.length = true := hall _ (List.mem_cons_self ..)
      unfold wellS kindS ownS exprsS condsS at h1
      simp only [Bool.and_eq_true, Bool.or_eq_true, decide_eq_true_eq, beq_iff_eq] at h1
      obtain ⟨⟨hk, -⟩, hxl, hcl, -⟩ := h1
      unfold okN
      refine ⟨⟨hk.1, hk.2, fun h => ?_, fun h => ?_, fun h => ?_, fun h => ?_, fun h => ?_⟩, ?_, ?_, ?_, ?_⟩
      · rw [if_pos h] at hxl; omega
      · rw [if_neg (by omega), if_pos h] at hxl; omega
      · rw [if_pos h] at hcl; omega
      · have := hus (nm, false) (List.mem_append_left _ (by subst h; simp [headU]))
        simpa [goodU] using this
      · have := hus (nm, true) (List.mem_append_left _ (by subst h; simp [headU]))
        simpa [goodU] using this
      · exact sl_rowR hx (fun b o hr => okL_of K w .E xs b o hr (fun y hy => hall y (List.mem_cons_of_mem _ (List.mem_append_right _ (List.mem_append_left _ hy)))) (fun u hu => hus u (List.mem_append_right _ (List.mem_append_right _ (List.mem_append_left _ hu))))) (fun h => by subst h; unfold okL; trivial)
      · exact sl_rowR hc (fun b o hr => okL_of K w .C cs b o hr (fun y hy => hall y (List.mem_cons_of_mem _ (List.mem_append_left _ hy))) (fun u hu => hus u (List.mem_append_right _ (List.mem_append_left _ hu)))) (fun h => by subst h; unfold okL; trivial)
      · exact sl_rowR ht (fun b o hr => okL_of K w .S ts b o hr (fun y hy => hall y (List.mem_cons_of_mem _ (List.mem_append_right _ (List.mem_append_right _ (List.mem_append_left _ hy))))) (fun u hu => hus u (List.mem_append_right _ (List.mem_append_right _ (List.mem_append_right _ (List.mem_append_left _ hu)))))) (fun h => by subst h; unfold okL; trivial)
      · exact sl_rowR he (fun b o hr => okL_of K w .S es b o hr (fun y hy => hall y (List.mem_cons_of_mem _ (List.mem_append_right _ (List.mem_append_right _ (List.mem_append_right _ hy))))) (fun u hu => hus u (List.mem_append_right _ (List.mem_append_right _ (List.mem_append_right _ (List.mem_append_right _ hu)))))) (fun h => by subst h; unfold okL; trivial)
    | D =>
      simp only [fits] at hfit
      obtain ⟨-, rfl, rfl, rfl, rfl⟩ := hfit
      unfold okN
      refine ⟨trivial, ?_, ?_, ?_, ?_⟩ <;> (unfold okL; trivial)
theorem okL_of (K : Me) (w : World) : ∀ (ty : Ty) (l : List Nd) (b o : Nat), RowIn w ty l b o → (∀ y ∈ allL l, wellN y = true) → (∀ u ∈ usesL l, goodU K u) → okL K ty l
  | ty, [], _, _, _, _, _ => by unfold okL; trivial
  | ty, x :: r, b, o, hrow, hall, hus => by
    unfold RowIn at hrow
    obtain ⟨⟨hx, vs, -, hin⟩, hr⟩ := hrow
    have e : allL (x :: r) = allN x ++ allL r := by rw [allL]
    have eu : usesL (x :: r) = usesN x ++ usesL r := by rw [usesL]
    rw [e] at hall
    rw [eu] at hus
    unfold okL
    exact ⟨hx, okN_of K w x vs hin (fun y hy => hall y (List.mem_append_left _ hy)) (fun u hu => hus u (List.mem_append_left _ hu)), okL_of K w ty r b _ hr (fun y hy => hall y (List.mem_append_right _ hy)) (fun u hu => hus u (List.mem_append_right _ hu))⟩
end
theorem well_ok {K : Me} {w : World} {ds ss : List Nd} {v : Value} (hs : SlIn w .S ss v) (hz : (wellP ds ss).2 = 0) (hpl : K.E.pl = plW ds) (hnv : K.nv = (varsL ds).length) (hna : K.ab.length = (arrsL ds).length) : okL K .S ss := by
  obtain ⟨h1, h2, h3⟩ := wellP_ok hz
  have hall := prog_all h1
  have hus := bad_all _ h3
  refine sl_rowR hs (fun b o hr => okL_of K w .S ss b o hr (fun y hy => hall y (List.mem_append_right _ hy)) (fun u hu => ?_)) (fun h => by subst h; unfold okL; trivial)
  have hu1 := hus u hu
  unfold goodU
  rw [hpl, hnv, hna]
  split
  · rename_i hq
    rw [hq] at hu1
    exact pl_arr h2 hu1
  · rename_i hq
    have : u.2 = false := by simpa using hq
    rw [this] at hu1
    exact pl_var h2 hu1
end Go.Proofs.Ytbhbmoppipohjaa
