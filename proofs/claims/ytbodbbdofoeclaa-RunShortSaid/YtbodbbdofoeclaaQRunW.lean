/-
  Plain: a well program runs: each name has its place, each node its parts.
-/
import Derived.Test.YtbodbbdofoeclaaQRunZ

namespace Go.Proofs.Ytbodbbdofoeclaa
open Go Go.RowKit Go.Maps

theorem lookP_none : ∀ (l : List (ByteArray × Nat)) (s : ByteArray), (∀ p ∈ l.reverse, ¬ p.1.toList = s.toList) → lookP l.reverse s = 0
  | [], s, _ => rfl
  | x :: r, s, h => by
    rw [List.reverse_cons, lookP_snoc]
    rw [if_neg (by simpa using h x (by simp))]
    exact lookP_none r s (fun p hp => h p (by rw [List.reverse_cons]; exact List.mem_append_left _ hp))
theorem lookP_rev : ∀ (l : List (ByteArray × Nat)) (s : ByteArray), (∃ p ∈ l.reverse, p.1.toList = s.toList) → ∃ p ∈ l.reverse, p.1.toList = s.toList ∧ lookP l.reverse s = p.2
  | [], s, h => by obtain ⟨p, hp, _⟩ := h; cases hp
  | x :: r, s, h => by
    rw [List.reverse_cons, lookP_snoc]
    by_cases hx : x.1.toList = s.toList
    · exact ⟨x, by simp, hx, by rw [if_pos (by simpa using hx)]⟩
    · obtain ⟨p, hp, hps⟩ := h
      rw [List.reverse_cons] at hp
      have hp2 : p ∈ r.reverse := by
        rcases List.mem_append.1 hp with h1 | h1
        · exact h1
        · rw [List.mem_singleton.1 h1] at hps; exact absurd hps hx
      obtain ⟨q, hq, hqs, hl⟩ := lookP_rev r s ⟨p, hp2, hps⟩
      exact ⟨q, List.mem_append_left _ hq, hqs, by rw [if_neg (by simpa using hx)]; exact hl⟩
theorem lookP_some {l : List (ByteArray × Nat)} {s : ByteArray} (h : ∃ p ∈ l, p.1.toList = s.toList) : ∃ p ∈ l, p.1.toList = s.toList ∧ lookP l s = p.2 := by
  have := lookP_rev l.reverse s (by rw [List.reverse_reverse]; exact h)
  rwa [List.reverse_reverse] at this
theorem mem_pairsV {VN : List ByteArray} {p : ByteArray × Nat} (h : p ∈ pairsV VN) : p.2 < VN.length ∧ p.1 ∈ VN := by
  unfold pairsV at h
  have h1 := List.mem_zipIdx h
  refine ⟨by omega, ?_⟩
  rw [h1.2.2]
  exact List.getElem_mem _
theorem mem_pairsA {AN : List Nd} {p : ByteArray × Nat} (h : p ∈ pairsA AN) : p.2 < AN.length ∧ ∃ y ∈ AN, p.1 = dNm y := by
  unfold pairsA at h
  have h1 := List.mem_zipIdx h
  refine ⟨by have := h1.2.1; simp at this; omega, ?_⟩
  have h2 := h1.2.2
  have hm : p.1 ∈ AN.map dNm := by rw [h2]; exact List.getElem_mem _
  obtain ⟨y, hy, e⟩ := List.mem_map.1 hm
  exact ⟨y, hy, e.symm⟩
theorem of_mem_pairsV {VN : List ByteArray} {s : ByteArray} (h : s ∈ VN) : ∃ p ∈ pairsV VN, p.1 = s := by
  obtain ⟨i, hi, rfl⟩ := List.getElem_of_mem h
  refine ⟨(VN[i], i), ?_, rfl⟩
  unfold pairsV
  rw [List.mem_zipIdx_iff_getElem?]
  simp [hi]
theorem of_mem_pairsA {AN : List Nd} {y : Nd} (h : y ∈ AN) : ∃ p ∈ pairsA AN, p.1 = dNm y := by
  have h1 : dNm y ∈ AN.map dNm := List.mem_map_of_mem h
  obtain ⟨i, hi, e⟩ := List.getElem_of_mem h1
  refine ⟨(dNm y, i), ?_, rfl⟩
  unfold pairsA
  rw [List.mem_zipIdx_iff_getElem?]
  rw [List.getElem?_eq_getElem hi, e]
/-- A name that is declared as something: by a declaration. -/
theorem lookL_rev : ∀ (l : List Nd) (s : ByteArray), lookL l.reverse s ≠ 0 → ∃ x ∈ l.reverse, (dNm x).toList = s.toList ∧ kD (dSz x) = lookL l.reverse s
  | [], s, h => absurd rfl h
  | x :: r, s, h => by
    rw [List.reverse_cons, lookL_snoc] at h ⊢
    by_cases hx : (dNm x).toList = s.toList
    · exact ⟨x, by simp, hx, by rw [if_pos (by simpa using hx)]⟩
    · rw [if_neg (by simpa using hx)] at h ⊢
      obtain ⟨y, hy, h1, h2⟩ := lookL_rev r s h
      exact ⟨y, List.mem_append_left _ hy, h1, h2⟩
theorem lookL_some {l : List Nd} {s : ByteArray} (h : lookL l s ≠ 0) : ∃ x ∈ l, (dNm x).toList = s.toList ∧ kD (dSz x) = lookL l s := by
  have := lookL_rev l.reverse s (by rw [List.reverse_reverse]; exact h)
  rwa [List.reverse_reverse] at this
theorem lookL_zero_rev : ∀ (l : List Nd) (s : ByteArray), lookL l.reverse s = 0 → ∀ x ∈ l.reverse, ¬ (dNm x).toList = s.toList
  | [], s, _, x, hx => by cases hx
  | y :: r, s, h, x, hx => by
    rw [List.reverse_cons, lookL_snoc] at h
    rw [List.reverse_cons] at hx
    by_cases hy : (dNm y).toList = s.toList
    · rw [if_pos (by simpa using hy)] at h
      unfold kD at h
      split at h <;> cases h
    · rw [if_neg (by simpa using hy)] at h
      rcases List.mem_append.1 hx with h1 | h1
      · exact lookL_zero_rev r s h x h1
      · rw [List.mem_singleton.1 h1]; exact hy
theorem lookL_zero {l : List Nd} {s : ByteArray} (h : lookL l s = 0) : ∀ x ∈ l, ¬ (dNm x).toList = s.toList := by
  have := lookL_zero_rev l.reverse s (by rw [List.reverse_reverse]; exact h)
  rwa [List.reverse_reverse] at this
theorem declW_dF : ∀ (p r : List Nd), (declW p r).2 = 0 → ∀ i (h : i < r.length), dF (p ++ r.take i) r[i] = 0
  | p, [], _, i, h => by simp at h
  | p, x :: r, hz, i, h => by
    unfold declW at hz
    by_cases h0 : dF p x ≠ 0
    · rw [if_pos h0] at hz
      exact absurd hz h0
    · rw [if_neg h0] at hz
      cases i with
      | zero =>
        simp only [List.take_zero, List.append_nil, List.getElem_cons_zero]
        exact Decidable.not_not.1 h0
      | succ i =>
        have := declW_dF (p ++ [x]) r hz i (by simpa using h)
        simpa using this
/-- Each name is declared once. -/
theorem decl_once {ds : List Nd} (h : (declW [] ds).2 = 0) (i j : Nat) (hi : i < ds.length) (hj : j < ds.length) (he : (dNm ds[i]).toList = (dNm ds[j]).toList) : i = j := by
  have key : ∀ a b (ha : a < ds.length) (hb : b < ds.length), a < b → ¬ (dNm ds[a]).toList = (dNm ds[b]).toList := by
    intro a b ha hb hab e
    have h1 := declW_dF [] ds h b hb
    rw [List.nil_append] at h1
    unfold dF at h1
    by_cases h2 : lookL (ds.take b) (dNm ds[b]) = 0
    · exact lookL_zero h2 ds[a] (by rw [List.mem_take_iff_getElem]; exact ⟨a, by omega, rfl⟩) e
    · rw [if_pos h2] at h1; cases h1
  rcases Nat.lt_trichotomy i j with h1 | h1 | h1
  · exact absurd he (key i j hi hj h1)
  · exact h1
  · exact absurd he.symm (key j i hj hi h1)
theorem decl_sz {ds : List Nd} (h : (declW [] ds).2 = 0) : ∀ x ∈ ds, dSz x ≤ 1024 := by
  intro x hx
  obtain ⟨i, hi, rfl⟩ := List.getElem_of_mem hx
  have h1 := declW_dF [] ds h i hi
  unfold dF at h1
  split at h1
  · cases h1
  · split at h1
    · cases h1
    · omega
theorem varsL_mem {ds : List Nd} {s : ByteArray} (h : s ∈ varsL ds) : ∃ x ∈ ds, dSz x = 0 ∧ dNm x = s := by
  unfold varsL at h
  obtain ⟨x, hx, e⟩ := List.mem_map.1 h
  have h1 := List.mem_filter.1 hx
  exact ⟨x, h1.1, by simpa using h1.2, e⟩
theorem mem_varsL {ds : List Nd} {x : Nd} (h : x ∈ ds) (hz : dSz x = 0) : dNm x ∈ varsL ds := by
  unfold varsL
  exact List.mem_map.2 ⟨x, List.mem_filter.2 ⟨h, by simpa using hz⟩, rfl⟩
theorem arrsL_mem {ds : List Nd} {x : Nd} (h : x ∈ arrsL ds) : x ∈ ds ∧ dSz x ≠ 0 := by
  have h1 := List.mem_filter.1 h
  exact ⟨h1.1, by simpa using h1.2⟩
theorem mem_arrsL {ds : List Nd} {x : Nd} (h : x ∈ ds) (hz : dSz x ≠ 0) : x ∈ arrsL ds := List.mem_filter.2 ⟨h, by simpa using hz⟩
theorem once_eq {ds : List Nd} (h : (declW [] ds).2 = 0) {x y : Nd} (hx : x ∈ ds) (hy : y ∈ ds) (he : (dNm x).toList = (dNm y).toList) : x = y := by
  obtain ⟨i, hi, rfl⟩ := List.getElem_of_mem hx
  obtain ⟨j, hj, rfl⟩ := List.getElem_of_mem hy
  have := decl_once h i j hi hj he
  subst this
  rfl
/-- Where names lie. -/
def plW (ds : List Nd) : ByteArray → Nat := lookP (pairsV (varsL ds) ++ pairsA (arrsL ds))
theorem pl_var {ds : List Nd} (h : (declW [] ds).2 = 0) {s : ByteArray} (hs : lookL ds s = 1) : plW ds s < (varsL ds).length := by
  obtain ⟨x, hx, he, hk⟩ := lookL_some (l := ds) (s := s) (by rw [hs]; decide)
  rw [hs] at hk
  have hz : dSz x = 0 := by
    unfold kD at hk
    split at hk
    · assumption
    · cases hk
  obtain ⟨p, hp, hpe⟩ := of_mem_pairsV (mem_varsL hx hz)
  obtain ⟨q, hq, hqs, hl⟩ := lookP_some (l := pairsV (varsL ds) ++ pairsA (arrsL ds)) (s := s) ⟨p, List.mem_append_left _ hp, by rw [hpe]; exact he⟩
  unfold plW
  rw [hl]
  rcases List.mem_append.1 hq with h1 | h1
  · exact (mem_pairsV h1).1
  · exfalso
    obtain ⟨-, y, hy, e⟩ := mem_pairsA h1
    obtain ⟨hy1, hy2⟩ := arrsL_mem hy
    have := once_eq h hx hy1 (by rw [he, ← hqs, e])
    exact hy2 (by rw [← this]; exact hz)
theorem pl_arr {ds : List Nd} (h : (declW [] ds).2 = 0) {s : ByteArray} (hs : lookL ds s = 2) : plW ds s < (arrsL ds).length := by
  obtain ⟨x, hx, he, hk⟩ := lookL_some (l := ds) (s := s) (by rw [hs]; decide)
  rw [hs] at hk
  have hz : dSz x ≠ 0 := by
    intro e
    unfold kD at hk
    rw [if_pos e] at hk
    cases hk
  obtain ⟨p, hp, hpe⟩ := of_mem_pairsA (mem_arrsL hx hz)
  obtain ⟨q, hq, hqs, hl⟩ := lookP_some (l := pairsV (varsL ds) ++ pairsA (arrsL ds)) (s := s) ⟨p, List.mem_append_right _ hp, by rw [hpe]; exact he⟩
  unfold plW
  rw [hl]
  rcases List.mem_append.1 hq with h1 | h1
  · exfalso
    obtain ⟨y, hy1, hy2, e⟩ := varsL_mem (mem_pairsV h1).2
    have := once_eq h hx hy1 (by rw [he, ← hqs, e])
    exact hz (by rw [this]; exact hy2)
  · exact (mem_pairsA h1).1
theorem cnt_le {ds : List Nd} (h : (declW [] ds).2 = 0) (k : Int) : ∀ i, i ≤ ds.length → (cntK (ds.take i) k : Int) ≤ mostK k
  | 0, _ => by
    rw [List.take_zero]
    unfold cntK mostK
    simp only [List.filter_nil, List.length_nil]
    split <;> decide
  | i + 1, hi => by
    have ih := cnt_le h k i (by omega)
    have h1 := declW_dF [] ds h i (by omega)
    rw [List.nil_append] at h1
    rw [take_succ' (by omega : i < ds.length), cntK_snoc]
    by_cases hk : (kD (dSz ds[i]) == k) = true
    · rw [if_pos hk]
      have hk' : kD (dSz ds[i]) = k := by simpa using hk
      unfold dF at h1
      rw [hk'] at h1
      split at h1
      · cases h1
      · split at h1
        · cases h1
        · split at h1
          · cases h1
          · push_cast
            omega
    · rw [if_neg hk]
      exact ih
theorem vars_few {ds : List Nd} (h : (declW [] ds).2 = 0) : (varsL ds).length ≤ 32 := by
  have h1 := cnt_le h 1 ds.length (Nat.le_refl _)
  rw [List.take_length] at h1
  have e : cntK ds 1 = (varsL ds).length := by
    unfold cntK varsL
    rw [List.length_map]
    congr 1
    apply List.filter_congr
    intro x _
    unfold kD
    by_cases hz : dSz x = 0 <;> simp [hz]
  rw [e] at h1
  have e2 : mostK 1 = 32 := rfl
  omega
theorem arrs_few {ds : List Nd} (h : (declW [] ds).2 = 0) : (arrsL ds).length ≤ 16 := by
  have h1 := cnt_le h 2 ds.length (Nat.le_refl _)
  rw [List.take_length] at h1
  have e : cntK ds 2 = (arrsL ds).length := by
    unfold cntK arrsL
    congr 1
    apply List.filter_congr
    intro x _
    unfold kD
    by_cases hz : dSz x = 0 <;> simp [hz]
  rw [e] at h1
  have e2 : mostK 2 = 16 := rfl
  omega
theorem bad_all {f : ByteArray → Int} : ∀ (l : List Us), (badU f l).2 = 0 → ∀ u ∈ l, f u.1 = kindB u.2
  | [], _, u, hu => by cases hu
  | x :: r, h, u, hu => by
    unfold badU at h
    split at h
    · cases h
    · split at h
      · rename_i h1
        rcases List.mem_cons.1 hu with rfl | hu
        · exact h1
        · exact bad_all r h u hu
      · cases h
theorem prog_all {ds ss : List Nd} (hz : faultT (progT ds ss) = 0) : ∀ y ∈ allL ds ++ allL ss, wellN y = true := by
  unfold faultT at hz
  by_cases h0 : (progT ds ss).lim = 0
  · rw [if_neg (by simpa using h0)] at hz
    rw [progT_list h0] at hz
    have happ : ∀ (l m : List Nd), allL (l ++ m) = allL l ++ allL m := by
      intro l m
      induction l with
      | nil => simp [allL]
      | cons x r ih => rw [List.cons_append, allL, allL, ih, List.append_assoc]
    rw [happ] at hz
    by_cases h1 : (allL ds ++ allL ss).any (fun x => !wellN x) = true
    · rw [if_pos h1] at hz; cases hz
    · intro y hy
      cases hw : wellN y with
      | true => rfl
      | false => exact absurd (List.any_eq_true.2 ⟨y, hy, by simp [hw]⟩) h1
  · rw [if_pos (by simpa using h0)] at hz
    exact absurd hz (by simpa using h0)
theorem sl_rowR {w : World} {ty : Ty} {l : List Nd} {v : Value} {P : Prop} (h : SlOf l.length (fun b o => RowIn w ty l b o) v) (hr : ∀ b o, RowIn w ty l b o → P) (h0 : l = [] → P) : P := by
  obtain ⟨a, c, _, _, _, hz | ⟨b, o, _, hrow⟩⟩ := h
  · exact h0 (List.eq_nil_of_length_eq_zero hz)
  · exact hr b o hrow
def goodU (K : Me) (u : Us) : Prop := if u.2 then K.E.pl u.1 < K.ab.length else K.E.pl u.1 < K.nv
mutual
theorem okN_of (K : Me) (w : World) : ∀ (x : Nd) (vs : List Value), NdIn w x vs → (∀ y ∈ allN x, wellN y = true) → (∀ u ∈ usesN x, goodU K u) → okN K x
  | .mk ty k n nm xs cs ts es, vs, hin, hall, hus => by
    unfold NdIn at hin
    obtain ⟨hfit, -, -, -, vx, vc, vt, ve, -, hx, hc, ht, he⟩ := hin
    cases ty with
    | E =>
      simp only [fits] at hfit
      obtain ⟨rfl, rfl, rfl⟩ := hfit
      have e : allN (.mk .E k n nm xs [] [] []) = .mk .E k n nm xs [] [] [] :: allL xs := by unfold allN; rfl
      have eu : usesN (.mk .E k n nm xs [] [] []) = headU nm (k == 2) (k == 4) ++ usesL xs := by unfold usesN; rfl
      rw [e] at hall
      rw [eu] at hus
      have h1 : wellE k n nm xs.length = true := hall _ (List.mem_cons_self ..)
      unfold wellE kindE ownE argsE at h1
      simp only [Bool.and_eq_true, Bool.or_eq_true, decide_eq_true_eq, beq_iff_eq] at h1
      obtain ⟨⟨hk, -⟩, hlen, hn⟩ := h1
      unfold okN
      refine ⟨⟨hk.1, hk.2, fun h => by omega, fun h => ?_, fun h => ?_, fun h => ?_, fun h => ?_⟩, ?_, by unfold okL; trivial, by unfold okL; trivial, by unfold okL; trivial⟩
      · rw [if_pos h] at hlen; omega
      · rw [if_neg (by omega), if_pos ⟨h, hk.2⟩] at hlen; omega
      · have := hus (nm, false) (List.mem_append_left _ (by subst h; simp [headU]))
        simpa [goodU] using this
      · have := hus (nm, true) (List.mem_append_left _ (by subst h; simp [headU]))
        simpa [goodU] using this
      · exact sl_rowR hx (fun b o hr => okL_of K w .E xs b o hr (fun y hy => hall y (List.mem_cons_of_mem _ hy)) (fun u hu => hus u (List.mem_append_right _ hu))) (fun h => by subst h; unfold okL; trivial)
    | C =>
      simp only [fits] at hfit
      obtain ⟨-, rfl, rfl⟩ := hfit
      have e : allN (.mk .C k n nm xs cs [] []) = .mk .C k n nm xs cs [] [] :: (allL xs ++ allL cs) := by unfold allN; rfl
      have eu : usesN (.mk .C k n nm xs cs [] []) = usesL xs ++ usesL cs := by unfold usesN; rfl
      rw [e] at hall
      rw [eu] at hus
      have h1 : wellC k n xs.length cs.length = true := hall _ (List.mem_cons_self ..)
      unfold wellC kindC ownC exprsC partsC at h1
      simp only [Bool.and_eq_true, decide_eq_true_eq, beq_iff_eq] at h1
      obtain ⟨hk, -, hxl, hcl⟩ := h1
      unfold okN
      refine ⟨⟨hk.1, hk.2, fun h => ?_, fun h => ?_, fun h => ?_⟩, ?_, ?_, by unfold okL; trivial, by unfold okL; trivial⟩
      · rw [if_pos h] at hxl; omega
      · rw [if_pos h] at hcl; omega
      · rw [if_neg (by omega), if_pos (by omega)] at hcl; omega
      · exact sl_rowR hx (fun b o hr => okL_of K w .E xs b o hr (fun y hy => hall y (List.mem_cons_of_mem _ (List.mem_append_left _ hy))) (fun u hu => hus u (List.mem_append_left _ hu))) (fun h => by subst h; unfold okL; trivial)
      · exact sl_rowR hc (fun b o hr => okL_of K w .C cs b o hr (fun y hy => hall y (List.mem_cons_of_mem _ (List.mem_append_right _ hy))) (fun u hu => hus u (List.mem_append_right _ hu))) (fun h => by subst h; unfold okL; trivial)
    | S =>
      have e : allN (.mk .S k n nm xs cs ts es) = .mk .S k n nm xs cs ts es :: (allL cs ++ (allL xs ++ (allL ts ++ allL es))) := by unfold allN; rfl
      have eu : usesN (.mk .S k n nm xs cs ts es) = headU nm (k == 1) (k == 2) ++ (usesL cs ++ (usesL xs ++ (usesL ts ++ usesL es))) := by unfold usesN; rfl
      rw [e] at hall
      rw [eu] at hus
      have h1 : wellS k nm xs.length cs.length ts.length es.length = true := hall _ (List.mem_cons_self ..)
      unfold wellS kindS ownS exprsS condsS at h1
      simp only [Bool.and_eq_true, Bool.or_eq_true, decide_eq_true_eq, beq_iff_eq] at h1
      obtain ⟨⟨hk, -⟩, hxl, hcl, -⟩ := h1
      unfold okN
      refine ⟨⟨hk.1, hk.2, fun h => ?_, fun h => ?_, fun h => ?_, fun h => ?_, fun h => ?_⟩, ?_, ?_, ?_, ?_⟩
      · rw [if_pos h] at hxl; omega
      · rw [if_neg (by omega), if_pos h] at hxl; omega
      · rw [if_pos h] at hcl; omega
      · have := hus (nm, false) (List.mem_append_left _ (by subst h; simp [headU]))
        simpa [goodU] using this
      · have := hus (nm, true) (List.mem_append_left _ (by subst h; simp [headU]))
        simpa [goodU] using this
      · exact sl_rowR hx (fun b o hr => okL_of K w .E xs b o hr (fun y hy => hall y (List.mem_cons_of_mem _ (List.mem_append_right _ (List.mem_append_left _ hy)))) (fun u hu => hus u (List.mem_append_right _ (List.mem_append_right _ (List.mem_append_left _ hu))))) (fun h => by subst h; unfold okL; trivial)
      · exact sl_rowR hc (fun b o hr => okL_of K w .C cs b o hr (fun y hy => hall y (List.mem_cons_of_mem _ (List.mem_append_left _ hy))) (fun u hu => hus u (List.mem_append_right _ (List.mem_append_left _ hu)))) (fun h => by subst h; unfold okL; trivial)
      · exact sl_rowR ht (fun b o hr => okL_of K w .S ts b o hr (fun y hy => hall y (List.mem_cons_of_mem _ (List.mem_append_right _ (List.mem_append_right _ (List.mem_append_left _ hy))))) (fun u hu => hus u (List.mem_append_right _ (List.mem_append_right _ (List.mem_append_right _ (List.mem_append_left _ hu)))))) (fun h => by subst h; unfold okL; trivial)
      · exact sl_rowR he (fun b o hr => okL_of K w .S es b o hr (fun y hy => hall y (List.mem_cons_of_mem _ (List.mem_append_right _ (List.mem_append_right _ (List.mem_append_right _ hy))))) (fun u hu => hus u (List.mem_append_right _ (List.mem_append_right _ (List.mem_append_right _ (List.mem_append_right _ hu)))))) (fun h => by subst h; unfold okL; trivial)
    | D =>
      simp only [fits] at hfit
      obtain ⟨-, rfl, rfl, rfl, rfl⟩ := hfit
      unfold okN
      refine ⟨trivial, ?_, ?_, ?_, ?_⟩ <;> (unfold okL; trivial)
theorem okL_of (K : Me) (w : World) : ∀ (ty : Ty) (l : List Nd) (b o : Nat), RowIn w ty l b o → (∀ y ∈ allL l, wellN y = true) → (∀ u ∈ usesL l, goodU K u) → okL K ty l
  | ty, [], _, _, _, _, _ => by unfold okL; trivial
  | ty, x :: r, b, o, hrow, hall, hus => by
    unfold RowIn at hrow
    obtain ⟨⟨hx, vs, -, hin⟩, hr⟩ := hrow
    have e : allL (x :: r) = allN x ++ allL r := by rw [allL]
    have eu : usesL (x :: r) = usesN x ++ usesL r := by rw [usesL]
    rw [e] at hall
    rw [eu] at hus
    unfold okL
    exact ⟨hx, okN_of K w x vs hin (fun y hy => hall y (List.mem_append_left _ hy)) (fun u hu => hus u (List.mem_append_left _ hu)), okL_of K w ty r b _ hr (fun y hy => hall y (List.mem_append_right _ hy)) (fun u hu => hus u (List.mem_append_right _ hu))⟩
end
theorem well_ok {K : Me} {w : World} {ds ss : List Nd} {v : Value} (hs : SlIn w .S ss v) (hz : (wellP ds ss).2 = 0) (hpl : K.E.pl = plW ds) (hnv : K.nv = (varsL ds).length) (hna : K.ab.length = (arrsL ds).length) : okL K .S ss := by
  obtain ⟨h1, h2, h3⟩ := wellP_ok hz
  have hall := prog_all h1
  have hus := bad_all _ h3
  refine sl_rowR hs (fun b o hr => okL_of K w .S ss b o hr (fun y hy => hall y (List.mem_append_right _ hy)) (fun u hu => ?_)) (fun h => by subst h; unfold okL; trivial)
  have hu1 := hus u hu
  unfold goodU
  rw [hpl, hnv, hna]
  split
  · rename_i hq
    rw [hq] at hu1
    exact pl_arr h2 hu1
  · rename_i hq
    have : u.2 = false := by simpa using hq
    rw [this] at hu1
    exact pl_var h2 hu1
end Go.Proofs.Ytbodbbdofoeclaa
