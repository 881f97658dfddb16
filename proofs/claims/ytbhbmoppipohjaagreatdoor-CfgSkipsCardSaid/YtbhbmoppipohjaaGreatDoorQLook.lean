/-
  Plain: where names lie, in a map in memory; each declaration's name has its place.
-/
import Derived.Test.YtbhbmoppipohjaaGreatDoorQWellA
import Derived.Laws.MakeOwn
import Derived.Laws.OwnMore
import Derived.WalkLawsBesides

namespace Go.Proofs.YtbhbmoppipohjaaGreatDoor
open Go Go.RowKit Go.Maps

def putP (D : DataW Unit) (x : ByteArray × Nat) : DataW Unit := D.put (keyS x.1) (.lit (.int .i64 (x.2 : Int)))
def mapP (l : List (ByteArray × Nat)) : DataW Unit := l.foldl putP (.map [])
/-- What a name's place is, the last one that was laid; 0: none was. -/
def lookP (l : List (ByteArray × Nat)) (s : ByteArray) : Nat := l.foldl (fun k x => if x.1.toList == s.toList then x.2 else k) 0
theorem mapP_snoc (l : List (ByteArray × Nat)) (x : ByteArray × Nat) : mapP (l ++ [x]) = (mapP l).put (keyS x.1) (.lit (.int .i64 (x.2 : Int))) := by unfold mapP; rw [List.foldl_append]; rfl
theorem lookP_snoc (l : List (ByteArray × Nat)) (x : ByteArray × Nat) (s : ByteArray) : lookP (l ++ [x]) s = if x.1.toList == s.toList then x.2 else lookP l s := by unfold lookP; rw [List.foldl_append]; rfl
theorem isMap_foldP : ∀ (l : List (ByteArray × Nat)) (D : DataW Unit), IsMap D → IsMap (l.foldl putP D)
  | [], _, h => h
  | _ :: r, _, h => isMap_foldP r _ (isMap_put h _ _)
theorem isMap_mapP (l : List (ByteArray × Nat)) : IsMap (mapP l) := isMap_foldP l _ ⟨[], rfl⟩
theorem mapP_at_rev : ∀ (l : List (ByteArray × Nat)) (s : ByteArray), (mapP l.reverse).atKey (keyS s) (.lit (.int .i64 0)) = .lit (.int .i64 (lookP l.reverse s : Int))
  | [], s => rfl
  | x :: r, s => by
    rw [List.reverse_cons, mapP_snoc, lookP_snoc]
    by_cases h : x.1.toList = s.toList
    · rw [if_pos (by simpa using h), keyS_eq h]
      exact atKey_put_same (isMap_mapP _) (show WideAt.IsKeyLit (keyS s) from True.intro) _ _
    · rw [if_neg (by simpa using h), atKey_put_other (keyS_ne h)]
      exact mapP_at_rev r s
theorem mapP_at (l : List (ByteArray × Nat)) (s : ByteArray) : (mapP l).atKey (keyS s) (.lit (.int .i64 0)) = .lit (.int .i64 (lookP l s : Int)) := by
  have h := mapP_at_rev l.reverse s
  rwa [List.reverse_reverse] at h
theorem take_succ' {α : Type} {l : List α} {i : Nat} (hi : i < l.length) : l.take (i + 1) = l.take i ++ [l[i]] := (List.take_append_getElem hi).symm
def zerosA (x : Nd) : Nat := (dSz x).toNat
def pairsV (VN : List ByteArray) : List (ByteArray × Nat) := VN.zipIdx
def pairsA (AN : List Nd) : List (ByteArray × Nat) := (AN.map dNm).zipIdx
theorem cellsD_at : ∀ (l : List Nd) (i : Nat) (h : i < l.length), (cellsD l)[i * 2]? = some (.string (dNm l[i])) ∧ (cellsD l)[i * 2 + 1]? = some (.int .i64 (dSz l[i]))
  | [], i, h => by simp at h
  | x :: r, 0, _ => by simp [cellsD]
  | x :: r, i + 1, h => by
    have := cellsD_at r i (by simpa using h)
    have e : cellsD (x :: r) = [.string (dNm x), .int .i64 (dSz x)] ++ cellsD r := by simp [cellsD]
    rw [e, show (i + 1) * 2 = i * 2 + 2 by omega, show i * 2 + 2 + 1 = (i * 2 + 1) + 2 by omega]
    simpa using this
theorem pairsV_at (VN : List ByteArray) (i : Nat) (h : i < VN.length) : (pairsV VN).take (i + 1) = (pairsV VN).take i ++ [(VN[i], i)] := by
  have hl : i < (pairsV VN).length := by simpa [pairsV] using h
  rw [take_succ' hl]
  simp [pairsV]
theorem pairsA_at (AN : List Nd) (i : Nat) (h : i < AN.length) : (pairsA AN).take (i + 1) = (pairsA AN).take i ++ [(dNm AN[i], i)] := by
  have hl : i < (pairsA AN).length := by simpa [pairsA] using h
  rw [take_succ' hl]
  simp [pairsA]
theorem i64_nat (i : Nat) (hi : i ≤ 1024) : (Lit.int .i64 (i : Int)).wf = true := by
  simp only [Lit.wf, Bool.and_eq_true, decide_eq_true_eq]
  have e1 : IntKind.i64.min = -9223372036854775808 := by decide
  have e2 : IntKind.i64.max = 9223372036854775807 := by decide
  omega
theorem upd_any {w : World} {G n : Nat} {D : DataW Unit} (h : OwnM w G n D) (hn : n < maxLen) (nm : ByteArray) (hz : nm.size ≤ maxLen) (i : Nat) (hi : i ≤ 1024) : ∃ w', (Instr.mapUpdate 69 (.map (some G)) (.string nm) (.int .i64 (i : Int))).run Tryz.prog w = .ok () w' ∧ OwnM w' G (n + 1) (D.put (keyS nm) (.lit (.int .i64 (i : Int)))) ∧ w.grownBy w' (some G) :=
  h.update law9 (by kernel_rfl : Tryz.prog.underlying 69 = some (.map 9 3)) hn (WideMaps.keyOf_string_mk (by kernel_rfl) hz : keyOf Tryz.prog 9 (.string nm) = some (keyS nm)) (plainElem_int under_int (i64_nat i hi))

theorem grown_undrew {w w' : World} {row : Option Nat} (h : w.drew.grownBy w' row) : w.grownBy w' row := ⟨h.os, h.tape, h.output, h.size, h.block⟩
theorem lookP_none : ∀ (l : List (ByteArray × Nat)) (s : ByteArray), (∀ p ∈ l.reverse, ¬ p.1.toList = s.toList) → lookP l.reverse s = 0
  | [], s, _ => rfl
  | x :: r, s, h => by
    rw [List.reverse_cons, lookP_snoc]
    rw [if_neg (by simpa using h x (by simp))]
    exact lookP_none r s (fun p hp => h p (by rw [List.reverse_cons]; exact List.mem_append_left _ hp))
theorem lookP_rev : ∀ (l : List (ByteArray × Nat)) (s : ByteArray), (∃ p ∈ l.reverse, p.1.toList = s.toList) → ∃ p ∈ l.reverse, p.1.toList = s.toList ∧ lookP l.reverse s = p.2
  | [], s, h => by obtain ⟨p, hp, _⟩ := h; cases hp
  | x :: r, s, h => by
    rw [List.reverse_cons, lookP_snoc]
    by_cases hx : x.1.toList = s.toList
    · exact ⟨x, by simp, hx, by rw [if_pos (by simpa using hx)]⟩
    · obtain ⟨p, hp, hps⟩ := h
      rw [List.reverse_cons] at hp
      have hp2 : p ∈ r.reverse := by
        rcases List.mem_append.1 hp with h1 | h1
        · exact h1
        · rw [List.mem_singleton.1 h1] at hps; exact absurd hps hx
      obtain ⟨q, hq, hqs, hl⟩ := lookP_rev r s ⟨p, hp2, hps⟩
      exact ⟨q, List.mem_append_left _ hq, hqs, by rw [if_neg (by simpa using hx)]; exact hl⟩
theorem lookP_some {l : List (ByteArray × Nat)} {s : ByteArray} (h : ∃ p ∈ l, p.1.toList = s.toList) : ∃ p ∈ l, p.1.toList = s.toList ∧ lookP l s = p.2 := by
  have := lookP_rev l.reverse s (by rw [List.reverse_reverse]; exact h)
  rwa [List.reverse_reverse] at this
theorem mem_pairsV {VN : List ByteArray} {p : ByteArray × Nat} (h : p ∈ pairsV VN) : p.2 < VN.length ∧ p.1 ∈ VN := by
  unfold pairsV at h
  have h1 := List.mem_zipIdx h
  refine ⟨by omega, ?_⟩
  rw [h1.2.2]
  exact List.getElem_mem _
theorem mem_pairsA {AN : List Nd} {p : ByteArray × Nat} (h : p ∈ pairsA AN) : p.2 < AN.length ∧ ∃ y ∈ AN, p.1 = dNm y := by
  unfold pairsA at h
  have h1 := List.mem_zipIdx h
  refine ⟨by have := h1.2.1; simp at this; omega, ?_⟩
  have h2 := h1.2.2
  have hm : p.1 ∈ AN.map dNm := by rw [h2]; exact List.getElem_mem _
  obtain ⟨y, hy, e⟩ := List.mem_map.1 hm
  exact ⟨y, hy, e.symm⟩
theorem of_mem_pairsV {VN : List ByteArray} {s : ByteArray} (h : s ∈ VN) : ∃ p ∈ pairsV VN, p.1 = s := by
  obtain ⟨i, hi, rfl⟩ := List.getElem_of_mem h
  refine ⟨(VN[i], i), ?_, rfl⟩
  unfold pairsV
  rw [List.mem_zipIdx_iff_getElem?]
  simp [hi]
theorem of_mem_pairsA {AN : List Nd} {y : Nd} (h : y ∈ AN) : ∃ p ∈ pairsA AN, p.1 = dNm y := by
  have h1 : dNm y ∈ AN.map dNm := List.mem_map_of_mem h
  obtain ⟨i, hi, e⟩ := List.getElem_of_mem h1
  refine ⟨(dNm y, i), ?_, rfl⟩
  unfold pairsA
  rw [List.mem_zipIdx_iff_getElem?]
  rw [List.getElem?_eq_getElem hi, e]
/-- A name that is declared as something: by a declaration. -/
theorem lookL_rev : ∀ (l : List Nd) (s : ByteArray), lookL l.reverse s ≠ 0 → ∃ x ∈ l.reverse, (dNm x).toList = s.toList ∧ kD (dSz x) = lookL l.reverse s
  | [], s, h => absurd rfl h
  | x :: r, s, h => by
    rw [List.reverse_cons, lookL_snoc] at h ⊢
    by_cases hx : (dNm x).toList = s.toList
    · exact ⟨x, by simp, hx, by rw [if_pos (by simpa using hx)]⟩
    · rw [if_neg (by simpa using hx)] at h ⊢
      obtain ⟨y, hy, h1, h2⟩ := lookL_rev r s h
      exact ⟨y, List.mem_append_left _ hy, h1, h2⟩
theorem lookL_some {l : List Nd} {s : ByteArray} (h : lookL l s ≠ 0) : ∃ x ∈ l, (dNm x).toList = s.toList ∧ kD (dSz x) = lookL l s := by
  have := lookL_rev l.reverse s (by rw [List.reverse_reverse]; exact h)
  rwa [List.reverse_reverse] at this
theorem lookL_zero_rev : ∀ (l : List Nd) (s : ByteArray), lookL l.reverse s = 0 → ∀ x ∈ l.reverse, ¬ (dNm x).toList = s.toList
  | [], s, _, x, hx => by cases hx
  | y :: r, s, h, x, hx => by
    rw [List.reverse_cons, lookL_snoc] at h
    rw [List.reverse_cons] at hx
    by_cases hy : (dNm y).toList = s.toList
    · rw [if_pos (by simpa using hy)] at h
      unfold kD at h
      split at h <;> cases h
    · rw [if_neg (by simpa using hy)] at h
      rcases List.mem_append.1 hx with h1 | h1
      · exact lookL_zero_rev r s h x h1
      · rw [List.mem_singleton.1 h1]; exact hy
theorem lookL_zero {l : List Nd} {s : ByteArray} (h : lookL l s = 0) : ∀ x ∈ l, ¬ (dNm x).toList = s.toList := by
  have := lookL_zero_rev l.reverse s (by rw [List.reverse_reverse]; exact h)
  rwa [List.reverse_reverse] at this
theorem declW_dF : ∀ (p r : List Nd), (declW p r).2 = 0 → ∀ i (h : i < r.length), dF (p ++ r.take i) r[i] = 0
  | p, [], _, i, h => by simp at h
  | p, x :: r, hz, i, h => by
    unfold declW at hz
    by_cases h0 : dF p x ≠ 0
    · rw [if_pos h0] at hz
      exact absurd hz h0
    · rw [if_neg h0] at hz
      cases i with
      | zero =>
        simp only [List.take_zero, List.append_nil, List.getElem_cons_zero]
        exact Decidable.not_not.1 h0
      | succ i =>
        have := declW_dF (p ++ [x]) r hz i (by simpa using h)
        simpa using this
/-- Each name is declared once. -/
theorem decl_once {ds : List Nd} (h : (declW [] ds).2 = 0) (i j : Nat) (hi : i < ds.length) (hj : j < ds.length) (he : (dNm ds[i]).toList = (dNm ds[j]).toList) : i = j := by
  have key : ∀ a b (ha : a < ds.length) (hb : b < ds.length), a < b → ¬ (dNm ds[a]).toList = (dNm ds[b]).toList := by
    intro a b ha hb hab e
    have h1 := declW_dF [] ds h b hb
    rw [List.nil_append] at h1
    unfold dF at h1
    by_cases h2 : lookL (ds.take b) (dNm ds[b]) = 0
    · exact lookL_zero h2 ds[a] (by rw [List.mem_take_iff_getElem]; exact ⟨a, by omega, rfl⟩) e
    · rw [if_pos h2] at h1; cases h1
  rcases Nat.lt_trichotomy i j with h1 | h1 | h1
  · exact absurd he (key i j hi hj h1)
  · exact h1
  · exact absurd he.symm (key j i hj hi h1)
theorem decl_sz {ds : List Nd} (h : (declW [] ds).2 = 0) : ∀ x ∈ ds, dSz x ≤ 1024 := by
  intro x hx
  obtain ⟨i, hi, rfl⟩ := List.getElem_of_mem hx
  have h1 := declW_dF [] ds h i hi
  unfold dF at h1
  split at h1
  · cases h1
  · split at h1
    · cases h1
    · omega
theorem varsL_mem {ds : List Nd} {s : ByteArray} (h : s ∈ varsL ds) : ∃ x ∈ ds, dSz x = 0 ∧ dNm x = s := by
  unfold varsL at h
  obtain ⟨x, hx, e⟩ := List.mem_map.1 h
  have h1 := List.mem_filter.1 hx
  exact ⟨x, h1.1, by simpa using h1.2, e⟩
theorem mem_varsL {ds : List Nd} {x : Nd} (h : x ∈ ds) (hz : dSz x = 0) : dNm x ∈ varsL ds := by
  unfold varsL
  exact List.mem_map.2 ⟨x, List.mem_filter.2 ⟨h, by simpa using hz⟩, rfl⟩
theorem arrsL_mem {ds : List Nd} {x : Nd} (h : x ∈ arrsL ds) : x ∈ ds ∧ dSz x ≠ 0 := by
  have h1 := List.mem_filter.1 h
  exact ⟨h1.1, by simpa using h1.2⟩
theorem mem_arrsL {ds : List Nd} {x : Nd} (h : x ∈ ds) (hz : dSz x ≠ 0) : x ∈ arrsL ds := List.mem_filter.2 ⟨h, by simpa using hz⟩
theorem once_eq {ds : List Nd} (h : (declW [] ds).2 = 0) {x y : Nd} (hx : x ∈ ds) (hy : y ∈ ds) (he : (dNm x).toList = (dNm y).toList) : x = y := by
  obtain ⟨i, hi, rfl⟩ := List.getElem_of_mem hx
  obtain ⟨j, hj, rfl⟩ := List.getElem_of_mem hy
  have := decl_once h i j hi hj he
  subst this
  rfl
/-- Where names lie. -/
def plW (ds : List Nd) : ByteArray → Nat := lookP (pairsV (varsL ds) ++ pairsA (arrsL ds))
theorem pl_var {ds : List Nd} (h : (declW [] ds).2 = 0) {s : ByteArray} (hs : lookL ds s = 1) : plW ds s < (varsL ds).length := by
  obtain ⟨x, hx, he, hk⟩ := lookL_some (l := ds) (s := s) (by rw [hs]; decide)
  rw [hs] at hk
  have hz : dSz x = 0 := by
    unfold kD at hk
    split at hk
    · assumption
    · cases hk
  obtain ⟨p, hp, hpe⟩ := of_mem_pairsV (mem_varsL hx hz)
  obtain ⟨q, hq, hqs, hl⟩ := lookP_some (l := pairsV (varsL ds) ++ pairsA (arrsL ds)) (s := s) ⟨p, List.mem_append_left _ hp, by rw [hpe]; exact he⟩
  unfold plW
  rw [hl]
  rcases List.mem_append.1 hq with h1 | h1
  · exact (mem_pairsV h1).1
  · exfalso
    obtain ⟨-, y, hy, e⟩ := mem_pairsA h1
    obtain ⟨hy1, hy2⟩ := arrsL_mem hy
    have := once_eq h hx hy1 (by rw [he, ← hqs, e])
    exact hy2 (by rw [← this]; exact hz)
theorem pl_arr {ds : List Nd} (h : (declW [] ds).2 = 0) {s : ByteArray} (hs : lookL ds s = 2) : plW ds s < (arrsL ds).length := by
  obtain ⟨x, hx, he, hk⟩ := lookL_some (l := ds) (s := s) (by rw [hs]; decide)
  rw [hs] at hk
  have hz : dSz x ≠ 0 := by
    intro e
    unfold kD at hk
    rw [if_pos e] at hk
    cases hk
  obtain ⟨p, hp, hpe⟩ := of_mem_pairsA (mem_arrsL hx hz)
  obtain ⟨q, hq, hqs, hl⟩ := lookP_some (l := pairsV (varsL ds) ++ pairsA (arrsL ds)) (s := s) ⟨p, List.mem_append_right _ hp, by rw [hpe]; exact he⟩
  unfold plW
  rw [hl]
  rcases List.mem_append.1 hq with h1 | h1
  · exfalso
    obtain ⟨y, hy1, hy2, e⟩ := varsL_mem (mem_pairsV h1).2
    have := once_eq h hx hy1 (by rw [he, ← hqs, e])
    exact hz (by rw [this]; exact hy2)
  · exact (mem_pairsA h1).1
theorem cnt_le {ds : List Nd} (h : (declW [] ds).2 = 0) (k : Int) : ∀ i, i ≤ ds.length → (cntK (ds.take i) k : Int) ≤ mostK k
  | 0, _ => by
    rw [List.take_zero]
    unfold cntK mostK
    simp only [List.filter_nil, List.length_nil]
    split <;> decide
  | i + 1, hi => by
    have ih := cnt_le h k i (by omega)
    have h1 := declW_dF [] ds h i (by omega)
    rw [List.nil_append] at h1
    rw [take_succ' (by omega : i < ds.length), cntK_snoc]
    by_cases hk : (kD (dSz ds[i]) == k) = true
    · rw [if_pos hk]
      have hk' : kD (dSz ds[i]) = k := by simpa using hk
      unfold dF at h1
      rw [hk'] at h1
      split at h1
      · cases h1
      · split at h1
        · cases h1
        · split at h1
          · cases h1
          · push_cast
            omega
    · rw [if_neg hk]
      exact ih
theorem vars_few {ds : List Nd} (h : (declW [] ds).2 = 0) : (varsL ds).length ≤ 32 := by
  have h1 := cnt_le h 1 ds.length (Nat.le_refl _)
  rw [List.take_length] at h1
  have e : cntK ds 1 = (varsL ds).length := by
    unfold cntK varsL
    rw [List.length_map]
    congr 1
    apply List.filter_congr
    intro x _
    unfold kD
    by_cases hz : dSz x = 0 <;> simp [hz]
  rw [e] at h1
  have e2 : mostK 1 = 32 := rfl
  omega
theorem arrs_few {ds : List Nd} (h : (declW [] ds).2 = 0) : (arrsL ds).length ≤ 16 := by
  have h1 := cnt_le h 2 ds.length (Nat.le_refl _)
  rw [List.take_length] at h1
  have e : cntK ds 2 = (arrsL ds).length := by
    unfold cntK arrsL
    congr 1
    apply List.filter_congr
    intro x _
    unfold kD
    by_cases hz : dSz x = 0 <;> simp [hz]
  rw [e] at h1
  have e2 : mostK 2 = 16 := rfl
  omega
theorem bad_all {f : ByteArray → Int} : ∀ (l : List Us), (badU f l).2 = 0 → ∀ u ∈ l, f u.1 = kindB u.2
  | [], _, u, hu => by cases hu
  | x :: r, h, u, hu => by
    unfold badU at h
    split at h
    · cases h
    · split at h
      · rename_i h1
        rcases List.mem_cons.1 hu with rfl | hu
        · exact h1
        · exact bad_all r h u hu
      · cases h
theorem prog_all {ds ss : List Nd} (hz : faultT (progT ds ss) = 0) : ∀ y ∈ allL ds ++ allL ss, wellN y = true := by
  unfold faultT at hz
  by_cases h0 : (progT ds ss).lim = 0
  · rw [if_neg (by simpa using h0)] at hz
    rw [progT_list h0] at hz
    have happ : ∀ (l m : List Nd), allL (l ++ m) = allL l ++ allL m := by
      intro l m
      induction l with
      | nil => simp [allL]
      | cons x r ih => rw [List.cons_append, allL, allL, ih, List.append_assoc]
    rw [happ] at hz
    by_cases h1 : (allL ds ++ allL ss).any (fun x => !wellN x) = true
    · rw [if_pos h1] at hz; cases hz
    · intro y hy
      cases hw : wellN y with
      | true => rfl
      | false => exact absurd (List.any_eq_true.2 ⟨y, hy, by simp [hw]⟩) h1
  · rw [if_pos (by simpa using h0)] at hz
    exact absurd hz (by simpa using h0)
theorem sl_rowR {w : World} {ty : Ty} {l : List Nd} {v : Value} {P : Prop} (h : SlOf l.length (fun b o => RowIn w ty l b o) v) (hr : ∀ b o, RowIn w ty l b o → P) (h0 : l = [] → P) : P := by
  obtain ⟨a, c, _, _, _, hz | ⟨b, o, _, hrow⟩⟩ := h
  · exact h0 (List.eq_nil_of_length_eq_zero hz)
  · exact hr b o hrow
theorem ownsRow_only {w w' : World} {base : Nat} {e : TypeId} {size n B : Nat} {v : Value} {xs : List Value} (h : w.ownsRow base e size v n xs) (ho : Only B w w') (hB : B < base) : w'.ownsRow base e size v n xs := by
  refine h.kept (only_grown ho) ?_
  cases hb : v.ownBlock with
  | none => exact .inl rfl
  | some k =>
    right
    intro e
    have := (h.lt k hb).1
    simp only [Option.some.injEq] at e
    omega
end Go.Proofs.YtbhbmoppipohjaaGreatDoor
