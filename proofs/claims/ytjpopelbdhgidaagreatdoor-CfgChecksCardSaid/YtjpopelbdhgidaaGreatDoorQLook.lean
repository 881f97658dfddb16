/-
  Plain: where names lie, in a map in memory; each declaration's name has its place.
-/
import Derived.Test.YtjpopelbdhgidaaGreatDoorQWellA
import Derived.Laws.MakeOwn
import Derived.Laws.OwnMore
import Derived.WalkLawsBesides

namespace Go.Proofs.YtjpopelbdhgidaaGreatDoor
open Go Go.RowKit Go.Maps

def putP (D : DataW Unit) (x : ByteArray × Nat) : DataW Unit := D.put (keyS x.1) (.lit (.int .i64 (x.2 : Int)))
def mapP (l : List (ByteArray × Nat)) : DataW Unit := l.foldl putP (.map [])
/-- What a name's place is, the last one that was laid; 0: none was. -/
def lookP (l : List (ByteArray × Nat)) (s : ByteArray) : Nat := l.foldl (fun k x => if x.1.toList == s.toList then x.2 else k) 0
theorem mapP_snoc (l : List (ByteArray × Nat)) (x : ByteArray × Nat) : mapP (l ++ [x]) = (mapP l).put (keyS x.1) (.lit (.int .i64 (x.2 : Int))) := by unfold mapP; rw [List.foldl_append]; rfl
theorem lookP_snoc (l : List (ByteArray × Nat)) (x : ByteArray × Nat) (s : ByteArray) : lookP (l ++ [x]) s = if x.1.toList == s.toList then x.2 else lookP l s := by unfold lookP; rw [List.foldl_append]; rfl
theorem isMap_foldP : ∀ (l : List (ByteArray × Nat)) (D : DataW Unit), IsMap D → IsMap (l.foldl putP D)
  | [], _, h => h
  | _ :: r, _, h => isMap_foldP r _ (isMap_put h _ _)
theorem isMap_mapP (l : List (ByteArray × Nat)) : IsMap (mapP l) := isMap_foldP l _ ⟨[], rfl⟩
theorem mapP_at_rev : ∀ (l : List (ByteArray × Nat)) (s : ByteArray), (mapP l.reverse).atKey (keyS s) (.lit (.int .i64 0)) = .lit (.int .i64 (lookP l.reverse s : Int))
  | [], s => rfl
  | x :: r, s => by
    rw [List.reverse_cons, mapP_snoc, lookP_snoc]
    by_cases h : x.1.toList = s.toList
    · rw [if_pos (by simpa using h), keyS_eq h]
      exact atKey_put_same (isMap_mapP _) (show WideAt.IsKeyLit (keyS s) from True.intro) _ _
    · rw [if_neg (by simpa using h), atKey_put_other (keyS_ne h)]
      exact mapP_at_rev r s
theorem mapP_at (l : List (ByteArray × Nat)) (s : ByteArray) : (mapP l).atKey (keyS s) (.lit (.int .i64 0)) = .lit (.int .i64 (lookP l s : Int)) := by
  have h := mapP_at_rev l.reverse s
  rwa [List.reverse_reverse] at h
theorem take_succ' {α : Type} {l : List α} {i : Nat} (hi : i < l.length) : l.take (i + 1) = l.take i ++ [l[i]] := (List.take_append_getElem hi).symm
def pairsV (VN : List ByteArray) : List (ByteArray × Nat) := VN.zipIdx
def pairsA (AN : List Nd) : List (ByteArray × Nat) := (AN.map dNm).zipIdx
theorem cellsD_at : ∀ (l : List Nd) (i : Nat) (h : i < l.length), (cellsD l)[i * 2]? = some (.string (dNm l[i])) ∧ (cellsD l)[i * 2 + 1]? = some (.int .i64 (dSz l[i]))
  | [], i, h => by simp at h
  | x :: r, 0, _ => by simp [cellsD]
  | x :: r, i + 1, h => by
    have := cellsD_at r i (by simpa using h)
    have e : cellsD (x :: r) = [.string (dNm x), .int .i64 (dSz x)] ++ cellsD r := by simp [cellsD]
    rw [e, show (i + 1) * 2 = i * 2 + 2 by omega, show i * 2 + 2 + 1 = (i * 2 + 1) + 2 by omega]
    simpa using this
theorem pairsV_at (VN : List ByteArray) (i : Nat) (h : i < VN.length) : (pairsV VN).take (i + 1) = (pairsV VN).take i ++ [(VN[i], i)] := by
  have hl : i < (pairsV VN).length := by simpa [pairsV] using h
  rw [take_succ' hl]
  simp [pairsV]
theorem pairsA_at (AN : List Nd) (i : Nat) (h : i < AN.length) : (pairsA AN).take (i + 1) = (pairsA AN).take i ++ [(dNm AN[i], i)] := by
  have hl : i < (pairsA AN).length := by simpa [pairsA] using h
  rw [take_succ' hl]
  simp [pairsA]
theorem i64_nat (i : Nat) (hi : i ≤ 1024) : (Lit.int .i64 (i : Int)).wf = true := by
  simp only [Lit.wf, Bool.and_eq_true, decide_eq_true_eq]
  have e1 : IntKind.i64.min = -9223372036854775808 := by decide
  have e2 : IntKind.i64.max = 9223372036854775807 := by decide
  omega
theorem upd_any {w : World} {G n : Nat} {D : DataW Unit} (h : OwnM w G n D) (hn : n < maxLen) (nm : ByteArray) (hz : nm.size ≤ maxLen) (i : Nat) (hi : i ≤ 1024) : ∃ w', (Instr.mapUpdate 80 (.map (some G)) (.string nm) (.int .i64 (i : Int))).run Tryz.prog w = .ok () w' ∧ OwnM w' G (n + 1) (D.put (keyS nm) (.lit (.int .i64 (i : Int)))) ∧ w.grownBy w' (some G) :=
  h.update law9 (by kernel_rfl : Tryz.prog.underlying 80 = some (.map 9 3)) hn (WideMaps.keyOf_string_mk (by kernel_rfl) hz : keyOf Tryz.prog 9 (.string nm) = some (keyS nm)) (plainElem_int under_int (i64_nat i hi))

theorem declW_dF : ∀ (p r : List Nd), (declW p r).2 = 0 → ∀ i (h : i < r.length), dF (p ++ r.take i) r[i] = 0
  | p, [], _, i, h => by simp at h
  | p, x :: r, hz, i, h => by
    unfold declW at hz
    by_cases h0 : dF p x ≠ 0
    · rw [if_pos h0] at hz
      exact absurd hz h0
    · rw [if_neg h0] at hz
      cases i with
      | zero =>
        simp only [List.take_zero, List.append_nil, List.getElem_cons_zero]
        exact Decidable.not_not.1 h0
      | succ i =>
        have := declW_dF (p ++ [x]) r hz i (by simpa using h)
        simpa using this
theorem varsL_mem {ds : List Nd} {s : ByteArray} (h : s ∈ varsL ds) : ∃ x ∈ ds, dSz x = 0 ∧ dNm x = s := by
  unfold varsL at h
  obtain ⟨x, hx, e⟩ := List.mem_map.1 h
  have h1 := List.mem_filter.1 hx
  exact ⟨x, h1.1, by simpa using h1.2, e⟩
theorem arrsL_mem {ds : List Nd} {x : Nd} (h : x ∈ arrsL ds) : x ∈ ds ∧ dSz x ≠ 0 := by
  have h1 := List.mem_filter.1 h
  exact ⟨h1.1, by simpa using h1.2⟩
/-- Where names lie. -/
def plW (ds : List Nd) : ByteArray → Nat := lookP (pairsV (varsL ds) ++ pairsA (arrsL ds))
theorem cnt_le {ds : List Nd} (h : (declW [] ds).2 = 0) (k : Int) : ∀ i, i ≤ ds.length → (cntK (ds.take i) k : Int) ≤ mostK k
  | 0, _ => by
    rw [List.take_zero]
    unfold cntK mostK
    simp only [List.filter_nil, List.length_nil]
    split <;> decide
  | i + 1, hi => by
    have ih := cnt_le h k i (by omega)
    have h1 := declW_dF [] ds h i (by omega)
    rw [List.nil_append] at h1
    rw [take_succ' (by omega : i < ds.length), cntK_snoc]
    by_cases hk : (kD (dSz ds[i]) == k) = true
    · rw [if_pos hk]
      have hk' : kD (dSz ds[i]) = k := by simpa using hk
      unfold dF at h1
      rw [hk'] at h1
      split at h1
      · cases h1
      · split at h1
        · cases h1
        · split at h1
          · cases h1
          · push_cast
            omega
    · rw [if_neg hk]
      exact ih
theorem vars_few {ds : List Nd} (h : (declW [] ds).2 = 0) : (varsL ds).length ≤ 32 := by
  have h1 := cnt_le h 1 ds.length (Nat.le_refl _)
  rw [List.take_length] at h1
  have e : cntK ds 1 = (varsL ds).length := by
    unfold cntK varsL
    rw [List.length_map]
    congr 1
    apply List.filter_congr
    intro x _
    unfold kD
    by_cases hz : dSz x = 0 <;> simp [hz]
  rw [e] at h1
  have e2 : mostK 1 = 32 := rfl
  omega
theorem arrs_few {ds : List Nd} (h : (declW [] ds).2 = 0) : (arrsL ds).length ≤ 16 := by
  have h1 := cnt_le h 2 ds.length (Nat.le_refl _)
  rw [List.take_length] at h1
  have e : cntK ds 2 = (arrsL ds).length := by
    unfold cntK arrsL
    congr 1
    apply List.filter_congr
    intro x _
    unfold kD
    by_cases hz : dSz x = 0 <;> simp [hz]
  rw [e] at h1
  have e2 : mostK 2 = 16 := rfl
  omega
theorem prog_all {ds ss : List Nd} (hz : faultT (progT ds ss) = 0) : ∀ y ∈ allL ds ++ allL ss, wellN y = true := by
  unfold faultT at hz
  by_cases h0 : (progT ds ss).lim = 0
  · rw [if_neg (by simpa using h0)] at hz
    rw [progT_list h0] at hz
    have happ : ∀ (l m : List Nd), allL (l ++ m) = allL l ++ allL m := by
      intro l m
      induction l with
      | nil => simp [allL]
      | cons x r ih => rw [List.cons_append, allL, allL, ih, List.append_assoc]
    rw [happ] at hz
    by_cases h1 : (allL ds ++ allL ss).any (fun x => !wellN x) = true
    · rw [if_pos h1] at hz; cases hz
    · intro y hy
      cases hw : wellN y with
      | true => rfl
      | false => exact absurd (List.any_eq_true.2 ⟨y, hy, by simp [hw]⟩) h1
  · rw [if_pos (by simpa using h0)] at hz
    exact absurd hz (by simpa using h0)
theorem ownsRow_only {w w' : World} {base : Nat} {e : TypeId} {size n B : Nat} {v : Value} {xs : List Value} (h : w.ownsRow base e size v n xs) (ho : Only B w w') (hB : B < base) : w'.ownsRow base e size v n xs := by
  refine h.kept (only_grown ho) ?_
  cases hb : v.ownBlock with
  | none => exact .inl rfl
  | some k =>
    right
    intro e
    have := (h.lt k hb).1
    simp only [Option.some.injEq] at e
    omega
end Go.Proofs.YtjpopelbdhgidaaGreatDoor
