/-
  A region that draws its order, whose operations read, or call what leaves older memory: proved is that it ends with each operation's value in its place, whatever its order, if each operation gives its value when those that it waits for have given theirs.
-/
import Derived.Test.YthnefcafhpioaaaSeq
import Derived.RegionTactic
namespace Go.Proofs.Ythnefcafhpioaaa
open Go Go.RowKit

theorem cnt_set {l : List Bool} {i : Nat} (h : l[i]? = some false) : (l.set i true).count false + 1 = l.count false := by
  induction l generalizing i with
  | nil => cases h
  | cons x r ih =>
    cases i with
    | zero => simp at h; subst h; simp
    | succ i =>
      have := ih (i := i) (by simpa using h)
      simp only [List.set_cons_succ, List.count_cons]
      omega
theorem wpAny_iv {P : Program} {ops : Array Oper} {Q : Exit → Act → World → Prop} {md : Region.Mode} (I : Array Bool → Act → World → Prop)
    (hs : ∀ l a w, I l a w → ∀ i o, ops[i]? = some o → l.getD i true = false → (∀ e ∈ o.after, Region.binds md e = true → l.getD e.on false = true) → wpOp P ops Q i (fun a' w' => I (l.setIfInBounds i true) a' w') a w)
    (hd : ∀ l a w, I l a w → Region.ready md ops l = [] → Q .normal a w) : ∀ n l a w, l.toList.count false ≤ n → I l a w → wpAny P md ops Q n l a w
  | 0, l, a, w, hn, hI => by
    have hr : Region.ready md ops l = [] := by
      refine List.eq_nil_iff_forall_not_mem.2 fun i hi => ?_
      obtain ⟨h0, -⟩ := mem_ready.1 hi
      have hm : false ∈ l.toList := by
        have hlt : i < l.size := by
          rcases Nat.lt_or_ge i l.size with h' | h'
          · exact h'
          · simp [Array.getElem?_eq_none h'] at h0
        have : l[i] = false := by simpa [hlt] using h0
        rw [← this]
        simp
      have := List.count_pos_iff.2 hm
      omega
    exact ⟨hr, hd l a w hI hr⟩
  | n + 1, l, a, w, hn, hI => by
    refine ⟨hd l a w hI, fun i hi => ?_⟩
    obtain ⟨h0, o, ho, hall⟩ := mem_ready.1 hi
    refine wpOp_mono (fun a' w' h => wpAny_iv I hs hd n _ a' w' ?_ h) (hs l a w hI i o ho h0 hall)
    have hlt : i < l.size := by
      rcases Nat.lt_or_ge i l.size with h' | h'
      · exact h'
      · simp [Array.getElem?_eq_none h'] at h0
    have h1 : l.toList[i]? = some false := by
      have : l[i] = false := by simpa [hlt] using h0
      simp [hlt, this]
    have := cnt_set h1
    rw [Array.toList_setIfInBounds]
    omega
theorem all_up {md : Region.Mode} {ops : Array Oper} (hord : ((List.range ops.size).all fun j => ((ops[j]?).map (fun o => o.after.all fun e => decide (e.on < j))).getD true) = true) (l : Array Bool) (hr : Region.ready md ops l = []) (hl : l.size = ops.size) : ∀ j, j < ops.size → l.getD j false = true := by
  intro j
  induction j using Nat.strongRecOn with
  | ind j ih =>
    intro hj
    cases hv : l.getD j false with
    | true => rfl
    | false =>
      exfalso
      have hlt : j < l.size := by omega
      have h0 : l.getD j true = false := by
        simp [hlt] at hv ⊢
        exact hv
      have ho : ops[j]? = some ops[j] := Array.getElem?_eq_getElem hj
      have hm : j ∈ Region.ready md ops l := mem_ready.2 ⟨h0, _, ho, fun e he _ => by
        have h1 := List.all_eq_true.1 hord j (List.mem_range.2 hj)
        rw [ho] at h1
        simp only [Option.map_some, Option.getD_some] at h1
        have h2 := Array.all_eq_true_iff_forall_mem.1 h1 e he
        have h3 : e.on < j := by simpa using h2
        exact ih e.on h3 (by omega)⟩
      rw [hr] at hm
      cases hm
/-- A frame with values put into places, one behind the other. -/
def putF : List Tmp → (Nat → Value) → Nat → Act → Act
  | [], _, _, a => a
  | t :: r, vs, i, a => putF r vs (i + 1) (a.put (some t) (vs i))
/-- What operation i gives. -/
def valsAt (vals : List Value) (i : Nat) : Value := vals.getD i undef
theorem put_get (a : Act) (t s : Tmp) (v : Value) : (a.put (some t) v).tmps[s]? = if t = s then (if t < a.tmps.size then some v else none) else a.tmps[s]? := by
  show (a.tmps.setIfInBounds t v)[s]? = _
  rw [Array.getElem?_setIfInBounds]
theorem put_size (a : Act) (t : Tmp) (v : Value) : (a.put (some t) v).tmps.size = a.tmps.size := by
  show (a.tmps.setIfInBounds t v).size = _
  simp
theorem putF_size : ∀ (ds : List Tmp) (vs : Nat → Value) (k : Nat) (a : Act), (putF ds vs k a).tmps.size = a.tmps.size
  | [], _, _, _ => rfl
  | t :: r, vs, k, a => by rw [putF, putF_size r, put_size]
theorem putF_defers : ∀ (ds : List Tmp) (vs : Nat → Value) (k : Nat) (a : Act), (putF ds vs k a).defers = a.defers
  | [], _, _, _ => rfl
  | t :: r, vs, k, a => by rw [putF, putF_defers r]; rfl
theorem putF_other : ∀ (ds : List Tmp) (vs : Nat → Value) (k : Nat) (a : Act) (t : Tmp), t ∉ ds → (putF ds vs k a).tmps[t]? = a.tmps[t]?
  | [], _, _, _, _, _ => rfl
  | s :: r, vs, k, a, t, h => by
    simp only [List.mem_cons, not_or] at h
    rw [putF, putF_other r vs (k + 1) _ t h.2, put_get, if_neg (fun e => h.1 e.symm)]
theorem putF_at : ∀ (ds : List Tmp) (vs : Nat → Value) (k : Nat) (a : Act) (j : Nat) (hj : j < ds.length), ds.Nodup → ds[j] < a.tmps.size → (putF ds vs k a).tmps[ds[j]]? = some (vs (k + j))
  | [], _, _, _, _, hj, _, _ => by simp at hj
  | s :: r, vs, k, a, 0, _, hn, hs => by
    rw [List.nodup_cons] at hn
    simp only [List.getElem_cons_zero] at hs ⊢
    rw [putF, putF_other r vs (k + 1) _ s hn.1, put_get, if_pos rfl, if_pos hs]
    rfl
  | s :: r, vs, k, a, j + 1, hj, hn, hs => by
    rw [List.nodup_cons] at hn
    simp only [List.getElem_cons_succ] at hs ⊢
    rw [putF, putF_at r vs (k + 1) _ j (by simpa using hj) hn.2 (by rw [put_size]; exact hs), show k + 1 + j = k + (j + 1) by omega]
theorem wpAny_vals {P : Program} {ops : Array Oper} {Q : Exit → Act → World → Prop} {md : Region.Mode} {a : Act} {w : World} (ds : List Tmp) (vals : List Value) (J : World → Prop) (hn : ops.size = ds.length)
    (hord : ((List.range ops.size).all fun j => ((ops[j]?).map (fun o => o.after.all fun e => decide (e.on < j))).getD true) = true) (hnd : ds.Nodup) (hsz : (ds.all fun t => decide (t < a.tmps.size)) = true)
    (hstep : ∀ i o, ops[i]? = some o → ∀ aa : Act, (∀ e ∈ o.after, Region.binds md e = true → aa.tmps[ds.getD e.on 0]? = some (valsAt vals e.on)) → (∀ t, t ∉ ds → aa.tmps[t]? = a.tmps[t]?) → ∀ w', J w' → wpOp P ops Q i (fun a' w2 => a' = aa.put (some (ds.getD i 0)) (valsAt vals i) ∧ J w2) aa w')
    (hend : ∀ w', J w' → Q .normal (putF ds (valsAt vals) 0 a) w') (hJ : J w) : wpAny P md ops Q ops.size (Array.replicate ops.size false) a w := by
  have hsz2 : ∀ j (hj : j < ds.length), ds[j] < a.tmps.size := fun j hj => by
    have := List.all_eq_true.1 hsz _ (List.getElem_mem hj)
    simpa using this
  have hgd : ∀ j (hj : j < ds.length), ds.getD j 0 = ds[j] := fun j hj => by rw [List.getD_eq_getElem?_getD, List.getElem?_eq_getElem hj, Option.getD_some]
  refine wpAny_iv (fun l a' w' => l.size = ops.size ∧ ((∀ j, l.getD j false = true → a'.tmps[ds.getD j 0]? = some (valsAt vals j)) ∧ (∀ t, t ∉ ds → a'.tmps[t]? = a.tmps[t]?) ∧ a'.tmps.size = a.tmps.size ∧ a'.defers = a.defers) ∧ J w') ?_ ?_ _ _ _ _ ?_ ?_
  · rintro l a' w' ⟨hl, ⟨hv, ho', hs, hd⟩, hJ⟩ i o ho h0 hall
    have hi : i < ds.length := by
      have := (Array.getElem?_eq_some_iff.1 ho).1
      omega
    refine wpOp_mono ?_ (hstep i o ho a' (fun e he hb => hv _ (hall e he hb)) ho' w' hJ)
    rintro a2 w2 ⟨rfl, hJ2⟩
    refine ⟨by simp [hl], ⟨fun j hj => ?_, fun t ht => ?_, by rw [put_size]; exact hs, hd⟩, hJ2⟩
    · rw [put_get, hgd i hi]
      by_cases h : j = i
      · subst h
        rw [hgd j hi, if_pos rfl, if_pos (by rw [hs]; exact hsz2 j hi)]
      · rw [getD_set_ne false (fun e => h e.symm)] at hj
        have hjl : j < ds.length := by
          rcases Nat.lt_or_ge j l.size with h' | h'
          · omega
          · rw [Array.getD_eq_getD_getElem?, Array.getElem?_eq_none h'] at hj
            cases hj
        rw [hgd j hjl, if_neg (fun (e : ds[i] = ds[j]) => h ((List.getElem_inj hnd).1 e).symm)]
        rw [← hgd j hjl]
        exact hv j hj
    · rw [put_get, hgd i hi, if_neg (fun (e : ds[i] = t) => ht (e ▸ List.getElem_mem hi))]
      exact ho' t ht
  · rintro l a' w' ⟨hl, ⟨hv, ho', hs, hd⟩, hJ⟩ hr
    have hu := all_up hord l hr hl
    have e : a' = putF ds (valsAt vals) 0 a := by
      have e1 : a'.tmps = (putF ds (valsAt vals) 0 a).tmps := by
        apply Array.ext_getElem?
        intro t
        by_cases ht : t ∈ ds
        · obtain ⟨j, hj, rfl⟩ := List.mem_iff_getElem.1 ht
          rw [putF_at ds _ 0 a j hj hnd (hsz2 j hj), Nat.zero_add, ← hgd j hj]
          exact hv j (hu j (by omega))
        · rw [putF_other ds _ 0 a t ht]
          exact ho' t ht
      have e2 : a'.defers = (putF ds (valsAt vals) 0 a).defers := by rw [putF_defers]; exact hd
      cases a'
      cases hq : putF ds (valsAt vals) 0 a
      rw [hq] at e1 e2
      simp only at e1 e2
      rw [e1, e2]
    rw [e]
    exact hend w' hJ
  · simp
  · refine ⟨by simp, ⟨fun j hj => ?_, fun _ _ => rfl, rfl, rfl⟩, hJ⟩
    rw [Array.getD_eq_getD_getElem?, Array.getElem?_replicate] at hj
    split at hj <;> cases hj
end Go.Proofs.Ythnefcafhpioaaa
