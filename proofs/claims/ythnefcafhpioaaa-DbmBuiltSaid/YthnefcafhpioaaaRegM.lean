/-
  A region that draws its order, in which one call makes memory and any operation may store: proved is that it ends with each operation's value in its place, whatever its order, where one value is known only when its call has come up, and what has come of memory is told by what has come up.
-/
import Derived.Test.YthnefcafhpioaaaReg
namespace Go.Proofs.Ythnefcafhpioaaa
open Go Go.RowKit

theorem up_self {l : Array Bool} {i : Nat} (h : i < l.size) : (l.setIfInBounds i true).getD i false = true := by simp [h]
theorem up_not {l : Array Bool} {i : Nat} (h : l.getD i true = false) : l.getD i false = false := by
  rw [Array.getD_eq_getD_getElem?] at h ⊢
  cases hl : l[i]? with
  | none => rfl
  | some b => rw [hl] at h; exact h
/-- A frame with values put into those places that there are. -/
def putM : List (Option Tmp) → (Nat → Value) → Nat → Act → Act
  | [], _, _, a => a
  | t :: r, vs, i, a => putM r vs (i + 1) (a.put t (vs i))
theorem putN_get (a : Act) (d : Option Tmp) (t : Tmp) (v : Value) : (a.put d v).tmps[t]? = if d = some t then (if t < a.tmps.size then some v else none) else a.tmps[t]? := by
  cases d with
  | none => rfl
  | some s =>
    rw [put_get]
    by_cases h : s = t
    · subst h; simp
    · rw [if_neg h, if_neg (fun e => h (Option.some.inj e))]
theorem putN_size (a : Act) (d : Option Tmp) (v : Value) : (a.put d v).tmps.size = a.tmps.size := by
  cases d with
  | none => rfl
  | some s => exact put_size a s v
theorem putN_defers (a : Act) (d : Option Tmp) (v : Value) : (a.put d v).defers = a.defers := by cases d <;> rfl
theorem putM_size : ∀ (ds : List (Option Tmp)) (vs : Nat → Value) (k : Nat) (a : Act), (putM ds vs k a).tmps.size = a.tmps.size
  | [], _, _, _ => rfl
  | t :: r, vs, k, a => by rw [putM, putM_size r, putN_size]
theorem putM_defers : ∀ (ds : List (Option Tmp)) (vs : Nat → Value) (k : Nat) (a : Act), (putM ds vs k a).defers = a.defers
  | [], _, _, _ => rfl
  | t :: r, vs, k, a => by rw [putM, putM_defers r, putN_defers]
theorem putM_other : ∀ (ds : List (Option Tmp)) (vs : Nat → Value) (k : Nat) (a : Act) (t : Tmp), some t ∉ ds → (putM ds vs k a).tmps[t]? = a.tmps[t]?
  | [], _, _, _, _, _ => rfl
  | s :: r, vs, k, a, t, h => by
    simp only [List.mem_cons, not_or] at h
    rw [putM, putM_other r vs (k + 1) _ t h.2, putN_get, if_neg (fun e => h.1 e.symm)]
theorem all_upB {md : Region.Mode} {ops : Array Oper} (hord : ((List.range ops.size).all fun j => ((ops[j]?).map (fun o => o.after.all fun e => !(Region.binds md e) || decide (e.on < j))).getD true) = true) (l : Array Bool) (hr : Region.ready md ops l = []) (hl : l.size = ops.size) : ∀ j, j < ops.size → l.getD j false = true := by
  intro j
  induction j using Nat.strongRecOn with
  | ind j ih =>
    intro hj
    cases hv : l.getD j false with
    | true => rfl
    | false =>
      exfalso
      have hlt : j < l.size := by omega
      have h0 : l.getD j true = false := by
        simp [hlt] at hv ⊢
        exact hv
      have ho : ops[j]? = some ops[j] := Array.getElem?_eq_getElem hj
      have hm : j ∈ Region.ready md ops l := mem_ready.2 ⟨h0, _, ho, fun e he hb => by
        have h1 := List.all_eq_true.1 hord j (List.mem_range.2 hj)
        rw [ho] at h1
        simp only [Option.map_some, Option.getD_some] at h1
        have h2 := Array.all_eq_true_iff_forall_mem.1 h1 e he
        have h3 : e.on < j := by simpa [hb] using h2
        exact ih e.on h3 (by omega)⟩
      rw [hr] at hm
      cases hm
/-- No place is named twice. -/
def onceM : List (Option Tmp) → Bool
  | [] => true
  | none :: r => onceM r
  | some t :: r => !(r.contains (some t)) && onceM r
theorem onceM_at : ∀ (ds : List (Option Tmp)), onceM ds = true → ∀ i j (hi : i < ds.length) (hj : j < ds.length) t, ds[i] = some t → ds[j] = some t → i = j
  | [], _, _, _, hi, _, _, _, _ => by simp at hi
  | x :: r, h, i, j, hi, hj, t, h1, h2 => by
    have hr : onceM r = true := by cases x <;> simp [onceM] at h; exact h; exact h.2
    have hx : ∀ k (hk : k < r.length), x = some t → r[k] = some t → False := fun k hk e1 e2 => by
      subst e1
      simp only [onceM, Bool.and_eq_true, Bool.not_eq_true', List.contains_eq_mem, decide_eq_false_iff_not] at h
      exact h.1 (e2 ▸ List.getElem_mem hk)
    cases i with
    | zero => cases j with
      | zero => rfl
      | succ j => exact (hx j (by simpa using hj) h1 h2).elim
    | succ i => cases j with
      | zero => exact (hx i (by simpa using hi) h2 h1).elim
      | succ j => rw [onceM_at r hr i j (by simpa using hi) (by simpa using hj) t h1 h2]
theorem putM_at : ∀ (ds : List (Option Tmp)) (vs : Nat → Value) (k : Nat) (a : Act) (j : Nat) (hj : j < ds.length) (t : Tmp), onceM ds = true → ds[j] = some t → t < a.tmps.size → (putM ds vs k a).tmps[t]? = some (vs (k + j))
  | [], _, _, _, _, hj, _, _, _, _ => by simp at hj
  | s :: r, vs, k, a, 0, _, t, hn, he, hs => by
    simp only [List.getElem_cons_zero] at he
    subst he
    simp only [onceM, Bool.and_eq_true, Bool.not_eq_true', List.contains_eq_mem, decide_eq_false_iff_not] at hn
    rw [putM, putM_other r vs (k + 1) _ t hn.1, putN_get, if_pos rfl, if_pos hs]
    rfl
  | s :: r, vs, k, a, j + 1, hj, t, hn, he, hs => by
    simp only [List.getElem_cons_succ] at he
    have hr : onceM r = true := by cases s <;> simp [onceM] at hn; exact hn; exact hn.2
    rw [putM, putM_at r vs (k + 1) _ j (by simpa using hj) t hr he (by rw [putN_size]; exact hs), show k + 1 + j = k + (j + 1) by omega]

theorem wpAny_mem {P : Program} {ops : Array Oper} {Q : Exit → Act → World → Prop} {md : Region.Mode} {a : Act} {w : World} (ds : List (Option Tmp)) (vs : Value → Nat → Value) (J : Array Bool → Value → World → Prop) (ia : Nat) (R0 : Value) (hn : ops.size = ds.length) (hvs : ∀ R R' j, j ≠ ia → vs R j = vs R' j)
    (hord : ((List.range ops.size).all fun j => ((ops[j]?).map (fun o => o.after.all fun e => !(Region.binds md e) || decide (e.on < j))).getD true) = true) (hnd : onceM ds = true) (hsz : (ds.all fun t => match t with | some t => decide (t < a.tmps.size) | none => true) = true)
    (hstep : ∀ i o, ops[i]? = some o → i < ds.length → ∀ (l : Array Bool) (R : Value) (aa : Act), l.size = ops.size → l.getD i true = false → (∀ e ∈ o.after, Region.binds md e = true → l.getD e.on false = true) → (∀ e ∈ o.after, Region.binds md e = true → ∀ t, ds.getD e.on none = some t → aa.tmps[t]? = some (vs R e.on)) → (∀ t, some t ∉ ds → aa.tmps[t]? = a.tmps[t]?) → ∀ w', J l R w' → wpOp P ops Q i (fun a2 w2 => ∃ R', (i ≠ ia → R' = R) ∧ a2 = aa.put (ds.getD i none) (vs R' i) ∧ J (l.setIfInBounds i true) R' w2) aa w')
    (hend : ∀ l R w', (∀ j, j < ops.size → l.getD j false = true) → J l R w' → Q .normal (putM ds (vs R) 0 a) w') (hJ : J (Array.replicate ops.size false) R0 w) : wpAny P md ops Q ops.size (Array.replicate ops.size false) a w := by
  have hsz2 : ∀ j (hj : j < ds.length) t, ds[j] = some t → t < a.tmps.size := fun j hj t ht => by
    have := List.all_eq_true.1 hsz _ (List.getElem_mem hj)
    rw [ht] at this
    simpa using this
  have hgd : ∀ j (hj : j < ds.length), ds.getD j none = ds[j] := fun j hj => by rw [List.getD_eq_getElem?_getD, List.getElem?_eq_getElem hj, Option.getD_some]
  have hon : ∀ (i : Nat) (o : Oper), ops[i]? = some o → ∀ e ∈ o.after, Region.binds md e = true → e.on < i := fun i o ho e he hb => by
    have h1 := List.all_eq_true.1 hord i (List.mem_range.2 (Array.getElem?_eq_some_iff.1 ho).1)
    rw [ho] at h1
    simp only [Option.map_some, Option.getD_some] at h1
    have h2 := Array.all_eq_true_iff_forall_mem.1 h1 e he
    simpa [hb] using h2
  refine wpAny_iv (fun l a' w' => ∃ R, l.size = ops.size ∧ ((∀ j, j < ds.length → l.getD j false = true → ∀ t, ds.getD j none = some t → a'.tmps[t]? = some (vs R j)) ∧ (∀ t, some t ∉ ds → a'.tmps[t]? = a.tmps[t]?) ∧ a'.tmps.size = a.tmps.size ∧ a'.defers = a.defers) ∧ J l R w') ?_ ?_ _ _ _ _ ?_ ?_
  · rintro l a' w' ⟨R, hl, ⟨hv, ho', hs, hd⟩, hJ⟩ i o ho h0 hall
    have hil : i < ds.length := by
      have := (Array.getElem?_eq_some_iff.1 ho).1
      omega
    have hvv : ∀ e ∈ o.after, Region.binds md e = true → ∀ t, ds.getD e.on none = some t → a'.tmps[t]? = some (vs R e.on) := fun e he hb => hv _ (by have := hon i o ho e he hb; omega) (hall e he hb)
    refine wpOp_mono ?_ (hstep i o ho hil l R a' hl h0 hall hvv ho' w' hJ)
    rintro a2 w2 ⟨R', hR, rfl, hJ2⟩
    refine ⟨R', by simp [hl], ⟨fun j hjl hj t ht => ?_, fun t ht => ?_, by rw [putN_size]; exact hs, by rw [putN_defers]; exact hd⟩, hJ2⟩
    · rw [putN_get, hgd i hil]
      by_cases h : j = i
      · subst h
        rw [hgd j hjl] at ht
        rw [if_pos ht, if_pos (by rw [hs]; exact hsz2 j hjl t ht)]
      · rw [getD_set_ne false (fun e => h e.symm)] at hj
        have ht2 := ht
        rw [hgd j hjl] at ht2
        rw [if_neg (fun e => h (onceM_at ds hnd j i hjl hil t ht2 e)), hv j hjl hj t ht]
        by_cases hia : i = ia
        · rw [hvs R R' j (fun e => h (e.trans hia.symm))]
        · rw [hR hia]
    · rw [putN_get, hgd i hil, if_neg (fun (e : ds[i] = some t) => ht (e ▸ List.getElem_mem hil))]
      exact ho' t ht
  · rintro l a' w' ⟨R, hl, ⟨hv, ho', hs, hd⟩, hJ⟩ hr
    have hu := all_upB hord l hr hl
    have e : a' = putM ds (vs R) 0 a := by
      have e1 : a'.tmps = (putM ds (vs R) 0 a).tmps := by
        apply Array.ext_getElem?
        intro t
        by_cases ht : some t ∈ ds
        · obtain ⟨j, hj, he⟩ := List.mem_iff_getElem.1 ht
          rw [putM_at ds _ 0 a j hj t hnd he (hsz2 j hj t he), Nat.zero_add]
          exact hv j hj (hu j (by omega)) t (by rw [hgd j hj]; exact he)
        · rw [putM_other ds _ 0 a t ht]
          exact ho' t ht
      have e2 : a'.defers = (putM ds (vs R) 0 a).defers := by rw [putM_defers]; exact hd
      cases a'
      cases hq : putM ds (vs R) 0 a
      rw [hq] at e1 e2
      simp only at e1 e2
      rw [e1, e2]
    rw [e]
    exact hend l R w' hu hJ
  · simp
  · refine ⟨R0, by simp, ⟨fun j hjl hj => ?_, fun _ _ => rfl, rfl, rfl⟩, hJ⟩
    rw [Array.getD_eq_getD_getElem?, Array.getElem?_replicate] at hj
    split at hj <;> cases hj
end Go.Proofs.Ythnefcafhpioaaa
