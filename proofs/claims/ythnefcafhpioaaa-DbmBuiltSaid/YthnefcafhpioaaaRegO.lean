/-
  As wpAny_mem2; what has come up behind the late call may be known as late.
-/
import Derived.Test.YthnefcafhpioaaaRegN
namespace Go.Proofs.Ythnefcafhpioaaa
open Go Go.RowKit

theorem wpAny_mem3 {P : Program} {ops : Array Oper} {Q : Exit → Act → World → Prop} {md : Region.Mode} {a : Act} {w : World} (ds : List (Option Tmp)) (vs : Value → Nat → Value) (J : Array Bool → Value → World → Prop) (ia : Nat) (R0 : Value) (hn : ops.size = ds.length) (hvs : ∀ R R' j, j ≠ ia → (∀ o', ops[j]? = some o' → (o'.after.any fun e => Region.binds md e && e.on == ia) = false) → vs R j = vs R' j)
    (hord : ((List.range ops.size).all fun j => ((ops[j]?).map (fun o => o.after.all fun e => !(Region.binds md e) || decide (e.on < j))).getD true) = true) (hnd : onceM ds = true) (hsz : (ds.all fun t => match t with | some t => decide (t < a.tmps.size) | none => true) = true)
    (hstep : ∀ i o, ops[i]? = some o → i < ds.length → ∀ (l : Array Bool) (R : Value) (aa : Act), l.size = ops.size → l.getD i true = false → (∀ e ∈ o.after, Region.binds md e = true → l.getD e.on false = true) → (∀ e ∈ o.after, Region.binds md e = true → ∀ t, ds.getD e.on none = some t → aa.tmps[t]? = some (vs R e.on)) → (∀ t, (∀ j, l.getD j false = true → ds.getD j none ≠ some t) → aa.tmps[t]? = a.tmps[t]?) → (∀ j o', ops[j]? = some o' → l.getD j false = true → ∀ e ∈ o'.after, Region.binds md e = true → l.getD e.on false = true) → ∀ w', J l R w' → wpOp P ops Q i (fun a2 w2 => ∃ R', (i ≠ ia → R' = R) ∧ a2 = aa.put (ds.getD i none) (vs R' i) ∧ J (l.setIfInBounds i true) R' w2) aa w')
    (hend : ∀ l R w', (∀ j, j < ops.size → l.getD j false = true) → J l R w' → Q .normal (putM ds (vs R) 0 a) w') (hJ : J (Array.replicate ops.size false) R0 w) : wpAny P md ops Q ops.size (Array.replicate ops.size false) a w := by
  have hsz2 : ∀ j (hj : j < ds.length) t, ds[j] = some t → t < a.tmps.size := fun j hj t ht => by
    have := List.all_eq_true.1 hsz _ (List.getElem_mem hj)
    rw [ht] at this
    simpa using this
  have hgd : ∀ j (hj : j < ds.length), ds.getD j none = ds[j] := fun j hj => by rw [List.getD_eq_getElem?_getD, List.getElem?_eq_getElem hj, Option.getD_some]
  have hon : ∀ (i : Nat) (o : Oper), ops[i]? = some o → ∀ e ∈ o.after, Region.binds md e = true → e.on < i := fun i o ho e he hb => by
    have h1 := List.all_eq_true.1 hord i (List.mem_range.2 (Array.getElem?_eq_some_iff.1 ho).1)
    rw [ho] at h1
    simp only [Option.map_some, Option.getD_some] at h1
    have h2 := Array.all_eq_true_iff_forall_mem.1 h1 e he
    simpa [hb] using h2
  refine wpAny_iv (fun l a' w' => ∃ R, l.size = ops.size ∧ ((∀ j, j < ds.length → l.getD j false = true → ∀ t, ds.getD j none = some t → a'.tmps[t]? = some (vs R j)) ∧ ((∀ t, (∀ j, l.getD j false = true → ds.getD j none ≠ some t) → a'.tmps[t]? = a.tmps[t]?) ∧ (∀ j o', ops[j]? = some o' → l.getD j false = true → ∀ e ∈ o'.after, Region.binds md e = true → l.getD e.on false = true)) ∧ a'.tmps.size = a.tmps.size ∧ a'.defers = a.defers) ∧ J l R w') ?_ ?_ _ _ _ _ ?_ ?_
  · rintro l a' w' ⟨R, hl, ⟨hv, ⟨ho', hcl⟩, hs, hd⟩, hJ⟩ i o ho h0 hall
    have hil : i < ds.length := by
      have := (Array.getElem?_eq_some_iff.1 ho).1
      omega
    have hvv : ∀ e ∈ o.after, Region.binds md e = true → ∀ t, ds.getD e.on none = some t → a'.tmps[t]? = some (vs R e.on) := fun e he hb => hv _ (by have := hon i o ho e he hb; omega) (hall e he hb)
    refine wpOp_mono ?_ (hstep i o ho hil l R a' hl h0 hall hvv ho' hcl w' hJ)
    rintro a2 w2 ⟨R', hR, rfl, hJ2⟩
    refine ⟨R', by simp [hl], ⟨fun j hjl hj t ht => ?_, ⟨fun t ht => ?_, fun j o2 ho2 hj e he hb => ?_⟩, by rw [putN_size]; exact hs, by rw [putN_defers]; exact hd⟩, hJ2⟩
    · rw [putN_get, hgd i hil]
      by_cases h : j = i
      · subst h
        rw [hgd j hjl] at ht
        rw [if_pos ht, if_pos (by rw [hs]; exact hsz2 j hjl t ht)]
      · rw [getD_set_ne false (fun e => h e.symm)] at hj
        have ht2 := ht
        rw [hgd j hjl] at ht2
        rw [if_neg (fun e => h (onceM_at ds hnd j i hjl hil t ht2 e)), hv j hjl hj t ht]
        by_cases hia : i = ia
        · rw [hvs R R' j (fun e => h (e.trans hia.symm)) (fun o2 ho2 => by
            cases hany : (o2.after.any fun e => Region.binds md e && e.on == ia) with
            | false => rfl
            | true =>
              obtain ⟨x, hx1, hx2⟩ := Array.any_eq_true'.1 hany
              simp only [Bool.and_eq_true, beq_iff_eq] at hx2
              have hu := hcl j o2 ho2 hj x hx1 hx2.1
              rw [hx2.2, ← hia] at hu
              rw [up_not h0] at hu
              cases hu)]
        · rw [hR hia]
    · rw [putN_get, if_neg (ht i (up_self (by omega)))]
      exact ho' t fun j hj => ht j (by
        by_cases h : j = i
        · subst h; exact up_self (by omega)
        · rw [getD_set_ne false (fun e => h e.symm)]; exact hj)
    · have hup : l.getD e.on false = true := by
        by_cases h : j = i
        · subst h
          rw [ho] at ho2
          obtain rfl := Option.some.inj ho2
          exact hall e he hb
        · rw [getD_set_ne false (fun e => h e.symm)] at hj
          exact hcl j o2 ho2 hj e he hb
      by_cases h : e.on = i
      · rw [h]; exact up_self (by omega)
      · rw [getD_set_ne false (fun e => h e.symm)]; exact hup
  · rintro l a' w' ⟨R, hl, ⟨hv, ⟨ho', -⟩, hs, hd⟩, hJ⟩ hr
    have hu := all_upB hord l hr hl
    have e : a' = putM ds (vs R) 0 a := by
      have e1 : a'.tmps = (putM ds (vs R) 0 a).tmps := by
        apply Array.ext_getElem?
        intro t
        by_cases ht : some t ∈ ds
        · obtain ⟨j, hj, he⟩ := List.mem_iff_getElem.1 ht
          rw [putM_at ds _ 0 a j hj t hnd he (hsz2 j hj t he), Nat.zero_add]
          exact hv j hj (hu j (by omega)) t (by rw [hgd j hj]; exact he)
        · rw [putM_other ds _ 0 a t ht]
          refine ho' t fun j hj e => ht ?_
          have hjl : j < ds.length := by
            rcases Nat.lt_or_ge j ds.length with h' | h'
            · exact h'
            · rw [List.getD_eq_getElem?_getD, List.getElem?_eq_none h'] at e; cases e
          rw [hgd j hjl] at e
          exact e ▸ List.getElem_mem hjl
      have e2 : a'.defers = (putM ds (vs R) 0 a).defers := by rw [putM_defers]; exact hd
      cases a'
      cases hq : putM ds (vs R) 0 a
      rw [hq] at e1 e2
      simp only at e1 e2
      rw [e1, e2]
    rw [e]
    exact hend l R w' hu hJ
  · simp
  · refine ⟨R0, by simp, ⟨fun j hjl hj => ?_, ⟨fun _ _ => rfl, fun j o' _ hj => ?_⟩, rfl, rfl⟩, hJ⟩
    · rw [Array.getD_eq_getD_getElem?, Array.getElem?_replicate] at hj
      split at hj <;> cases hj
    · rw [Array.getD_eq_getD_getElem?, Array.getElem?_replicate] at hj
      split at hj <;> cases hj
end Go.Proofs.Ythnefcafhpioaaa
