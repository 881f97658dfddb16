/-
  As wpAny_mem3, within a round of a range over a function, where an operation may be a call of another loop's yield.
-/
import Derived.Test.YthnefcafhpioaaaRegR
import Derived.Test.YthnefcafhpioaaaRegO
import Derived.Test.YthnefcafhpioaaaSeqK
namespace Go.Proofs.Ythnefcafhpioaaa
open Go Go.RowKit

theorem wpOpIn_step {F : Fence} {fm : Nat} {P : Program} {ops : Array Oper} {Q : Exit → Act → World → Prop} {i : Nat} {o : Oper} {K : Act → World → Prop} {a : Act} {w : World} (ho : ops[i]? = some o)
    (h : ∀ K' : Act → World → Prop, (∀ a w, K a w → K' a w) → if Region.wanted o (yielded ops a.tmps) = true then o.wpIn F fm P a w K' Q else (∀ f, o.about P w a.eval = some f → F.fn f) ∧ K' (a.put o.dst undef) w) : wpOpIn F fm P ops Q i K a w := by
  have := h K (fun _ _ h => h)
  unfold wpOpIn
  rw [ho]
  exact this
theorem wpAnyIn_iv {F : Fence} {fm : Nat} {P : Program} {ops : Array Oper} {Q : Exit → Act → World → Prop} {md : Region.Mode} (I : Array Bool → Act → World → Prop)
    (hs : ∀ l a w, I l a w → ∀ i o, ops[i]? = some o → l.getD i true = false → (∀ e ∈ o.after, Region.binds md e = true → l.getD e.on false = true) → wpOpIn F fm P ops Q i (fun a' w' => I (l.setIfInBounds i true) a' w') a w)
    (hd : ∀ l a w, I l a w → Region.ready md ops l = [] → Q .normal a w) : ∀ n l a w, l.toList.count false ≤ n → I l a w → wpAnyIn F fm P md ops Q n l a w
  | 0, l, a, w, hn, hI => by
    have hr : Region.ready md ops l = [] := by
      refine List.eq_nil_iff_forall_not_mem.2 fun i hi => ?_
      obtain ⟨h0, -⟩ := mem_ready.1 hi
      have hm : false ∈ l.toList := by
        have hlt : i < l.size := by
          rcases Nat.lt_or_ge i l.size with h' | h'
          · exact h'
          · simp [Array.getElem?_eq_none h'] at h0
        have : l[i] = false := by simpa [hlt] using h0
        rw [← this]
        simp
      have := List.count_pos_iff.2 hm
      omega
    exact ⟨hr, hd l a w hI hr⟩
  | n + 1, l, a, w, hn, hI => by
    refine ⟨hd l a w hI, fun i hi => ?_⟩
    obtain ⟨h0, o, ho, hall⟩ := mem_ready.1 hi
    refine wpOpIn_mono (fun a' w' h => wpAnyIn_iv I hs hd n _ a' w' ?_ h) (hs l a w hI i o ho h0 hall)
    have hlt : i < l.size := by
      rcases Nat.lt_or_ge i l.size with h' | h'
      · exact h'
      · simp [Array.getElem?_eq_none h'] at h0
    have h1 : l.toList[i]? = some false := by
      have : l[i] = false := by simpa [hlt] using h0
      simp [hlt, this]
    have := cnt_set h1
    rw [Array.toList_setIfInBounds]
    omega
/-- Operation j waits for operation i, by one edge or more. -/
def behind (md : Region.Mode) (ops : Array Oper) : Nat → Nat → Nat → Bool
  | 0, i, j => i == j
  | n + 1, i, j => i == j || ((ops[j]?).map fun o => o.after.any fun e => Region.binds md e && behind md ops n i e.on).getD false
theorem behind_up {md : Region.Mode} {ops : Array Oper} {l : Array Bool} (hcl : ∀ j o', ops[j]? = some o' → l.getD j false = true → ∀ e ∈ o'.after, Region.binds md e = true → l.getD e.on false = true) : ∀ n i j, l.getD j false = true → behind md ops n i j = true → l.getD i false = true
  | 0, i, j, h, hb => by
    have : i = j := by simpa [behind] using hb
    rw [this]; exact h
  | n + 1, i, j, h, hb => by
    unfold behind at hb
    rw [Bool.or_eq_true] at hb
    rcases hb with hb | hb
    · have : i = j := by simpa using hb
      rw [this]; exact h
    · cases ho : ops[j]? with
      | none => rw [ho] at hb; cases hb
      | some o =>
        rw [ho] at hb
        simp only [Option.map_some, Option.getD_some] at hb
        obtain ⟨x, hx1, hx2⟩ := Array.any_eq_true'.1 hb
        rw [Bool.and_eq_true] at hx2
        exact behind_up hcl n i x.on (hcl j o ho h x hx1 hx2.1) hx2.2
theorem not_behind {md : Region.Mode} {ops : Array Oper} {l : Array Bool} (hcl : ∀ j o', ops[j]? = some o' → l.getD j false = true → ∀ e ∈ o'.after, Region.binds md e = true → l.getD e.on false = true) {i : Nat} (h0 : l.getD i true = false) (n j : Nat) (hb : behind md ops n i j = true) : l.getD j false = false := by
  cases h : l.getD j false with
  | false => rfl
  | true =>
    have := behind_up hcl n i j h hb
    rw [up_not h0] at this
    cases this
theorem bt_absurd {b : Bool} {p : Prop} (h : b = false) (h' : b = true) : p := by rw [h] at h'; cases h'
theorem wpAnyIn_mem3 {F : Fence} {fm : Nat} {P : Program} {ops : Array Oper} {Q : Exit → Act → World → Prop} {md : Region.Mode} {a : Act} {w : World} (ds : List (Option Tmp)) (vs : Value → Nat → Value) (J : Array Bool → Value → World → Prop) (ia : Nat) (bf : Nat) (R0 : Value) (hn : ops.size = ds.length) (hvs : ∀ R R' j, j ≠ ia → behind md ops bf ia j = false → vs R j = vs R' j)
    (hord : ((List.range ops.size).all fun j => ((ops[j]?).map (fun o => o.after.all fun e => !(Region.binds md e) || decide (e.on < j))).getD true) = true) (hnd : onceM ds = true) (hsz : (ds.all fun t => match t with | some t => decide (t < a.tmps.size) | none => true) = true)
    (hstep : ∀ i o, ops[i]? = some o → i < ds.length → ∀ (l : Array Bool) (R : Value) (aa : Act), l.size = ops.size → l.getD i true = false → (∀ e ∈ o.after, Region.binds md e = true → l.getD e.on false = true) → (∀ e ∈ o.after, Region.binds md e = true → ∀ t, ds.getD e.on none = some t → aa.tmps[t]? = some (vs R e.on)) → (∀ t, (∀ j, l.getD j false = true → ds.getD j none ≠ some t) → aa.tmps[t]? = a.tmps[t]?) → (∀ j o', ops[j]? = some o' → l.getD j false = true → ∀ e ∈ o'.after, Region.binds md e = true → l.getD e.on false = true) → ∀ w', J l R w' → wpOpIn F fm P ops Q i (fun a2 w2 => ∃ R', (i ≠ ia → R' = R) ∧ a2 = aa.put (ds.getD i none) (vs R' i) ∧ J (l.setIfInBounds i true) R' w2) aa w')
    (hend : ∀ l R w', (∀ j, j < ops.size → l.getD j false = true) → J l R w' → Q .normal (putM ds (vs R) 0 a) w') (hJ : J (Array.replicate ops.size false) R0 w) : wpAnyIn F fm P md ops Q ops.size (Array.replicate ops.size false) a w := by
  have hsz2 : ∀ j (hj : j < ds.length) t, ds[j] = some t → t < a.tmps.size := fun j hj t ht => by
    have := List.all_eq_true.1 hsz _ (List.getElem_mem hj)
    rw [ht] at this
    simpa using this
  have hgd : ∀ j (hj : j < ds.length), ds.getD j none = ds[j] := fun j hj => by rw [List.getD_eq_getElem?_getD, List.getElem?_eq_getElem hj, Option.getD_some]
  have hon : ∀ (i : Nat) (o : Oper), ops[i]? = some o → ∀ e ∈ o.after, Region.binds md e = true → e.on < i := fun i o ho e he hb => by
    have h1 := List.all_eq_true.1 hord i (List.mem_range.2 (Array.getElem?_eq_some_iff.1 ho).1)
    rw [ho] at h1
    simp only [Option.map_some, Option.getD_some] at h1
    have h2 := Array.all_eq_true_iff_forall_mem.1 h1 e he
    simpa [hb] using h2
  refine wpAnyIn_iv (fun l a' w' => ∃ R, l.size = ops.size ∧ ((∀ j, j < ds.length → l.getD j false = true → ∀ t, ds.getD j none = some t → a'.tmps[t]? = some (vs R j)) ∧ ((∀ t, (∀ j, l.getD j false = true → ds.getD j none ≠ some t) → a'.tmps[t]? = a.tmps[t]?) ∧ (∀ j o', ops[j]? = some o' → l.getD j false = true → ∀ e ∈ o'.after, Region.binds md e = true → l.getD e.on false = true)) ∧ a'.tmps.size = a.tmps.size ∧ a'.defers = a.defers) ∧ J l R w') ?_ ?_ _ _ _ _ ?_ ?_
  · rintro l a' w' ⟨R, hl, ⟨hv, ⟨ho', hcl⟩, hs, hd⟩, hJ⟩ i o ho h0 hall
    have hil : i < ds.length := by
      have := (Array.getElem?_eq_some_iff.1 ho).1
      omega
    have hvv : ∀ e ∈ o.after, Region.binds md e = true → ∀ t, ds.getD e.on none = some t → a'.tmps[t]? = some (vs R e.on) := fun e he hb => hv _ (by have := hon i o ho e he hb; omega) (hall e he hb)
    refine wpOpIn_mono ?_ (hstep i o ho hil l R a' hl h0 hall hvv ho' hcl w' hJ)
    rintro a2 w2 ⟨R', hR, rfl, hJ2⟩
    refine ⟨R', by simp [hl], ⟨fun j hjl hj t ht => ?_, ⟨fun t ht => ?_, fun j o2 ho2 hj e he hb => ?_⟩, by rw [putN_size]; exact hs, by rw [putN_defers]; exact hd⟩, hJ2⟩
    · rw [putN_get, hgd i hil]
      by_cases h : j = i
      · subst h
        rw [hgd j hjl] at ht
        rw [if_pos ht, if_pos (by rw [hs]; exact hsz2 j hjl t ht)]
      · rw [getD_set_ne false (fun e => h e.symm)] at hj
        have ht2 := ht
        rw [hgd j hjl] at ht2
        rw [if_neg (fun e => h (onceM_at ds hnd j i hjl hil t ht2 e)), hv j hjl hj t ht]
        by_cases hia : i = ia
        · rw [hvs R R' j (fun e => h (e.trans hia.symm)) (by
            cases hbh : behind md ops bf ia j with
            | false => rfl
            | true =>
              have hu := behind_up hcl bf ia j hj hbh
              rw [← hia, up_not h0] at hu
              cases hu)]
        · rw [hR hia]
    · rw [putN_get, if_neg (ht i (up_self (by omega)))]
      exact ho' t fun j hj => ht j (by
        by_cases h : j = i
        · subst h; exact up_self (by omega)
        · rw [getD_set_ne false (fun e => h e.symm)]; exact hj)
    · have hup : l.getD e.on false = true := by
        by_cases h : j = i
        · subst h
          rw [ho] at ho2
          obtain rfl := Option.some.inj ho2
          exact hall e he hb
        · rw [getD_set_ne false (fun e => h e.symm)] at hj
          exact hcl j o2 ho2 hj e he hb
      by_cases h : e.on = i
      · rw [h]; exact up_self (by omega)
      · rw [getD_set_ne false (fun e => h e.symm)]; exact hup
  · rintro l a' w' ⟨R, hl, ⟨hv, ⟨ho', -⟩, hs, hd⟩, hJ⟩ hr
    have hu := all_upB hord l hr hl
    have e : a' = putM ds (vs R) 0 a := by
      have e1 : a'.tmps = (putM ds (vs R) 0 a).tmps := by
        apply Array.ext_getElem?
        intro t
        by_cases ht : some t ∈ ds
        · obtain ⟨j, hj, he⟩ := List.mem_iff_getElem.1 ht
          rw [putM_at ds _ 0 a j hj t hnd he (hsz2 j hj t he), Nat.zero_add]
          exact hv j hj (hu j (by omega)) t (by rw [hgd j hj]; exact he)
        · rw [putM_other ds _ 0 a t ht]
          refine ho' t fun j hj e => ht ?_
          have hjl : j < ds.length := by
            rcases Nat.lt_or_ge j ds.length with h' | h'
            · exact h'
            · rw [List.getD_eq_getElem?_getD, List.getElem?_eq_none h'] at e; cases e
          rw [hgd j hjl] at e
          exact e ▸ List.getElem_mem hjl
      have e2 : a'.defers = (putM ds (vs R) 0 a).defers := by rw [putM_defers]; exact hd
      cases a'
      cases hq : putM ds (vs R) 0 a
      rw [hq] at e1 e2
      simp only at e1 e2
      rw [e1, e2]
    rw [e]
    exact hend l R w' hu hJ
  · simp
  · refine ⟨R0, by simp, ⟨fun j hjl hj => ?_, ⟨fun _ _ => rfl, fun j o' _ hj => ?_⟩, rfl, rfl⟩, hJ⟩
    · rw [Array.getD_eq_getD_getElem?, Array.getElem?_replicate] at hj
      split at hj <;> cases hj
    · rw [Array.getD_eq_getD_getElem?, Array.getElem?_replicate] at hj
      split at hj <;> cases hj
end Go.Proofs.Ythnefcafhpioaaa
