/-
  The end of a law's proof, for arguments of whatever shape that the call leaves alone: proved is that what read as data before reads so behind, and so that a call that answers true and turns nothing that lay meets its row.
-/
import Derived.Test.YthnefcafhpioaaaRows
import Derived.ChangeReads
import Derived.ChangeOld
import Derived.RowKit
import Derived.Below
import Derived.ProofKit
import Derived.OpenShut
import Derived.KernelRfl
namespace Go.Proofs.Ythnefcafhpioaaa
open Go Go.RowKit Go.ChangeShapes

/-- A type of plain parts: numbers, strings, structs, and slices whose elements have cells. -/
def GoodT (P : Program) (G : TypeId → Prop) (t : TypeId) : Prop := match P.underlying t with
  | some .bool => True
  | some (.int _) => True
  | some .string => True
  | some (.slice e) => G e ∧ 0 < P.cellsOf e
  | some (.struct fs) => ∀ f ∈ fs.toList, G f.type
  | _ => False
/-- All types of G are so, and so are their parts'. -/
def PlainAll (P : Program) (G : TypeId → Prop) : Prop := ∀ t, G t → GoodT P G t

section
variable {H : Type} {enc : TypeId × Value → H} {P : Program} {G : TypeId → Prop} {w : World} {base : Nat} {held : Bool}

theorem trodStep_spareT (hp : PlainAll P G) {sp : Nat → Bool} {r r' : TypeId → List Value → Option (DataW H × List MemPlace)}
    (hr : ∀ t, G t → ∀ cs x, r t cs = some x → (∀ p ∈ x.2, sp p.block = true) → r' t cs = some x) {t : TypeId} (ht : G t) {cs : List Value} {x : DataW H × List MemPlace}
    (h : DataW.trodStep enc P w base (fun _ => true) held r t cs = some x) (hs : ∀ p ∈ x.2, sp p.block = true) : DataW.trodStep enc P w base sp held r' t cs = some x := by
  have hg := hp t ht
  unfold GoodT at hg
  unfold DataW.trodStep at h ⊢
  split at h
  case h_1 => exact h
  case h_2 => exact h
  case h_3 => exact h
  case h_4 => exact h
  case h_5 => exact h
  case h_6 e a hu =>
    rw [hu] at hg
    exact hg.elim
  case h_7 => exact h
  case h_8 e a len cap hu =>
    rw [hu] at hg
    obtain ⟨hge, hpos⟩ := hg
    simp only at h ⊢
    split at h
    · rename_i hc
      rw [if_pos hc]
      simp only [Option.map_eq_some_iff, Option.bind_eq_some_iff] at h ⊢
      obtain ⟨elems, he, rest, hrest, rfl⟩ := h
      have hlen : elems.length = len := by simpa using mapM_some_length he
      simp only [if_true] at hrest
      have hrl : rest.length = cap - len := by simpa using mapM_some_length hrest
      have one : ∀ (i : Nat) (y : DataW H × List MemPlace), y ∈ elems ++ rest →
          (w.cells? base (a.add (i * P.cellsOf e)) (P.cellsOf e)).bind (r e) = some y → (w.cells? base (a.add (i * P.cellsOf e)) (P.cellsOf e)).bind (r' e) = some y := by
        intro i y hy hv
        simp only [Option.bind_eq_some_iff] at hv ⊢
        obtain ⟨cs', hc', hy'⟩ := hv
        refine ⟨cs', hc', hr _ hge _ _ hy' (fun p hp => hs p ?_)⟩
        simp only [List.mem_append, List.mem_flatMap]
        right
        exact ⟨y, by simpa using hy, hp⟩
      refine ⟨elems, mapM_carry he (fun i y _ hy => one i y (by simp [hy])), rest, ?_, rfl⟩
      by_cases hz : cap - len = 0
      · have hr0 : rest = [] := List.eq_nil_of_length_eq_zero (by omega)
        subst hr0
        rw [hz]
        split <;> rfl
      · have hb : sp a.block = true := by
          refine hs (.cell a.block a.off) ?_
          simp only [List.mem_append]
          left
          refine MemPlace.mem_row.2 ⟨0, ?_, by simp⟩
          rw [hlen, hrl]
          exact Nat.mul_pos (by omega) hpos
        rw [if_pos hb]
        exact mapM_carry hrest (fun j y _ hy => one (len + j) y (by simp [hy]))
    · cases h
  case h_9 hu =>
    rw [hu] at hg
    split at h
    · rename_i hc
      rw [if_pos hc]
      simp only [Option.map_eq_some_iff] at h ⊢
      obtain ⟨xs, hx, rfl⟩ := h
      exact ⟨xs, mapM_carry hx (fun f y hm hy hv => hr _ (hg f hm) _ _ hv (fun p hp => hs p (List.mem_flatMap.2 ⟨y, hy, hp⟩))), rfl⟩
    · cases h
  case h_10 hu =>
    rw [hu] at hg
    exact hg.elim
  case h_11 => exact h
  case h_12 hu =>
    rw [hu] at hg
    exact hg.elim
  case h_13 => exact h
  case h_14 k e b hu =>
    rw [hu] at hg
    exact hg.elim
  case h_15 => exact h
  case h_16 => exact h
  case h_17 => exact h
  case h_18 => exact h
  case h_19 => exact h
  case h_20 => exact h
  case h_21 => cases h
theorem trod_spareT (hp : PlainAll P G) {sp : Nat → Bool} : ∀ (n : Nat) (t : TypeId), G t → ∀ (cs : List Value) (x : DataW H × List MemPlace),
    DataW.trod enc P w base (fun _ => true) held n t cs = some x → (∀ p ∈ x.2, sp p.block = true) → DataW.trod enc P w base sp held n t cs = some x
  | 0, _, _, _, _, h, _ => by simp [DataW.trod] at h
  | n + 1, t, ht, cs, x, h, hs => by
    rw [DataW.trod_step] at h ⊢
    exact trodStep_spareT hp (trod_spareT hp n) ht h hs

theorem trodAll_againT {w' : World} (hp : PlainAll P G) (hb : Below w.heap.size w w') : ∀ {ts : List TypeId} {vs : List Value} {ds : List (DataW H)} {ps : List MemPlace}, (∀ t ∈ ts, G t) → DataW.TrodAll enc P w base (fun _ => true) held ts vs ds ps →
    DataW.TrodAll enc P w' base (fun b => decide (b < w.heap.size)) held ts vs ds ps
  | [], [], [], ps, _, h => h
  | t :: ts, v :: vs, d :: ds, ps, hG, h => by
    obtain ⟨p, q, ⟨fuel, h1⟩, h2, h3⟩ := h
    have hlt := DataW.trod_lt _ _ _ _ h1
    have h4 := trod_spareT (sp := fun b => decide (b < w.heap.size)) hp _ _ (hG t (List.mem_cons_self ..)) _ _ h1 (fun p hp => by simpa using hlt p hp)
    exact ⟨p, q, ⟨fuel, DataW.trod_carry _ _ _ _ h4 (fun p hp => hb.same (hlt p hp))⟩, trodAll_againT hp hb (fun u hu => hG u (List.mem_cons_of_mem _ hu)) h2, h3⟩
  | [], [], _ :: _, ps, _, h => h.elim
  | [], _ :: _, _, ps, _, h => h.elim
  | _ :: _, [], _, ps, _, h => h.elim
  | _ :: _, _ :: _, [], ps, _, h => h.elim

/-- A call that answers true and turns nothing that lay meets a law's row. -/
theorem post_trueT {f : Func} {s : ChangeSpec} {W W' : World} {args : Array Value} {ds gs : List (DataW H)} {before : List MemPlace} {tb : TypeId} (hp : PlainAll P G) (hG : ∀ t ∈ f.params.toList, G t) (hv : s.vars = []) (hr : f.resultTypes.toList = [tb]) (hrs : f.resultTypes.size = 1) (htb : P.underlying tb = some .bool)
    (hfn : s.fn H (ds ++ gs) = { results := [.lit (.bool true)], args := ds }) (hW : DataW.Whole enc P f.params.toList s.vars false W args.toList ds gs before) (hb : Below W.heap.size W W') : s.post enc P f false true false false W args (.bool true) W' := by
  have hW' := hW
  obtain ⟨p, q, hA, hV, rfl, hfz, hnd⟩ := hW
  refine ⟨ds, gs, _, [], p, q, hW', ?_, ?_, ?_, hb.frame _, fun h => by cases h⟩
  · rw [hr, hrs, hfn]
    exact trodAll_mk1 (shut_bool htb true)
  · rw [hfn]
    exact trodAll_againT hp hb hG hA
  · rw [hv] at hV ⊢
    rw [hfn]
    cases gs with
    | nil => exact hV
    | cons g r => exact hV.elim
end
end Go.Proofs.Ythnefcafhpioaaa
