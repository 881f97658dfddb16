/-
  An argument that is a slice of int64: proved is that what reads so holds numbers, each in its bounds. And the types of trees with it.
-/
import Derived.Test.YtbhbmoppipohjaaQTreeArg
import Derived.Test.YtbhbmoppipohjaaQRunX

namespace Go.Proofs.Ytbhbmoppipohjaa
open Go Go.RowKit Go.ChangeShapes Go.WideShapes Go.Deep

section
variable {H : Type} {enc : TypeId × Value → H} {W : World} {base : Nat} {sp : Nat → Bool} {held : Bool} {r : Reach} {b0 : Nat}
set_option maxRecDepth 100000 in
theorem arg_ints {v : Value} {d : DataW H} {p : List MemPlace} (hval : Value.okWide Try.prog W r b0 26 v) (h : DataW.Trod enc Try.prog W base sp held 26 v d p) : ∃ l, IntsAt W W.heap.size l v ∧ ∀ x ∈ l, fitsI x := by
  obtain ⟨va, vl, vc, rfl⟩ := okWide_slice Try.underlying26 hval
  obtain ⟨fuel, h⟩ := h
  change DataW.trod enc Try.prog W base sp held fuel _ [.slice va vl vc] = _ at h
  rcases DataW.trod_slice Try.underlying26 h with ⟨h1, _⟩ | ⟨a, len, cap, elems, rest, n, hf, h1, _, hb, hl, hc, hlen, hel, _⟩
  · obtain ⟨rfl, rfl, rfl⟩ : va = none ∧ vl = 0 ∧ vc = 0 := by simpa using h1
    exact ⟨[], ⟨none, 0, rfl, Nat.le_refl _, Nat.zero_le _, .inl rfl⟩, fun x hx => by cases hx⟩
  · obtain ⟨rfl, rfl, rfl⟩ : va = some a ∧ vl = len ∧ vc = cap := by simpa using h1
    have hone : Try.prog.cellsOf 2 = 1 := by kernel_rfl
    rw [hone] at hel
    have hex : ∀ i, i < vl → ∃ x : Int, W.cells? base (a.add (i * 1)) 1 = some [.int .i64 x] ∧ fitsI x := fun i hi => by
      have := hel i hi
      rw [List.getElem?_eq_getElem (by omega)] at this
      simp only [Option.bind_eq_some_iff] at this
      obtain ⟨cs, hcs, hy⟩ := this
      obtain ⟨x, hx, -, hw⟩ := DataW.trod_int Try.underlying2 hy
      subst hx
      exact ⟨x, hcs, fits_wf hw⟩
    obtain ⟨f, hfn⟩ := choose_lt hex
    refine ⟨(List.range vl).map f, ⟨some a, vc, by simp, by simpa using hl, hc, ?_⟩, ?_⟩
    · by_cases h0 : vl = 0
      · exact .inl (by simpa using h0)
      · right
        have hat : ∀ i, i < vl → W.cell? (a.add i) = some (.int .i64 (f i)) := fun i hi => by
          obtain ⟨hcs, _⟩ := hfn i hi
          rw [Nat.mul_one] at hcs
          obtain ⟨_, _, hat⟩ := World.cells?_some hcs
          have h2 := hat 0 (by decide)
          simpa [Addr.add] using h2
        have hsp : a = ⟨a.block, a.off, none⟩ := by
          have h2 := hat 0 (by omega)
          simp only [Addr.add] at h2
          exact spot_none h2
        have hc0 : ∀ i, i < vl → W.cell? ⟨a.block, a.off + i, none⟩ = some (.int .i64 (f i)) := fun i hi => by
          have h2 := hat i hi
          rw [hsp, add_none] at h2
          exact h2
        refine ⟨a.block, a.off, by rw [← hsp], World.block_lt_of_cell? W ⟨a.block, a.off + 0, none⟩ (hc0 0 (by omega)), fun i hi => ?_⟩
        simp only [List.length_map, List.length_range] at hi
        rw [hc0 i hi]
        simp
    · intro x hx
      obtain ⟨i, hi, rfl⟩ := List.mem_map.1 hx
      exact (hfn i (List.mem_range.1 hi)).2
end
/-- The types of trees, their parts' and scripts. -/
def treeTI : List TypeId := 26 :: treeT
set_option maxRecDepth 100000 in
theorem plainAllI : PlainAll Try.prog (fun t => t ∈ treeTI) := by
  have h : (treeTI.all fun t => match Try.prog.underlying t with
    | some .bool => true
    | some (.int _) => true
    | some .string => true
    | some (.slice e) => treeTI.contains e && decide (0 < Try.prog.cellsOf e)
    | some (.struct fs) => fs.toList.all fun f => treeTI.contains f.type
    | _ => false) = true := by kernel_rfl
  intro t ht
  have h2 := List.all_eq_true.1 h t ht
  unfold GoodT
  clear h
  split at h2
  case h_5 fs heq =>
    rw [heq]
    intro f hf
    have := List.all_eq_true.1 h2 f hf
    simpa using this
  all_goals simp_all
end Go.Proofs.Ytbhbmoppipohjaa
