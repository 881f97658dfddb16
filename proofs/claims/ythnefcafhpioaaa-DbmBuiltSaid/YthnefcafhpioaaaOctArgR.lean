/-
  Arguments that are rows of numbers: proved is that what reads so lies in memory so.
-/
import Derived.Test.YthnefcafhpioaaaOctArg
import Derived.Test.YthnefcafhpioaaaDeA
namespace Go.Proofs.Ythnefcafhpioaaa
open Go Go.RowKit Go.ChangeShapes Go.WideShapes Go.Deep

section
variable {H : Type} {enc : TypeId × Value → H} {W : World} {base : Nat} {sp : Nat → Bool} {held : Bool} {r : Reach} {b0 : Nat}
set_option maxRecDepth 100000 in
theorem open_rows {fuel : Nat} {v : Value} {x : DataW H × List MemPlace} (h : DataW.trod enc Try.prog W base sp held fuel 44 [v] = some x) : ∃ (a : Option Addr) (l : List (List Int)) (c : Nat), v = .slice a l.length c ∧ RsAt W l a ∧ (∀ r ∈ l, ∀ x ∈ r, isI x) ∧ l.length ≤ c ∧ c ≤ maxLen := by
  rcases DataW.trod_slice Try.underlying44 h with ⟨h1, _⟩ | ⟨a, len, cap, elems, rest, n, hf, h1, _, hb, hl, hc, hlen, hel, _⟩
  · obtain rfl : v = .slice none 0 0 := by simpa using h1
    exact ⟨none, [], 0, rfl, .inl rfl, fun x hx => (by cases hx), Nat.le_refl _, Nat.zero_le _⟩
  · obtain rfl : v = .slice (some a) len cap := by simpa using h1
    have hone : Try.prog.cellsOf 22 = 1 := by kernel_rfl
    rw [hone] at hel
    have hex : ∀ i, i < len → ∃ y : Option Addr × List Int × Nat, W.cells? base (a.add (i * 1)) 1 = some [.slice y.1 y.2.1.length y.2.2] ∧ MAt W y.2.1 y.1 ∧ ∀ x ∈ y.2.1, isI x := fun i hi => by
      have := hel i hi
      rw [List.getElem?_eq_getElem (by omega)] at this
      simp only [Option.bind_eq_some_iff] at this
      obtain ⟨cs, hcs, hy⟩ := this
      have hl1 : cs.length = 1 := (World.cells?_some hcs).2.1
      obtain ⟨u, rfl⟩ : ∃ u, cs = [u] := List.length_eq_one_iff.1 hl1
      obtain ⟨a1, l1, c1, rfl, hm, hi1, -, -⟩ := open_i64s hy
      exact ⟨(a1, l1, c1), hcs, hm, hi1⟩
    obtain ⟨f, hfn⟩ := choose_lt hex
    refine ⟨some a, (List.range len).map fun i => (f i).2.1, cap, by simp, ?_, ?_, by simpa using hl, hc⟩
    · by_cases h0 : len = 0
      · exact .inl (by simpa using h0)
      · right
        have hat : ∀ i, i < len → W.cell? (a.add i) = some (.slice (f i).1 (f i).2.1.length (f i).2.2) := fun i hi => by
          obtain ⟨hcs, _⟩ := hfn i hi
          rw [Nat.mul_one] at hcs
          obtain ⟨_, _, hat⟩ := World.cells?_some hcs
          have h2 := hat 0 (by decide)
          simpa [Addr.add] using h2
        have hsp : a = ⟨a.block, a.off, none⟩ := by
          have h2 := hat 0 (by omega)
          simp only [Addr.add] at h2
          exact spot_none h2
        refine ⟨a.block, a.off, (List.range len).map fun i => ((f i).1, (f i).2.2), by rw [← hsp], by simp, fun i r' h' hr hh => ?_⟩
        rw [List.getElem?_map] at hr hh
        simp only [Option.map_eq_some_iff] at hr hh
        obtain ⟨k, hk, rfl⟩ := hr
        obtain ⟨k2, hk2, rfl⟩ := hh
        have hi : i < len := by simpa using (List.getElem?_eq_some_iff.1 hk).1
        obtain rfl : k = i := by have := List.getElem?_eq_some_iff.1 hk; simpa using this.2.symm
        obtain rfl : k2 = k := by have := List.getElem?_eq_some_iff.1 hk2; simpa using this.2.symm
        have h2 := hat k2 hi
        rw [hsp, add_none] at h2
        exact ⟨h2, (hfn k2 hi).2.1⟩
    · intro r' hr
      obtain ⟨k, hk, rfl⟩ := List.mem_map.1 hr
      exact (hfn k (by simpa using hk)).2.2
theorem arg_rows {v : Value} {d : DataW H} {p : List MemPlace} (h : DataW.Trod enc Try.prog W base sp held 44 v d p) (hval : Value.okWide Try.prog W r b0 44 v) : ∃ (a : Option Addr) (l : List (List Int)) (c : Nat), v = .slice a l.length c ∧ RsAt W l a ∧ (∀ r ∈ l, ∀ x ∈ r, isI x) ∧ l.length ≤ c ∧ c ≤ maxLen := by
  obtain ⟨va, vl, vc, rfl⟩ := okWide_slice Try.underlying44 hval
  obtain ⟨fuel, h⟩ := h
  exact open_rows h
end
end Go.Proofs.Ythnefcafhpioaaa
