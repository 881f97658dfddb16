/-
  An octagon among the arguments: how many cells it may have.
-/
import Derived.Test.YthnefcafhpioaaaOctArg
import Derived.SizedLaws
namespace Go.Proofs.Ythnefcafhpioaaa
open Go Go.RowKit Go.ChangeShapes Go.WideShapes Go.Deep

section
variable {H : Type} {enc : TypeId × Value → H} {W : World} {base : Nat} {sp : Nat → Bool} {held : Bool} {r : Reach} {b0 : Nat}
/-- How long a slice may be. -/
theorem slice_size {t e : TypeId} {bytes : Nat} (ht : Try.prog.underlying t = some (.slice e)) (hb : Try.prog.bytesOf e = bytes) {fuel : Nat} {a : Option Addr} {n c : Nat} {x : DataW H × List MemPlace}
    (h : DataW.trod enc Try.prog W base sp held fuel t [.slice a n c] = some x) (hz : ∀ m ∈ x.1.weights Try.prog t, m ≤ reachBytes) : n * bytes ≤ reachBytes := by
  rcases DataW.trod_slice ht h with ⟨h1, _⟩ | ⟨b, len, cap, elems, rest, m, hf, h1, hx, hb2, hl, hc, hlen, hel, _⟩
  · obtain ⟨-, rfl, -⟩ : a = none ∧ n = 0 ∧ c = 0 := by simpa using h1
    simp
  · obtain ⟨-, rfl, -⟩ : a = some b ∧ n = len ∧ c = cap := by simpa using h1
    subst hx
    have h2 := hz ((elems.length + rest.length) * bytes) (by simp [DataW.weights, ht, hb])
    rw [hlen] at h2
    exact Nat.le_trans (Nat.mul_le_mul_right _ (by omega)) h2
set_option maxRecDepth 100000 in
theorem arg_octz {v : Value} {d : DataW H} {p : List MemPlace} (h : DataW.Trod enc Try.prog W base sp held 24 v d p) (hval : Value.okWide Try.prog W r b0 24 v) (hz : ∀ m ∈ d.weights Try.prog 24, m ≤ reachBytes) : ∃ (x : Oc) (a : Option Addr) (c : Nat), v = ocV x a c ∧ MAt W x.m a ∧ (∀ y ∈ x.m, isI y) ∧ x.m.length ≤ c ∧ c ≤ maxLen ∧ isI x.n ∧ x.m.length * 8 ≤ reachBytes := by
  obtain ⟨cs, rfl, _⟩ := okWide_struct Try.underlying24 hval
  obtain ⟨fuel, hf⟩ := h
  obtain ⟨xs, n, rfl, hx, hl, hxs, hff⟩ := DataW.trod_struct Try.underlying24 hf
  obtain rfl : d = .agg (xs.map (·.1)) := congrArg Prod.fst hx
  have hl2 : cs.toList.length = 3 := hl.trans (by kernel_rfl)
  obtain ⟨c0, c1, c2, hcs⟩ := len3 hl2
  simp only [Value.cells] at hff
  rw [hcs] at hff
  obtain ⟨y0, y1, y2, rfl⟩ := len3 (hxs.trans (by rfl))
  have hzz : ∀ m ∈ y2.1.weights Try.prog 22, m ≤ reachBytes := fun m hm => by
    refine hz m ?_
    simp only [DataW.weights, Try.underlying24]
    exact DataW.weights_mem_each (ts := [3, 4, 22]) (ds := [y0.1, y1.1, y2.1]) (j := 2) rfl rfl m hm
  have hk2 := one_cell (c := c2) (by kernel_rfl) rfl rfl (hff 2 _ rfl)
  obtain ⟨n0, h0, -, hw⟩ := DataW.trod_int Try.underlying3 (one_cell (c := c0) (by kernel_rfl) rfl rfl (hff 0 _ rfl))
  obtain ⟨e0, h1, -⟩ := DataW.trod_bool Try.underlying4 (one_cell (c := c1) (by kernel_rfl) rfl rfl (hff 1 _ rfl))
  obtain ⟨a, l, c, h2, hm, hi, hlc, hc⟩ := open_i64s hk2
  obtain rfl : c0 = .int .i64 n0 := by simpa using h0
  obtain rfl : c1 = .bool e0 := by simpa using h1
  subst h2
  have hsz := slice_size (bytes := 8) Try.underlying22 (by kernel_rfl) hk2 hzz
  exact ⟨⟨n0, e0, l⟩, a, c, congrArg Value.agg (Array.ext' hcs), hm, hi, hlc, hc, isI_wf hw, hsz⟩
end
end Go.Proofs.Ythnefcafhpioaaa
