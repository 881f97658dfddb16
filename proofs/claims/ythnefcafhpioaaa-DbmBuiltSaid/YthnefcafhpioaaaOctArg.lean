/-
  Arguments that are octagons, numbers, points: proved is that what reads so lies in memory so; and the types of these.
-/
import Derived.Test.YthnefcafhpioaaaRows
import Derived.Test.YthnefcafhpioaaaOmA
import Derived.Test.YthnefcafhpioaaaPostT
import Derived.WideShapes
import Derived.Deep.Slices
namespace Go.Proofs.Ythnefcafhpioaaa
open Go Go.RowKit Go.ChangeShapes Go.WideShapes Go.Deep

theorem spot_none {w : World} {a : Addr} {u : Value} (h : w.cell? a = some u) : a = ⟨a.block, a.off, none⟩ := by
  cases hs : a.spot with
  | none => cases a; simp_all
  | some s =>
    exfalso
    simp only [World.cell?] at h
    split at h
    · simp [hs] at h
    · cases h
theorem add_none (b o i : Nat) : (⟨b, o, none⟩ : Addr).add i = ⟨b, o + i, none⟩ := by
  unfold Addr.add
  split <;> simp_all
section
variable {H : Type} {enc : TypeId × Value → H} {W : World} {base : Nat} {sp : Nat → Bool} {held : Bool} {r : Reach} {b0 : Nat}
set_option maxRecDepth 100000 in
theorem open_i64s {fuel : Nat} {v : Value} {x : DataW H × List MemPlace} (h : DataW.trod enc Try.prog W base sp held fuel 22 [v] = some x) : ∃ (a : Option Addr) (l : List Int) (c : Nat), v = .slice a l.length c ∧ MAt W l a ∧ (∀ x ∈ l, isI x) ∧ l.length ≤ c ∧ c ≤ maxLen := by
  rcases DataW.trod_slice Try.underlying22 h with ⟨h1, _⟩ | ⟨a, len, cap, elems, rest, n, hf, h1, _, hb, hl, hc, hlen, hel, _⟩
  · obtain rfl : v = .slice none 0 0 := by simpa using h1
    exact ⟨none, [], 0, rfl, .inl rfl, fun x hx => (by cases hx), Nat.le_refl _, Nat.zero_le _⟩
  · obtain rfl : v = .slice (some a) len cap := by simpa using h1
    have hone : Try.prog.cellsOf 2 = 1 := by kernel_rfl
    rw [hone] at hel
    have hex : ∀ i, i < len → ∃ x : Int, W.cells? base (a.add (i * 1)) 1 = some [.int .i64 x] ∧ isI x := fun i hi => by
      have := hel i hi
      rw [List.getElem?_eq_getElem (by omega)] at this
      simp only [Option.bind_eq_some_iff] at this
      obtain ⟨cs, hcs, hy⟩ := this
      obtain ⟨x, hx, -, hw⟩ := DataW.trod_int Try.underlying2 hy
      subst hx
      exact ⟨x, hcs, isI_wf hw⟩
    obtain ⟨f, hfn⟩ := choose_lt hex
    refine ⟨some a, (List.range len).map f, cap, by simp, ?_, ?_, by simpa using hl, hc⟩
    · by_cases h0 : len = 0
      · exact .inl (by simpa using h0)
      · right
        have hat : ∀ i, i < len → W.cell? (a.add i) = some (.int .i64 (f i)) := fun i hi => by
          obtain ⟨hcs, _⟩ := hfn i hi
          rw [Nat.mul_one] at hcs
          obtain ⟨_, _, hat⟩ := World.cells?_some hcs
          have h2 := hat 0 (by decide)
          simpa [Addr.add] using h2
        have hsp : a = ⟨a.block, a.off, none⟩ := by
          have h2 := hat 0 (by omega)
          simp only [Addr.add] at h2
          exact spot_none h2
        refine ⟨a.block, a.off, by rw [← hsp], fun i hi => ?_⟩
        simp only [List.length_map, List.length_range] at hi
        have h2 := hat i hi
        rw [hsp, add_none] at h2
        rw [h2]
        simp
    · intro x hx
      obtain ⟨i, hi, rfl⟩ := List.mem_map.1 hx
      exact (hfn i (List.mem_range.1 hi)).2
theorem arg_i64s {v : Value} {d : DataW H} {p : List MemPlace} (h : DataW.Trod enc Try.prog W base sp held 22 v d p) (hval : Value.okWide Try.prog W r b0 22 v) : ∃ (a : Option Addr) (l : List Int) (c : Nat), v = .slice a l.length c ∧ MAt W l a ∧ (∀ x ∈ l, isI x) ∧ l.length ≤ c ∧ c ≤ maxLen := by
  obtain ⟨va, vl, vc, rfl⟩ := okWide_slice Try.underlying22 hval
  obtain ⟨fuel, h⟩ := h
  exact open_i64s h
theorem one_cell {n : Nat} {cs : List Value} {t : TypeId} {off : Nat} {r : Option (DataW H × List MemPlace)} {y : DataW H × List MemPlace} {c : Value} (hk : Try.prog.cellsOf t = 1) (hc : cs[off]? = some c) (hr : r = some y)
    (h : DataW.trod enc Try.prog W base sp held n t ((cs.drop off).take (Try.prog.cellsOf t)) = r) : DataW.trod enc Try.prog W base sp held n t [c] = some y := by
  rw [hk, hr] at h
  have e : (cs.drop off).take 1 = [c] := by
    obtain ⟨hl, he⟩ := List.getElem?_eq_some_iff.1 hc
    rw [List.drop_eq_getElem_cons hl, he]
    rfl
  rwa [e] at h
theorem len3 {α : Type} {l : List α} (h : l.length = 3) : ∃ a b c, l = [a, b, c] := by
  match l, h with
  | [a, b, c], _ => exact ⟨a, b, c, rfl⟩
set_option maxRecDepth 100000 in
theorem arg_oct {v : Value} {d : DataW H} {p : List MemPlace} (h : DataW.Trod enc Try.prog W base sp held 24 v d p) (hval : Value.okWide Try.prog W r b0 24 v) : ∃ (x : Oc) (a : Option Addr) (c : Nat), v = ocV x a c ∧ MAt W x.m a ∧ (∀ y ∈ x.m, isI y) ∧ x.m.length ≤ c ∧ c ≤ maxLen ∧ isI x.n := by
  obtain ⟨cs, rfl, _⟩ := okWide_struct Try.underlying24 hval
  obtain ⟨fuel, hf⟩ := h
  obtain ⟨xs, n, rfl, _, hl, hxs, hff⟩ := DataW.trod_struct Try.underlying24 hf
  have hl2 : cs.toList.length = 3 := hl.trans (by kernel_rfl)
  obtain ⟨c0, c1, c2, hcs⟩ := len3 hl2
  simp only [Value.cells] at hff
  rw [hcs] at hff
  obtain ⟨y0, y1, y2, rfl⟩ := len3 (hxs.trans (by rfl))
  obtain ⟨n0, h0, -, hw⟩ := DataW.trod_int Try.underlying3 (one_cell (c := c0) (by kernel_rfl) rfl rfl (hff 0 _ rfl))
  obtain ⟨e0, h1, -⟩ := DataW.trod_bool Try.underlying4 (one_cell (c := c1) (by kernel_rfl) rfl rfl (hff 1 _ rfl))
  obtain ⟨a, l, c, h2, hm, hi, hlc, hc⟩ := open_i64s (one_cell (c := c2) (by kernel_rfl) rfl rfl (hff 2 _ rfl))
  obtain rfl : c0 = .int .i64 n0 := by simpa using h0
  obtain rfl : c1 = .bool e0 := by simpa using h1
  subst h2
  exact ⟨⟨n0, e0, l⟩, a, c, congrArg Value.agg (Array.ext' hcs), hm, hi, hlc, hc, isI_wf hw⟩
end
/-- The types of octagons and points, and their parts'. -/
def octT : List TypeId := [24, 22, 44, 3, 2, 4]
theorem plainAllO : PlainAll Try.prog (fun t => t ∈ octT) := by
  have h : (octT.all fun t => match Try.prog.underlying t with
    | some .bool => true
    | some (.int _) => true
    | some .string => true
    | some (.slice e) => octT.contains e && decide (0 < Try.prog.cellsOf e)
    | some (.struct fs) => fs.toList.all fun f => octT.contains f.type
    | _ => false) = true := by kernel_rfl
  intro t ht
  have h2 := List.all_eq_true.1 h t ht
  unfold GoodT
  clear h
  split at h2
  case h_5 fs heq =>
    try rw [heq]
    intro f hf
    have := List.all_eq_true.1 h2 f hf
    simpa using this
  all_goals simp_all
end Go.Proofs.Ythnefcafhpioaaa
