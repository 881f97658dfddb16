/-
  Arguments that are expressions or conditions, in a seat that has no declarations: proved is that what reads as one lies in memory as a tree.
-/
import Derived.Test.YtepofbglpnnflaaDoorTrees
import Derived.Test.YtepofbglpnnflaaDoorPostT
import Derived.WideShapes
namespace Go.Proofs.YtepofbglpnnflaaDoor
open Go Go.RowKit Go.ChangeShapes Go.WideShapes Go.Deep

def tyX : Ty → TypeId | .C => 27 | _ => 24
def slX : Ty → TypeId | .C => 25 | _ => 22
theorem slX_under {ty : Ty} (h : ty = .E ∨ ty = .C) : Tryd.prog.underlying (slX ty) = some (.slice (tyX ty)) := by rcases h with rfl | rfl <;> kernel_rfl
theorem tyX_cells {ty : Ty} (h : ty = .E ∨ ty = .C) : Tryd.prog.cellsOf (tyX ty) = ty.size := by rcases h with rfl | rfl <;> kernel_rfl
section
variable {H : Type} {enc : TypeId × Value → H} {w : World} {base : Nat} {sp : Nat → Bool} {held : Bool}
theorem open_slX {ty : Ty} (hty : ty = .E ∨ ty = .C) {fuel : Nat} {v : Value} {x : DataW H × List MemPlace} (hn : ∀ n, n < fuel → ∀ cs y, DataW.trod enc Tryd.prog w base sp held n (tyX ty) cs = some y → ∃ d : Nd, d.ty = ty ∧ NdIn w d cs)
    (h : DataW.trod enc Tryd.prog w base sp held fuel (slX ty) [v] = some x) : ∃ l, SlIn w ty l v := by
  rcases DataW.trod_slice (slX_under hty) h with ⟨h1, _⟩ | ⟨a, len, cap, elems, rest, n, hf, h1, _, hb, hl, hc, hlen, hel, _⟩
  · obtain rfl : v = .slice none 0 0 := by simpa using h1
    exact ⟨[], slIn_nil w ty⟩
  · obtain rfl : v = .slice (some a) len cap := by simpa using h1
    rw [tyX_cells hty] at hel
    have hex : ∀ i, i < len → ∃ d : Nd, d.ty = ty ∧ ∃ cs, w.cells? base (a.add (i * ty.size)) ty.size = some cs ∧ NdIn w d cs := fun i hi => by
      have := hel i hi
      rw [List.getElem?_eq_getElem (by omega)] at this
      simp only [Option.bind_eq_some_iff] at this
      obtain ⟨cs, hcs, hy⟩ := this
      obtain ⟨d, hd1, hd2⟩ := hn n (by omega) cs _ hy
      exact ⟨d, hd1, cs, hcs, hd2⟩
    haveI : Inhabited Nd := ⟨.mk .E 0 0 ⟨#[]⟩ [] [] [] []⟩
    obtain ⟨f, hfn⟩ := choose_lt hex
    refine ⟨(List.range len).map f, some a, cap, by simp, by simpa using hl, hc, ?_⟩
    by_cases h0 : len = 0
    · exact .inl (by simpa using h0)
    · right
      have hsp : a = ⟨a.block, a.off, none⟩ := by
        obtain ⟨_, cs, hcs, _⟩ := hfn 0 (by omega)
        rw [Nat.zero_mul] at hcs
        have hpos : 0 < ty.size := by cases ty <;> decide
        obtain ⟨_, _, hat⟩ := World.cells?_some hcs
        have h2 := hat 0 hpos
        have hl2 : cs.length = ty.size := by obtain ⟨_, h, _⟩ := World.cells?_some hcs; exact h
        rw [List.getElem?_eq_getElem (by omega)] at h2
        simp only [Addr.add, if_true] at h2
        exact spot_none h2
      refine ⟨a.block, a.off, by rw [← hsp], RowIn.of _ _ _ (fun i hi => ?_)⟩
      simp only [List.length_map, List.length_range] at hi
      obtain ⟨hd, cs, hcs, hin⟩ := hfn i hi
      simp only [List.getElem_map, List.getElem_range]
      refine ⟨hd, cs, fun j u hj => ?_, hin⟩
      obtain ⟨_, hcl, hat⟩ := World.cells?_some hcs
      have hj2 : j < ty.size := by
        have := (List.getElem?_eq_some_iff.1 hj).1
        omega
      have h3 := hat j hj2
      rw [hj] at h3
      rw [hsp, add_none, add_none] at h3
      exact h3
theorem open_ndX : ∀ (fuel : Nat) (ty : Ty) (_ : ty = .E ∨ ty = .C) (cs : List Value) (y : DataW H × List MemPlace), DataW.trod enc Tryd.prog w base sp held fuel (tyX ty) cs = some y → ∃ d : Nd, d.ty = ty ∧ NdIn w d cs := by
  intro fuel
  induction fuel using Nat.strongRecOn with
  | ind fuel ih =>
    intro ty hty cs y h
    have hsl : ∀ (n : Nat), n < fuel → ∀ (ty' : Ty) (_ : ty' = .E ∨ ty' = .C) (v : Value) (x : DataW H × List MemPlace), DataW.trod enc Tryd.prog w base sp held n (slX ty') [v] = some x → ∃ l, SlIn w ty' l v := fun n hn ty' hty' v x hx =>
      open_slX hty' (fun m hm cs y hy => ih m (by omega) ty' hty' cs y hy) hx
    cases ty with
    | E =>
      obtain ⟨xs, n, rfl, _, hl, hxs, hf⟩ := DataW.trod_struct Tryd.underlying24 h
      have hl4 : cs.length = 4 := hl.trans (by kernel_rfl)
      obtain ⟨c0, c1, c2, c3, rfl⟩ := len4 hl4
      obtain ⟨y0, y1, y2, y3, rfl⟩ := len4 (hxs.trans (by rfl))
      obtain ⟨k, rfl, hk⟩ := i64_of (by kernel_rfl) (one_cell (c := c0) (by kernel_rfl) rfl rfl (hf 0 _ rfl))
      obtain ⟨m, rfl, hm⟩ := i64_of (by kernel_rfl) (one_cell (c := c1) (by kernel_rfl) rfl rfl (hf 1 _ rfl))
      obtain ⟨s, rfl, hs⟩ := str_of (one_cell (c := c2) (by kernel_rfl) rfl rfl (hf 2 _ rfl))
      obtain ⟨l, hlst⟩ := hsl n (by omega) .E (.inl rfl) c3 _ (one_cell (c := c3) (by kernel_rfl) rfl rfl (hf 3 _ rfl))
      refine ⟨.mk .E k m s l [] [] [], rfl, ?_⟩
      unfold NdIn
      exact ⟨⟨rfl, rfl, rfl⟩, hk, hm, hs, c3, _, _, _, rfl, hlst, sl0 w .C, sl0 w .S, sl0 w .S⟩
    | C =>
      obtain ⟨xs, n, rfl, _, hl, hxs, hf⟩ := DataW.trod_struct Tryd.underlying27 h
      have hl4 : cs.length = 4 := hl.trans (by kernel_rfl)
      obtain ⟨c0, c1, c2, c3, rfl⟩ := len4 hl4
      obtain ⟨y0, y1, y2, y3, rfl⟩ := len4 (hxs.trans (by rfl))
      obtain ⟨k, rfl, hk⟩ := i64_of (by kernel_rfl) (one_cell (c := c0) (by kernel_rfl) rfl rfl (hf 0 _ rfl))
      obtain ⟨m, rfl, hm⟩ := i64_of (by kernel_rfl) (one_cell (c := c1) (by kernel_rfl) rfl rfl (hf 1 _ rfl))
      obtain ⟨l, hlst⟩ := hsl n (by omega) .E (.inl rfl) c2 _ (one_cell (c := c2) (by kernel_rfl) rfl rfl (hf 2 _ rfl))
      obtain ⟨l2, hlst2⟩ := hsl n (by omega) .C (.inr rfl) c3 _ (one_cell (c := c3) (by kernel_rfl) rfl rfl (hf 3 _ rfl))
      refine ⟨.mk .C k m ⟨#[]⟩ l l2 [] [], rfl, ?_⟩
      unfold NdIn
      exact ⟨⟨rfl, rfl, rfl⟩, hk, hm, Nat.zero_le _, c2, c3, _, _, rfl, hlst, hlst2, sl0 w .S, sl0 w .S⟩
    | S => rcases hty with h | h <;> cases h
    | D => rcases hty with h | h <;> cases h
theorem tyX_struct {ty : Ty} (h : ty = .E ∨ ty = .C) : ∃ fs, Tryd.prog.underlying (tyX ty) = some (.struct fs) := by
  rcases h with rfl | rfl
  · exact ⟨_, Tryd.underlying24⟩
  · exact ⟨_, Tryd.underlying27⟩
set_option maxRecDepth 100000 in
theorem arg_ndX {r : Reach} {b0 : Nat} {ty : Ty} (hty : ty = .E ∨ ty = .C) {v : Value} {d : DataW H} {p : List MemPlace} (hval : Value.okWide Tryd.prog w r b0 (tyX ty) v) (h : DataW.Trod enc Tryd.prog w base sp held (tyX ty) v d p) : ∃ (x : Nd) (vs : List Value), v = .agg vs.toArray ∧ x.ty = ty ∧ NdIn w x vs := by
  obtain ⟨fs, hfs⟩ := tyX_struct hty
  obtain ⟨cs, rfl, _⟩ := okWide_struct hfs hval
  obtain ⟨fuel, hf⟩ := h
  obtain ⟨x, h1, h2⟩ := open_ndX fuel ty hty _ _ hf
  exact ⟨x, cs.toList, congrArg Value.agg (Array.ext' rfl), h1, h2⟩
end
theorem arg_fourX {w : World} {x : Nd} {vs : List Value} (h : NdIn w x vs) (hs : x.ty.size = 4) : ∃ a b c d, vs = [a, b, c, d] := len4 (h.len.trans hs)
/-- The types of expressions and conditions, and their parts'. -/
def treeX : List TypeId := [24, 27, 22, 25, 3, 2, 9, 4]
theorem plainX : PlainAll Tryd.prog (fun t => t ∈ treeX) := by
  have h : (treeX.all fun t => match Tryd.prog.underlying t with
    | some .bool => true
    | some (.int _) => true
    | some .string => true
    | some (.slice e) => treeX.contains e && decide (0 < Tryd.prog.cellsOf e)
    | some (.struct fs) => fs.toList.all fun f => treeX.contains f.type
    | _ => false) = true := by kernel_rfl
  intro t ht
  have h2 := List.all_eq_true.1 h t ht
  unfold GoodT
  clear h
  split at h2
  case h_5 fs heq =>
    rw [heq]
    intro f hf
    have := List.all_eq_true.1 h2 f hf
    simpa using this
  all_goals simp_all
end Go.Proofs.YtepofbglpnnflaaDoor
