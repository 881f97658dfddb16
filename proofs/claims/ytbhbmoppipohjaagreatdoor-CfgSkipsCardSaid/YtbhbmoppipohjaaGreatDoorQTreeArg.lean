/-
  Arguments that are trees: proved is that what reads as an expression, a condition or a program lies in memory as a tree.
-/
import Derived.Test.YtbhbmoppipohjaaGreatDoorQThru
import Derived.WideShapes
import Derived.Test.YtbhbmoppipohjaaGreatDoorQPostT

namespace Go.Proofs.YtbhbmoppipohjaaGreatDoor
open Go Go.RowKit Go.ChangeShapes Go.WideShapes

section
variable {H : Type} {enc : TypeId × Value → H} {W : World} {base b0 : Nat} {sp : Nat → Bool} {held : Bool} {r : Reach}
set_option maxRecDepth 100000 in
theorem tyId_struct (ty : Ty) : ∃ fs, Tryz.prog.underlying (tyId ty) = some (.struct fs) := by
  cases ty
  · exact ⟨_, Tryz.underlying140⟩
  · exact ⟨_, Tryz.underlying148⟩
  · exact ⟨_, Tryz.underlying60⟩
  · exact ⟨_, Tryz.underlying85⟩
set_option maxRecDepth 100000 in
theorem arg_nd {ty : Ty} {v : Value} {d : DataW H} {p : List MemPlace} (hval : Value.okWide Tryz.prog W r b0 (tyId ty) v) (h : DataW.Trod enc Tryz.prog W base sp held (tyId ty) v d p) : ∃ (x : Nd) (vs : List Value), v = .agg vs.toArray ∧ x.ty = ty ∧ NdIn W x vs := by
  obtain ⟨fs, hfs⟩ := tyId_struct ty
  obtain ⟨cs, rfl, _⟩ := okWide_struct hfs hval
  obtain ⟨fuel, hf⟩ := h
  obtain ⟨x, h1, h2⟩ := open_nd fuel ty _ _ hf
  exact ⟨x, cs.toList, congrArg Value.agg (Array.ext' rfl), h1, h2⟩
theorem arg_four {x : Nd} {vs : List Value} (h : NdIn W x vs) (hs : x.ty.size = 4) : ∃ a b c d, vs = [a, b, c, d] := len4 (h.len.trans hs)
set_option maxRecDepth 100000 in
theorem arg_prog {v : Value} {d : DataW H} {p : List MemPlace} (hval : Value.okWide Tryz.prog W r b0 25 v) (h : DataW.Trod enc Tryz.prog W base sp held 25 v d p) : ∃ (ds ss : List Nd) (v0 v1 : Value), v = .agg #[v0, v1] ∧ SlIn W .D ds v0 ∧ SlIn W .S ss v1 := by
  obtain ⟨cs, rfl, _⟩ := okWide_struct Tryz.underlying25 hval
  obtain ⟨fuel, hf⟩ := h
  obtain ⟨xs, n, rfl, _, hl, hxs, hff⟩ := DataW.trod_struct Tryz.underlying25 hf
  have hl2 : cs.toList.length = 2 := hl.trans (by kernel_rfl)
  obtain ⟨c0, c1, hcs⟩ := len2 hl2
  simp only [Value.cells] at hff
  rw [hcs] at hff
  obtain ⟨y0, y1, rfl⟩ := len2 (hxs.trans (by rfl))
  obtain ⟨ds, hds⟩ := open_list (ty := .D) (one_cell (c := c0) (by kernel_rfl) rfl rfl (hff 0 _ rfl))
  obtain ⟨ss, hss⟩ := open_list (ty := .S) (one_cell (c := c1) (by kernel_rfl) rfl rfl (hff 1 _ rfl))
  exact ⟨ds, ss, c0, c1, congrArg Value.agg (Array.ext' hcs), hds, hss⟩
end
/-- The types of trees, and their parts'. -/
def treeT : List TypeId := [25, 140, 148, 60, 85, 57, 58, 23, 22, 3, 2, 9, 4]
theorem plainAll : PlainAll Tryz.prog (fun t => t ∈ treeT) := by
  have h : (treeT.all fun t => match Tryz.prog.underlying t with
    | some .bool => true
    | some (.int _) => true
    | some .string => true
    | some (.slice e) => treeT.contains e && decide (0 < Tryz.prog.cellsOf e)
    | some (.struct fs) => fs.toList.all fun f => treeT.contains f.type
    | _ => false) = true := by kernel_rfl
  intro t ht
  have h2 := List.all_eq_true.1 h t ht
  unfold GoodT
  clear h
  split at h2
  case h_5 fs heq =>
    rw [heq]
    intro f hf
    have := List.all_eq_true.1 h2 f hf
    simpa using this
  all_goals simp_all
end Go.Proofs.YtbhbmoppipohjaaGreatDoor
