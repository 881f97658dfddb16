/-
  The statements' own program (gnomonlaw3's one): proved is which tree it is, in memory.
-/
import Derived.Test.YtpildlaloclanaaThru
namespace Go.Proofs.Ytpildlaloclanaa
open Go Go.RowKit

/-- Items whose cells follow one another are a row. -/
theorem RowIn.cells {w : World} {ty : Ty} : ∀ (l : List Nd) (vss : List (List Value)) (b o : Nat), l.length = vss.length → (∀ (i : Nat) (h : i < l.length) (h' : i < vss.length), (l[i]).ty = ty ∧ NdIn w l[i] vss[i]) → (∀ j u, vss.flatten[j]? = some u → w.cell? ⟨b, o + j, none⟩ = some u) → RowIn w ty l b o
  | [], _, _, _, _, _, _ => by unfold RowIn; trivial
  | x :: r, [], _, _, hl, _, _ => by simp at hl
  | x :: r, vs :: vr, b, o, hl, hn, hc => by
    obtain ⟨h1, h2⟩ := hn 0 (by simp) (by simp)
    simp only [List.getElem_cons_zero] at h1 h2
    have hlen := h2.len
    rw [h1] at hlen
    unfold RowIn
    refine ⟨⟨h1, vs, fun j u hj => hc j u ?_, h2⟩, RowIn.cells r vr b (o + ty.size) (by simpa using hl) (fun i h h' => ?_) (fun j u hj => ?_)⟩
    · rw [List.flatten_cons, List.getElem?_append_left (List.getElem?_eq_some_iff.1 hj).1]
      exact hj
    · have := hn (i + 1) (by simpa using h) (by simpa using h')
      simpa using this
    · have := hc (ty.size + j) u (by
        rw [List.flatten_cons, List.getElem?_append_right (by omega), hlen, Nat.add_sub_cancel_left]
        exact hj)
      rwa [← Nat.add_assoc] at this
theorem slIn_blk {w : World} {ty : Ty} {l : List Nd} {vss : List (List Value)} {b : Nat} {t : TypeId} (hB : Blk w b vss.flatten.toArray t) (hl : l.length = vss.length) (hm : l.length ≤ maxLen) (hn : ∀ (i : Nat) (h : i < l.length) (h' : i < vss.length), (l[i]).ty = ty ∧ NdIn w l[i] vss[i]) : SlIn w ty l (.slice (some ⟨b, 0, none⟩) l.length l.length) :=
  ⟨_, _, rfl, Nat.le_refl _, hm, .inr ⟨b, 0, rfl, RowIn.cells l vss b 0 hl hn (fun j u hj => by
    rw [Nat.zero_add]
    have := hB.cell j
    simpa [hj] using this)⟩⟩
def xS : ByteArray := ⟨#[120]⟩
def oneD : Nd := .mk .D 0 0 xS [] [] [] []
def oneV : Nd := .mk .E 2 0 xS [] [] [] []
def oneN : Nd := .mk .E 1 1 ⟨#[]⟩ [] [] [] []
def oneE : Nd := .mk .E 6 0 ⟨#[]⟩ [oneV, oneN] [] [] []
def oneS : Nd := .mk .S 1 0 xS [oneE] [] [] []

theorem Blk.at {w : World} {cs : Array Value} {t : TypeId} {b : Nat} (hb : b = w.heap.size) : Blk (w.alloc (.cells cs t)) b cs t := hb ▸ Blk.new w cs t
def one0 (h : Nat) : Obj := .cells #[.slice (some ⟨h + 3, 0, none⟩) 1 1, .slice (some ⟨h + 5, 0, none⟩) 1 1] 25
def one1 : Obj := .cells #[.int .i64 2, .int .i64 0, .string xS, .slice none 0 0, .int .i64 1, .int .i64 1, .string ⟨#[]⟩, .slice none 0 0] 42
def one2 (h : Nat) : Obj := .cells #[.int .i64 6, .int .i64 0, .string ⟨#[]⟩, .slice (some ⟨h + 1, 0, none⟩) 2 2] 42
def one3 : Obj := .cells #[.string xS, .int .i64 0] 63
def one5 (h : Nat) : Obj := .cells #[.int .i64 1, .string xS, .slice (some ⟨h + 4, 0, none⟩) 1 1, .slice none 0 0, .slice none 0 0, .slice none 0 0] 67
def oneW (w : World) : World := (((((w.alloc (one0 w.heap.size)).alloc one1).alloc (one2 w.heap.size)).alloc one3).alloc (one2 w.heap.size)).alloc (one5 w.heap.size)
theorem nodes1 {w : World} {x : Nd} {vs : List Value} {ty : Ty} (h1 : x.ty = ty) (h2 : NdIn w x vs) : ∀ (i : Nat) (_ : i < [x].length) (_ : i < [vs].length), ([x][i]).ty = ty ∧ NdIn w [x][i] [vs][i]
  | 0, _, _ => ⟨h1, h2⟩
theorem nodes2 {w : World} {x y : Nd} {us vs : List Value} {ty : Ty} (h1 : x.ty = ty) (h2 : NdIn w x us) (h3 : y.ty = ty) (h4 : NdIn w y vs) : ∀ (i : Nat) (_ : i < [x, y].length) (_ : i < [us, vs].length), ([x, y][i]).ty = ty ∧ NdIn w [x, y][i] [us, vs][i]
  | 0, _, _ => ⟨h1, h2⟩
  | 1, _, _ => ⟨h3, h4⟩
theorem ok_of {n : Int} (h : (Lit.int .i64 n).wf = true) : i64ok n := h
theorem oneW_in (w : World) : SlIn (oneW w) .D [oneD] (.slice (some ⟨w.heap.size + 3, 0, none⟩) 1 1) ∧ SlIn (oneW w) .S [oneS] (.slice (some ⟨w.heap.size + 5, 0, none⟩) 1 1) ∧ Below w.heap.size w (oneW w) ∧ Blk (oneW w) w.heap.size #[.slice (some ⟨w.heap.size + 3, 0, none⟩) 1 1, .slice (some ⟨w.heap.size + 5, 0, none⟩) 1 1] 25 := by
  have hb : Below w.heap.size w (oneW w) := ((((((Below.refl _ w).alloc (by simp) _).alloc (by simp <;> omega) _).alloc (by simp <;> omega) _).alloc (by simp <;> omega) _).alloc (by simp <;> omega) _).alloc (by simp <;> omega) _
  have b0 : Blk (oneW w) w.heap.size #[.slice (some ⟨w.heap.size + 3, 0, none⟩) 1 1, .slice (some ⟨w.heap.size + 5, 0, none⟩) 1 1] 25 := (((((Blk.at (by simp)).alloc _).alloc _).alloc _).alloc _).alloc _
  have b1 : Blk (oneW w) (w.heap.size + 1) [[.int .i64 2, .int .i64 0, .string xS, .slice none 0 0], [.int .i64 1, .int .i64 1, .string ⟨#[]⟩, .slice none 0 0]].flatten.toArray 42 := ((((Blk.at (by simp)).alloc _).alloc _).alloc _).alloc _
  have b3 : Blk (oneW w) (w.heap.size + 3) [[.string xS, .int .i64 0]].flatten.toArray 63 := ((Blk.at (by simp)).alloc _).alloc _
  have b4 : Blk (oneW w) (w.heap.size + 4) [[.int .i64 6, .int .i64 0, .string ⟨#[]⟩, .slice (some ⟨w.heap.size + 1, 0, none⟩) 2 2]].flatten.toArray 42 := (Blk.at (by simp)).alloc _
  have b5 : Blk (oneW w) (w.heap.size + 5) [[.int .i64 1, .string xS, .slice (some ⟨w.heap.size + 4, 0, none⟩) 1 1, .slice none 0 0, .slice none 0 0, .slice none 0 0]].flatten.toArray 67 := Blk.at (by simp)
  obtain ⟨W, hW⟩ : ∃ W, oneW w = W := ⟨_, rfl⟩
  rw [hW] at b0 b1 b3 b4 b5 hb ⊢
  have n1 : NdIn W oneV [.int .i64 2, .int .i64 0, .string xS, .slice none 0 0] := by
    unfold oneV NdIn
    exact ⟨⟨rfl, rfl, rfl⟩, by unfold i64ok; decide, ok0, by decide, _, .slice none 0 0, .slice none 0 0, .slice none 0 0, rfl, sl0 W .E, sl0 W .C, sl0 W .S, sl0 W .S⟩
  have n2 : NdIn W oneN [.int .i64 1, .int .i64 1, .string ⟨#[]⟩, .slice none 0 0] := by
    unfold oneN NdIn
    exact ⟨⟨rfl, rfl, rfl⟩, by unfold i64ok; decide, by unfold i64ok; decide, by decide, _, .slice none 0 0, .slice none 0 0, .slice none 0 0, rfl, sl0 W .E, sl0 W .C, sl0 W .S, sl0 W .S⟩
  have l1 : SlIn W .E [oneV, oneN] (.slice (some ⟨w.heap.size + 1, 0, none⟩) 2 2) := slIn_blk b1 rfl (by decide) (nodes2 rfl n1 rfl n2)
  have n4 : NdIn W oneE [.int .i64 6, .int .i64 0, .string ⟨#[]⟩, .slice (some ⟨w.heap.size + 1, 0, none⟩) 2 2] := by
    unfold oneE NdIn
    exact ⟨⟨rfl, rfl, rfl⟩, by unfold i64ok; decide, ok0, by decide, _, .slice none 0 0, .slice none 0 0, .slice none 0 0, rfl, l1, sl0 W .C, sl0 W .S, sl0 W .S⟩
  have l4 : SlIn W .E [oneE] (.slice (some ⟨w.heap.size + 4, 0, none⟩) 1 1) := slIn_blk b4 rfl (by decide) (nodes1 rfl n4)
  have n5 : NdIn W oneS [.int .i64 1, .string xS, .slice (some ⟨w.heap.size + 4, 0, none⟩) 1 1, .slice none 0 0, .slice none 0 0, .slice none 0 0] := by
    unfold oneS NdIn
    exact ⟨rfl, by unfold i64ok; decide, ok0, by decide, _, _, _, _, rfl, l4, sl0 W .C, sl0 W .S, sl0 W .S⟩
  have n3 : NdIn W oneD [.string xS, .int .i64 0] := by
    unfold oneD NdIn
    exact ⟨⟨rfl, rfl, rfl, rfl, rfl⟩, ok0, ok0, by decide, .slice none 0 0, .slice none 0 0, .slice none 0 0, .slice none 0 0, rfl, sl0 W .E, sl0 W .C, sl0 W .S, sl0 W .S⟩
  exact ⟨slIn_blk b3 rfl (by decide) (nodes1 rfl n3), slIn_blk b5 rfl (by decide) (nodes1 rfl n5), hb, b0⟩

theorem one_end (w : World) {tm : Array Value} (h0 : tm[0]? = some (.pointer (some ⟨w.heap.size, 0, none⟩))) :
    bodyPost Try.prog Try.f25 (fun e w' => ∃ v0 v1, e = .returned (.agg #[v0, v1]) ∧ SlIn w' .D [oneD] v0 ∧ SlIn w' .S [oneS] v1 ∧ Below w.heap.size w w') .ret { tmps := tm, defers := [] } (oneW w) := by
  obtain ⟨h1, h2, h3, h4⟩ := oneW_in w
  obtain ⟨W, hW⟩ : ∃ W, oneW w = W := ⟨_, rfl⟩
  rw [hW] at h1 h2 h3 h4 ⊢
  have q0 : W.cell? ⟨w.heap.size, 0, none⟩ = some (.slice (some ⟨w.heap.size + 3, 0, none⟩) 1 1) := h4.cell 0
  have q1 : W.cell? ⟨w.heap.size, 1, none⟩ = some (.slice (some ⟨w.heap.size + 5, 0, none⟩) 1 1) := h4.cell 1
  exact bodyPost_ret (v := .agg #[.slice (some ⟨w.heap.size + 3, 0, none⟩) 1 1, .slice (some ⟨w.heap.size + 5, 0, none⟩) 1 1]) (by simp [results, Try.results25, go_sem, q0, q1, h0]) rfl ⟨_, _, rfl, h1, h2, h3⟩
set_option maxRecDepth 100000 in
theorem one_any (w : World) :
    Calls Try.prog 25 #[] w (fun e w' => ∃ v0 v1, e = .returned (.agg #[v0, v1]) ∧ SlIn w' .D [oneD] v0 ∧ SlIn w' .S [oneS] v1 ∧ Below w.heap.size w w') := by
  go_enter Try.func25, Try.ntmps25
  go_wp2_with fail
  exact one_end w rfl
end Go.Proofs.Ytpildlaloclanaa
