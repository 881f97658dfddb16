/-
  The statements' own program (gnomonlaw3's one): proved is which tree it is, in memory.
-/
import Derived.Test.YtepofbglpnnflaaDoorThru
namespace Go.Proofs.YtepofbglpnnflaaDoor
open Go Go.RowKit

/-- Items whose cells follow one another are a row. -/
theorem RowIn.cells {w : World} {ty : Ty} : ∀ (l : List Nd) (vss : List (List Value)) (b o : Nat), l.length = vss.length → (∀ (i : Nat) (h : i < l.length) (h' : i < vss.length), (l[i]).ty = ty ∧ NdIn w l[i] vss[i]) → (∀ j u, vss.flatten[j]? = some u → w.cell? ⟨b, o + j, none⟩ = some u) → RowIn w ty l b o
  | [], _, _, _, _, _, _ => by unfold RowIn; trivial
  | x :: r, [], _, _, hl, _, _ => by simp at hl
  | x :: r, vs :: vr, b, o, hl, hn, hc => by
    obtain ⟨h1, h2⟩ := hn 0 (by simp) (by simp)
    simp only [List.getElem_cons_zero] at h1 h2
    have hlen := h2.len
    rw [h1] at hlen
    unfold RowIn
    refine ⟨⟨h1, vs, fun j u hj => hc j u ?_, h2⟩, RowIn.cells r vr b (o + ty.size) (by simpa using hl) (fun i h h' => ?_) (fun j u hj => ?_)⟩
    · rw [List.flatten_cons, List.getElem?_append_left (List.getElem?_eq_some_iff.1 hj).1]
      exact hj
    · have := hn (i + 1) (by simpa using h) (by simpa using h')
      simpa using this
    · have := hc (ty.size + j) u (by
        rw [List.flatten_cons, List.getElem?_append_right (by omega), hlen, Nat.add_sub_cancel_left]
        exact hj)
      rwa [← Nat.add_assoc] at this
theorem slIn_blk {w : World} {ty : Ty} {l : List Nd} {vss : List (List Value)} {b : Nat} {t : TypeId} (hB : Blk w b vss.flatten.toArray t) (hl : l.length = vss.length) (hm : l.length ≤ maxLen) (hn : ∀ (i : Nat) (h : i < l.length) (h' : i < vss.length), (l[i]).ty = ty ∧ NdIn w l[i] vss[i]) : SlIn w ty l (.slice (some ⟨b, 0, none⟩) l.length l.length) :=
  ⟨_, _, rfl, Nat.le_refl _, hm, .inr ⟨b, 0, rfl, RowIn.cells l vss b 0 hl hn (fun j u hj => by
    rw [Nat.zero_add]
    have := hB.cell j
    simpa [hj] using this)⟩⟩
def xS : ByteArray := ⟨#[120]⟩
def oneD : Nd := .mk .D 0 0 xS [] [] [] []
def oneV : Nd := .mk .E 2 0 xS [] [] [] []
def oneN : Nd := .mk .E 1 1 ⟨#[]⟩ [] [] [] []
def oneE : Nd := .mk .E 6 0 ⟨#[]⟩ [oneV, oneN] [] [] []
def oneS : Nd := .mk .S 1 0 xS [oneE] [] [] []

theorem Blk.at {w : World} {cs : Array Value} {t : TypeId} {b : Nat} (hb : b = w.heap.size) : Blk (w.alloc (.cells cs t)) b cs t := hb ▸ Blk.new w cs t
def one1 : Obj := .cells #[.int .i64 2, .int .i64 0, .string xS, .slice none 0 0, .int .i64 1, .int .i64 1, .string ⟨#[]⟩, .slice none 0 0] 24
def one2 (h : Nat) : Obj := .cells #[.int .i64 6, .int .i64 0, .string ⟨#[]⟩, .slice (some ⟨h + 1, 0, none⟩) 2 2] 24
def one5 (h : Nat) : Obj := .cells #[.int .i64 1, .string xS, .slice (some ⟨h + 4, 0, none⟩) 1 1, .slice none 0 0, .slice none 0 0, .slice none 0 0] 143
theorem nodes1 {w : World} {x : Nd} {vs : List Value} {ty : Ty} (h1 : x.ty = ty) (h2 : NdIn w x vs) : ∀ (i : Nat) (_ : i < [x].length) (_ : i < [vs].length), ([x][i]).ty = ty ∧ NdIn w [x][i] [vs][i]
  | 0, _, _ => ⟨h1, h2⟩
theorem nodes2 {w : World} {x y : Nd} {us vs : List Value} {ty : Ty} (h1 : x.ty = ty) (h2 : NdIn w x us) (h3 : y.ty = ty) (h4 : NdIn w y vs) : ∀ (i : Nat) (_ : i < [x, y].length) (_ : i < [us, vs].length), ([x, y][i]).ty = ty ∧ NdIn w [x, y][i] [us, vs][i]
  | 0, _, _ => ⟨h1, h2⟩
  | 1, _, _ => ⟨h3, h4⟩
theorem ok_of {n : Int} (h : (Lit.int .i64 n).wf = true) : i64ok n := h
end Go.Proofs.YtepofbglpnnflaaDoor
