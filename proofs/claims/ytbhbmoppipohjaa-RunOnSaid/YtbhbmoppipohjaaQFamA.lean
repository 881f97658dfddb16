/-
  Layer 8's families: the trees that the statements build, in memory.
-/
import Derived.Test.YtbhbmoppipohjaaQThru
import Derived.Test.YtbhbmoppipohjaaQRunX
/-
  The statements' own program (gnomonlaw3's one): proved is which tree it is, in memory.
-/
namespace Go.Proofs.Ytbhbmoppipohjaa
open Go Go.RowKit

/-- Items whose cells follow one another are a row. -/
theorem RowIn.cells {w : World} {ty : Ty} : ∀ (l : List Nd) (vss : List (List Value)) (b o : Nat), l.length = vss.length → (∀ (i : Nat) (h : i < l.length) (h' : i < vss.length), (l[i]).ty = ty ∧ NdIn w l[i] vss[i]) → (∀ j u, vss.flatten[j]? = some u → w.cell? ⟨b, o + j, none⟩ = some u) → RowIn w ty l b o
  | [], _, _, _, _, _, _ => by unfold RowIn; trivial
  | x :: r, [], _, _, hl, _, _ => by simp at hl
  | x :: r, vs :: vr, b, o, hl, hn, hc => by
    obtain ⟨h1, h2⟩ := hn 0 (by simp) (by simp)
    simp only [List.getElem_cons_zero] at h1 h2
    have hlen := h2.len
    rw [h1] at hlen
    unfold RowIn
    refine ⟨⟨h1, vs, fun j u hj => hc j u ?_, h2⟩, RowIn.cells r vr b (o + ty.size) (by simpa using hl) (fun i h h' => ?_) (fun j u hj => ?_)⟩
    · rw [List.flatten_cons, List.getElem?_append_left (List.getElem?_eq_some_iff.1 hj).1]
      exact hj
    · have := hn (i + 1) (by simpa using h) (by simpa using h')
      simpa using this
    · have := hc (ty.size + j) u (by
        rw [List.flatten_cons, List.getElem?_append_right (by omega), hlen, Nat.add_sub_cancel_left]
        exact hj)
      rwa [← Nat.add_assoc] at this
theorem slIn_blk {w : World} {ty : Ty} {l : List Nd} {vss : List (List Value)} {b : Nat} {t : TypeId} (hB : Blk w b vss.flatten.toArray t) (hl : l.length = vss.length) (hm : l.length ≤ maxLen) (hn : ∀ (i : Nat) (h : i < l.length) (h' : i < vss.length), (l[i]).ty = ty ∧ NdIn w l[i] vss[i]) : SlIn w ty l (.slice (some ⟨b, 0, none⟩) l.length l.length) :=
  ⟨_, _, rfl, Nat.le_refl _, hm, .inr ⟨b, 0, rfl, RowIn.cells l vss b 0 hl hn (fun j u hj => by
    rw [Nat.zero_add]
    have := hB.cell j
    simpa [hj] using this)⟩⟩
def xS : ByteArray := ⟨#[120]⟩
def oneD : Nd := .mk .D 0 0 xS [] [] [] []
def oneV : Nd := .mk .E 2 0 xS [] [] [] []
def oneN : Nd := .mk .E 1 1 ⟨#[]⟩ [] [] [] []
def oneE : Nd := .mk .E 6 0 ⟨#[]⟩ [oneV, oneN] [] [] []
def oneS : Nd := .mk .S 1 0 xS [oneE] [] [] []

theorem Blk.at {w : World} {cs : Array Value} {t : TypeId} {b : Nat} (hb : b = w.heap.size) : Blk (w.alloc (.cells cs t)) b cs t := hb ▸ Blk.new w cs t
def one0 (h : Nat) : Obj := .cells #[.slice (some ⟨h + 3, 0, none⟩) 1 1, .slice (some ⟨h + 5, 0, none⟩) 1 1] 25
def one1 : Obj := .cells #[.int .i64 2, .int .i64 0, .string xS, .slice none 0 0, .int .i64 1, .int .i64 1, .string ⟨#[]⟩, .slice none 0 0] 42
def one2 (h : Nat) : Obj := .cells #[.int .i64 6, .int .i64 0, .string ⟨#[]⟩, .slice (some ⟨h + 1, 0, none⟩) 2 2] 42
def one3 : Obj := .cells #[.string xS, .int .i64 0] 44
def one5 (h : Nat) : Obj := .cells #[.int .i64 1, .string xS, .slice (some ⟨h + 4, 0, none⟩) 1 1, .slice none 0 0, .slice none 0 0, .slice none 0 0] 47
def oneW (w : World) : World := (((((w.alloc (one0 w.heap.size)).alloc one1).alloc (one2 w.heap.size)).alloc one3).alloc (one2 w.heap.size)).alloc (one5 w.heap.size)
theorem nodes1 {w : World} {x : Nd} {vs : List Value} {ty : Ty} (h1 : x.ty = ty) (h2 : NdIn w x vs) : ∀ (i : Nat) (_ : i < [x].length) (_ : i < [vs].length), ([x][i]).ty = ty ∧ NdIn w [x][i] [vs][i]
  | 0, _, _ => ⟨h1, h2⟩
theorem nodes2 {w : World} {x y : Nd} {us vs : List Value} {ty : Ty} (h1 : x.ty = ty) (h2 : NdIn w x us) (h3 : y.ty = ty) (h4 : NdIn w y vs) : ∀ (i : Nat) (_ : i < [x, y].length) (_ : i < [us, vs].length), ([x, y][i]).ty = ty ∧ NdIn w [x, y][i] [us, vs][i]
  | 0, _, _ => ⟨h1, h2⟩
  | 1, _, _ => ⟨h3, h4⟩
theorem ok_of {n : Int} (h : (Lit.int .i64 n).wf = true) : i64ok n := h
theorem oneW_in (w : World) : SlIn (oneW w) .D [oneD] (.slice (some ⟨w.heap.size + 3, 0, none⟩) 1 1) ∧ SlIn (oneW w) .S [oneS] (.slice (some ⟨w.heap.size + 5, 0, none⟩) 1 1) ∧ Below w.heap.size w (oneW w) ∧ Blk (oneW w) w.heap.size #[.slice (some ⟨w.heap.size + 3, 0, none⟩) 1 1, .slice (some ⟨w.heap.size + 5, 0, none⟩) 1 1] 25 := by
  have hb : Below w.heap.size w (oneW w) := ((((((Below.refl _ w).alloc (by simp) _).alloc (by simp <;> omega) _).alloc (by simp <;> omega) _).alloc (by simp <;> omega) _).alloc (by simp <;> omega) _).alloc (by simp <;> omega) _
  have b0 : Blk (oneW w) w.heap.size #[.slice (some ⟨w.heap.size + 3, 0, none⟩) 1 1, .slice (some ⟨w.heap.size + 5, 0, none⟩) 1 1] 25 := (((((Blk.at (by simp)).alloc _).alloc _).alloc _).alloc _).alloc _
  have b1 : Blk (oneW w) (w.heap.size + 1) [[.int .i64 2, .int .i64 0, .string xS, .slice none 0 0], [.int .i64 1, .int .i64 1, .string ⟨#[]⟩, .slice none 0 0]].flatten.toArray 42 := ((((Blk.at (by simp)).alloc _).alloc _).alloc _).alloc _
  have b3 : Blk (oneW w) (w.heap.size + 3) [[.string xS, .int .i64 0]].flatten.toArray 44 := ((Blk.at (by simp)).alloc _).alloc _
  have b4 : Blk (oneW w) (w.heap.size + 4) [[.int .i64 6, .int .i64 0, .string ⟨#[]⟩, .slice (some ⟨w.heap.size + 1, 0, none⟩) 2 2]].flatten.toArray 42 := (Blk.at (by simp)).alloc _
  have b5 : Blk (oneW w) (w.heap.size + 5) [[.int .i64 1, .string xS, .slice (some ⟨w.heap.size + 4, 0, none⟩) 1 1, .slice none 0 0, .slice none 0 0, .slice none 0 0]].flatten.toArray 47 := Blk.at (by simp)
  obtain ⟨W, hW⟩ : ∃ W, oneW w = W := ⟨_, rfl⟩
  rw [hW] at b0 b1 b3 b4 b5 hb ⊢
  have n1 : NdIn W oneV [.int .i64 2, .int .i64 0, .string xS, .slice none 0 0] := by
    unfold oneV NdIn
    exact ⟨⟨rfl, rfl, rfl⟩, by unfold i64ok; decide, ok0, by decide, _, .slice none 0 0, .slice none 0 0, .slice none 0 0, rfl, sl0 W .E, sl0 W .C, sl0 W .S, sl0 W .S⟩
  have n2 : NdIn W oneN [.int .i64 1, .int .i64 1, .string ⟨#[]⟩, .slice none 0 0] := by
    unfold oneN NdIn
    exact ⟨⟨rfl, rfl, rfl⟩, by unfold i64ok; decide, by unfold i64ok; decide, by decide, _, .slice none 0 0, .slice none 0 0, .slice none 0 0, rfl, sl0 W .E, sl0 W .C, sl0 W .S, sl0 W .S⟩
  have l1 : SlIn W .E [oneV, oneN] (.slice (some ⟨w.heap.size + 1, 0, none⟩) 2 2) := slIn_blk b1 rfl (by decide) (nodes2 rfl n1 rfl n2)
  have n4 : NdIn W oneE [.int .i64 6, .int .i64 0, .string ⟨#[]⟩, .slice (some ⟨w.heap.size + 1, 0, none⟩) 2 2] := by
    unfold oneE NdIn
    exact ⟨⟨rfl, rfl, rfl⟩, by unfold i64ok; decide, ok0, by decide, _, .slice none 0 0, .slice none 0 0, .slice none 0 0, rfl, l1, sl0 W .C, sl0 W .S, sl0 W .S⟩
  have l4 : SlIn W .E [oneE] (.slice (some ⟨w.heap.size + 4, 0, none⟩) 1 1) := slIn_blk b4 rfl (by decide) (nodes1 rfl n4)
  have n5 : NdIn W oneS [.int .i64 1, .string xS, .slice (some ⟨w.heap.size + 4, 0, none⟩) 1 1, .slice none 0 0, .slice none 0 0, .slice none 0 0] := by
    unfold oneS NdIn
    exact ⟨rfl, by unfold i64ok; decide, ok0, by decide, _, _, _, _, rfl, l4, sl0 W .C, sl0 W .S, sl0 W .S⟩
  have n3 : NdIn W oneD [.string xS, .int .i64 0] := by
    unfold oneD NdIn
    exact ⟨⟨rfl, rfl, rfl, rfl, rfl⟩, ok0, ok0, by decide, .slice none 0 0, .slice none 0 0, .slice none 0 0, .slice none 0 0, rfl, sl0 W .E, sl0 W .C, sl0 W .S, sl0 W .S⟩
  exact ⟨slIn_blk b3 rfl (by decide) (nodes1 rfl n3), slIn_blk b5 rfl (by decide) (nodes1 rfl n5), hb, b0⟩

end Go.Proofs.Ytbhbmoppipohjaa

/-
  Layer 8's families: the trees that the statements build, in memory.
-/
namespace Go.Proofs.Ytbhbmoppipohjaa
open Go Go.RowKit Go.Maps

def e0 : ByteArray := ⟨#[]⟩
def kE (k n : Int) (s : ByteArray) (xs : List Nd) : Nd := .mk .E k n s xs [] [] []
def numE (n : Int) : Nd := if n < 0 then kE 5 0 e0 [kE 1 (-n) e0 []] else kE 1 n e0 []
def varE (s : ByteArray) : Nd := kE 2 0 s []
def twoE (k : Int) (x y : Nd) : Nd := kE k 0 e0 [x, y]
def cmpC (op : Int) (x y : Nd) : Nd := .mk .C 3 op e0 [x, y] [] [] []
def giveS (s : ByteArray) (x : Nd) : Nd := .mk .S 1 0 s [x] [] [] []
def ETo (w : World) (x : Nd) : Ending → World → Prop := fun e w' => ∃ (k n : Int) (s : ByteArray) (a : Option Addr) (l c : Nat), e = .returned (.agg #[.int .i64 k, .int .i64 n, .string s, .slice a l c]) ∧ NdIn w' x [.int .i64 k, .int .i64 n, .string s, .slice a l c] ∧ Below w.heap.size w w'
theorem leafE {w : World} {k n : Int} {s : ByteArray} (hk : i64ok k) (hn : i64ok n) (hs : s.size ≤ maxLen) : NdIn w (kE k n s []) [.int .i64 k, .int .i64 n, .string s, .slice none 0 0] := by
  unfold kE NdIn
  exact ⟨⟨rfl, rfl, rfl⟩, hk, hn, hs, _, .slice none 0 0, .slice none 0 0, .slice none 0 0, rfl, sl0 w .E, sl0 w .C, sl0 w .S, sl0 w .S⟩
theorem nodeE {w : World} {k n : Int} {s : ByteArray} {xs : List Nd} {v : Value} (hk : i64ok k) (hn : i64ok n) (hs : s.size ≤ maxLen) (hx : SlIn w .E xs v) : NdIn w (kE k n s xs) [.int .i64 k, .int .i64 n, .string s, v] := by
  unfold kE NdIn
  exact ⟨⟨rfl, rfl, rfl⟩, hk, hn, hs, v, .slice none 0 0, .slice none 0 0, .slice none 0 0, rfl, hx, sl0 w .C, sl0 w .S, sl0 w .S⟩
theorem small_ok {n : Int} (h0 : 0 ≤ n) (h1 : n ≤ 2147483647) : i64ok n := by
  unfold i64ok
  simp only [Lit.wf, Bool.and_eq_true, decide_eq_true_eq]
  have e1 : IntKind.i64.min = -9223372036854775808 := by decide
  have e2 : IntKind.i64.max = 9223372036854775807 := by decide
  omega
theorem fits_ok {n : Int} (h : fitsI n) : i64ok n := by
  unfold i64ok
  unfold fitsI at h
  simp only [Lit.wf, Bool.and_eq_true, decide_eq_true_eq]
  have e1 : IntKind.i64.min = -9223372036854775808 := by decide
  have e2 : IntKind.i64.max = 9223372036854775807 := by decide
  omega

def CTo (w : World) (x : Nd) : Ending → World → Prop := fun e w' => ∃ (k n : Int) (a : Option Addr) (l c : Nat) (a2 : Option Addr) (l2 c2 : Nat), e = .returned (.agg #[.int .i64 k, .int .i64 n, .slice a l c, .slice a2 l2 c2]) ∧ NdIn w' x [.int .i64 k, .int .i64 n, .slice a l c, .slice a2 l2 c2] ∧ Below w.heap.size w w'
def STo (w : World) (x : Nd) : Ending → World → Prop := fun e w' => ∃ (k : Int) (s : ByteArray) (a : Option Addr) (l c : Nat) (v3 v4 v5 : Value), e = .returned (.agg #[.int .i64 k, .string s, .slice a l c, .slice none 0 0, .slice none 0 0, .slice none 0 0]) ∧ v3 = .slice none 0 0 ∧ v4 = .slice none 0 0 ∧ v5 = .slice none 0 0 ∧ NdIn w' x [.int .i64 k, .string s, .slice a l c, v3, v4, v5] ∧ Below w.heap.size w w'
theorem one_le {x : Nd} : [x].length ≤ maxLen := by show 1 ≤ maxLen; unfold maxLen; omega
theorem two_le {x y : Nd} : [x, y].length ≤ maxLen := by show 2 ≤ maxLen; unfold maxLen; omega
theorem agg4 (a b c d : Value) : [a, b, c, d].toArray = #[a, b, c, d] := rfl

end Go.Proofs.Ytbhbmoppipohjaa
