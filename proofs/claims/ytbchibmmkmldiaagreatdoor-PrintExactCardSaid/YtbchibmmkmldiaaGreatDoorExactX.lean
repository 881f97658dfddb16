/-
  The project's declarations and programs (print's decl, prog) and Print: proved is what they write, and what Print answers.
-/
import Derived.Test.YtbchibmmkmldiaaGreatDoorThru
import Derived.Test.YtbchibmmkmldiaaGreatDoorPrintG
import Derived.Test.YtbchibmmkmldiaaGreatDoorPrintK
import Derived.Test.YtbchibmmkmldiaaGreatDoorPrintC
import Derived.Test.YtbchibmmkmldiaaGreatDoorOwnX
import Derived.Test.YtbchibmmkmldiaaGreatDoorFormD
import Derived.Test.YtbchibmmkmldiaaGreatDoorPlainD
import Derived.Test.YtbchibmmkmldiaaGreatDoorPrintP
import Derived.Test.YtbchibmmkmldiaaGreatDoorPrintS
import Derived.Deep.DeepCutAuto
import Derived.Deep.CutBlock
import Derived.Test.YtbchibmmkmldiaaGreatDoorTwalkS
import Derived.Test.YtbchibmmkmldiaaGreatDoorPrintA
import Derived.Test.YtbchibmmkmldiaaGreatDoorFormS
import Derived.Test.YtbchibmmkmldiaaGreatDoorWalked
import Derived.Test.YtbchibmmkmldiaaGreatDoorFitN
/-
  The statements' own program (gnomonlaw3's one): proved is which tree it is, in memory.
-/
namespace Go.Proofs.YtbchibmmkmldiaaGreatDoor
open Go Go.RowKit

/-- Items whose cells follow one another are a row. -/
theorem RowIn.cells {w : World} {ty : Ty} : ∀ (l : List Nd) (vss : List (List Value)) (b o : Nat), l.length = vss.length → (∀ (i : Nat) (h : i < l.length) (h' : i < vss.length), (l[i]).ty = ty ∧ NdIn w l[i] vss[i]) → (∀ j u, vss.flatten[j]? = some u → w.cell? ⟨b, o + j, none⟩ = some u) → RowIn w ty l b o
  | [], _, _, _, _, _, _ => by unfold RowIn; trivial
  | x :: r, [], _, _, hl, _, _ => by simp at hl
  | x :: r, vs :: vr, b, o, hl, hn, hc => by
    obtain ⟨h1, h2⟩ := hn 0 (by simp) (by simp)
    simp only [List.getElem_cons_zero] at h1 h2
    have hlen := h2.len
    rw [h1] at hlen
    unfold RowIn
    refine ⟨⟨h1, vs, fun j u hj => hc j u ?_, h2⟩, RowIn.cells r vr b (o + ty.size) (by simpa using hl) (fun i h h' => ?_) (fun j u hj => ?_)⟩
    · rw [List.flatten_cons, List.getElem?_append_left (List.getElem?_eq_some_iff.1 hj).1]
      exact hj
    · have := hn (i + 1) (by simpa using h) (by simpa using h')
      simpa using this
    · have := hc (ty.size + j) u (by
        rw [List.flatten_cons, List.getElem?_append_right (by omega), hlen, Nat.add_sub_cancel_left]
        exact hj)
      rwa [← Nat.add_assoc] at this
theorem slIn_blk {w : World} {ty : Ty} {l : List Nd} {vss : List (List Value)} {b : Nat} {t : TypeId} (hB : Blk w b vss.flatten.toArray t) (hl : l.length = vss.length) (hm : l.length ≤ maxLen) (hn : ∀ (i : Nat) (h : i < l.length) (h' : i < vss.length), (l[i]).ty = ty ∧ NdIn w l[i] vss[i]) : SlIn w ty l (.slice (some ⟨b, 0, none⟩) l.length l.length) :=
  ⟨_, _, rfl, Nat.le_refl _, hm, .inr ⟨b, 0, rfl, RowIn.cells l vss b 0 hl hn (fun j u hj => by
    rw [Nat.zero_add]
    have := hB.cell j
    simpa [hj] using this)⟩⟩
def xS : ByteArray := ⟨#[120]⟩
def oneD : Nd := .mk .D 0 0 xS [] [] [] []
def oneV : Nd := .mk .E 2 0 xS [] [] [] []
def oneN : Nd := .mk .E 1 1 ⟨#[]⟩ [] [] [] []
def oneE : Nd := .mk .E 6 0 ⟨#[]⟩ [oneV, oneN] [] [] []
def oneS : Nd := .mk .S 1 0 xS [oneE] [] [] []

theorem Blk.at {w : World} {cs : Array Value} {t : TypeId} {b : Nat} (hb : b = w.heap.size) : Blk (w.alloc (.cells cs t)) b cs t := hb ▸ Blk.new w cs t
def one0 (h : Nat) : Obj := .cells #[.slice (some ⟨h + 3, 0, none⟩) 1 1, .slice (some ⟨h + 5, 0, none⟩) 1 1] 25
def one1 : Obj := .cells #[.int .i64 2, .int .i64 0, .string xS, .slice none 0 0, .int .i64 1, .int .i64 1, .string ⟨#[]⟩, .slice none 0 0] 36
def one2 (h : Nat) : Obj := .cells #[.int .i64 6, .int .i64 0, .string ⟨#[]⟩, .slice (some ⟨h + 1, 0, none⟩) 2 2] 36
def one3 : Obj := .cells #[.string xS, .int .i64 0] 54
def one5 (h : Nat) : Obj := .cells #[.int .i64 1, .string xS, .slice (some ⟨h + 4, 0, none⟩) 1 1, .slice none 0 0, .slice none 0 0, .slice none 0 0] 78
def oneW (w : World) : World := (((((w.alloc (one0 w.heap.size)).alloc one1).alloc (one2 w.heap.size)).alloc one3).alloc (one2 w.heap.size)).alloc (one5 w.heap.size)
theorem nodes1 {w : World} {x : Nd} {vs : List Value} {ty : Ty} (h1 : x.ty = ty) (h2 : NdIn w x vs) : ∀ (i : Nat) (_ : i < [x].length) (_ : i < [vs].length), ([x][i]).ty = ty ∧ NdIn w [x][i] [vs][i]
  | 0, _, _ => ⟨h1, h2⟩
theorem nodes2 {w : World} {x y : Nd} {us vs : List Value} {ty : Ty} (h1 : x.ty = ty) (h2 : NdIn w x us) (h3 : y.ty = ty) (h4 : NdIn w y vs) : ∀ (i : Nat) (_ : i < [x, y].length) (_ : i < [us, vs].length), ([x, y][i]).ty = ty ∧ NdIn w [x, y][i] [us, vs][i]
  | 0, _, _ => ⟨h1, h2⟩
  | 1, _, _ => ⟨h3, h4⟩
theorem ok_of {n : Int} (h : (Lit.int .i64 n).wf = true) : i64ok n := h
theorem oneW_in (w : World) : SlIn (oneW w) .D [oneD] (.slice (some ⟨w.heap.size + 3, 0, none⟩) 1 1) ∧ SlIn (oneW w) .S [oneS] (.slice (some ⟨w.heap.size + 5, 0, none⟩) 1 1) ∧ Below w.heap.size w (oneW w) ∧ Blk (oneW w) w.heap.size #[.slice (some ⟨w.heap.size + 3, 0, none⟩) 1 1, .slice (some ⟨w.heap.size + 5, 0, none⟩) 1 1] 25 := by
  have hb : Below w.heap.size w (oneW w) := ((((((Below.refl _ w).alloc (by simp) _).alloc (by simp <;> omega) _).alloc (by simp <;> omega) _).alloc (by simp <;> omega) _).alloc (by simp <;> omega) _).alloc (by simp <;> omega) _
  have b0 : Blk (oneW w) w.heap.size #[.slice (some ⟨w.heap.size + 3, 0, none⟩) 1 1, .slice (some ⟨w.heap.size + 5, 0, none⟩) 1 1] 25 := (((((Blk.at (by simp)).alloc _).alloc _).alloc _).alloc _).alloc _
  have b1 : Blk (oneW w) (w.heap.size + 1) [[.int .i64 2, .int .i64 0, .string xS, .slice none 0 0], [.int .i64 1, .int .i64 1, .string ⟨#[]⟩, .slice none 0 0]].flatten.toArray 36 := ((((Blk.at (by simp)).alloc _).alloc _).alloc _).alloc _
  have b3 : Blk (oneW w) (w.heap.size + 3) [[.string xS, .int .i64 0]].flatten.toArray 54 := ((Blk.at (by simp)).alloc _).alloc _
  have b4 : Blk (oneW w) (w.heap.size + 4) [[.int .i64 6, .int .i64 0, .string ⟨#[]⟩, .slice (some ⟨w.heap.size + 1, 0, none⟩) 2 2]].flatten.toArray 36 := (Blk.at (by simp)).alloc _
  have b5 : Blk (oneW w) (w.heap.size + 5) [[.int .i64 1, .string xS, .slice (some ⟨w.heap.size + 4, 0, none⟩) 1 1, .slice none 0 0, .slice none 0 0, .slice none 0 0]].flatten.toArray 78 := Blk.at (by simp)
  obtain ⟨W, hW⟩ : ∃ W, oneW w = W := ⟨_, rfl⟩
  rw [hW] at b0 b1 b3 b4 b5 hb ⊢
  have n1 : NdIn W oneV [.int .i64 2, .int .i64 0, .string xS, .slice none 0 0] := by
    unfold oneV NdIn
    exact ⟨⟨rfl, rfl, rfl⟩, by unfold i64ok; decide, ok0, by decide, _, .slice none 0 0, .slice none 0 0, .slice none 0 0, rfl, sl0 W .E, sl0 W .C, sl0 W .S, sl0 W .S⟩
  have n2 : NdIn W oneN [.int .i64 1, .int .i64 1, .string ⟨#[]⟩, .slice none 0 0] := by
    unfold oneN NdIn
    exact ⟨⟨rfl, rfl, rfl⟩, by unfold i64ok; decide, by unfold i64ok; decide, by decide, _, .slice none 0 0, .slice none 0 0, .slice none 0 0, rfl, sl0 W .E, sl0 W .C, sl0 W .S, sl0 W .S⟩
  have l1 : SlIn W .E [oneV, oneN] (.slice (some ⟨w.heap.size + 1, 0, none⟩) 2 2) := slIn_blk b1 rfl (by decide) (nodes2 rfl n1 rfl n2)
  have n4 : NdIn W oneE [.int .i64 6, .int .i64 0, .string ⟨#[]⟩, .slice (some ⟨w.heap.size + 1, 0, none⟩) 2 2] := by
    unfold oneE NdIn
    exact ⟨⟨rfl, rfl, rfl⟩, by unfold i64ok; decide, ok0, by decide, _, .slice none 0 0, .slice none 0 0, .slice none 0 0, rfl, l1, sl0 W .C, sl0 W .S, sl0 W .S⟩
  have l4 : SlIn W .E [oneE] (.slice (some ⟨w.heap.size + 4, 0, none⟩) 1 1) := slIn_blk b4 rfl (by decide) (nodes1 rfl n4)
  have n5 : NdIn W oneS [.int .i64 1, .string xS, .slice (some ⟨w.heap.size + 4, 0, none⟩) 1 1, .slice none 0 0, .slice none 0 0, .slice none 0 0] := by
    unfold oneS NdIn
    exact ⟨rfl, by unfold i64ok; decide, ok0, by decide, _, _, _, _, rfl, l4, sl0 W .C, sl0 W .S, sl0 W .S⟩
  have n3 : NdIn W oneD [.string xS, .int .i64 0] := by
    unfold oneD NdIn
    exact ⟨⟨rfl, rfl, rfl, rfl, rfl⟩, ok0, ok0, by decide, .slice none 0 0, .slice none 0 0, .slice none 0 0, .slice none 0 0, rfl, sl0 W .E, sl0 W .C, sl0 W .S, sl0 W .S⟩
  exact ⟨slIn_blk b3 rfl (by decide) (nodes1 rfl n3), slIn_blk b5 rfl (by decide) (nodes1 rfl n5), hb, b0⟩

end Go.Proofs.YtbchibmmkmldiaaGreatDoor

/-
  The entry points of the text of an expression and of a condition (the project's print.Expr, print.Cond; the document's Expr, Cond): proved is that the project's and the document's answer one text and one fault.
-/
namespace Go.Proofs.YtbchibmmkmldiaaGreatDoor
open Go Go.RowKit

/-- What is told of a node: its text, where it has no fault. -/
def ansS (x : Nd) : ByteArray := if prjChk x = 0 then bts (txtN x) else ⟨#[]⟩
theorem ans_ok {x : Nd} (h : prjChk x = 0) : ansS x = bts (txtN x) := if_pos h
theorem ans_bad {x : Nd} (h : ¬ prjChk x = 0) : ansS x = ⟨#[]⟩ := if_neg h
theorem lies_w : Lies 43 (2 + ([] : List Value).length) := by unfold Lies; kernel_rfl
theorem w_ne : 43 ≠ 5 := by decide
theorem prj_same {w : World} {x : Nd} {vs : List Value} (h : NdIn w x vs) (hty : x.ty ≠ .D) : docChk x = prjChk x := checks_same x (noD_N w x vs h hty)
theorem tab_below {w w' : World} {k : IntKind} {n : String} {zs : List Int} (h : Lib.TabIs Tryz.prog w n k zs) (hb : Below w.heap.size w w') : Lib.TabIs Tryz.prog w' n k zs := tab_next h hb

set_option maxRecDepth 100000 in
set_option maxHeartbeats 4000000 in
theorem pexpr_any (x : Nd) (v0 v1 v2 v3 : Value) (w : World) (hty : x.ty = .E) (hin : NdIn w x [v0, v1, v2, v3]) (htab : Lib.TabIs Tryz.prog w "internal/strconv.uint64pow10" .u64 Lib.pow10Tab) :
    Calls Tryz.prog 7 #[.agg #[v0, v1, v2, v3]] w (fun e w' => e = .returned (.tuple #[.string (ansS x), .int .i64 (prjChk x)]) ∧ Below w.heap.size w w') := by
  obtain ⟨W1, hW1⟩ : ∃ W1, w.alloc (.cells #[v0, v1, v2, v3] 36) = W1 := ⟨_, rfl⟩
  have hb : Below w.heap.size w W1 := by rw [← hW1]; exact (Below.refl _ w).alloc (Nat.le_refl _) _
  have hE1 : Blk W1 w.heap.size #[v0, v1, v2, v3] 36 := by rw [← hW1]; exact Blk.new w _ _
  have hC := fun w1 (hb : Below w.heap.size w w1) => treeExpr_any x v0 v1 v2 v3 w1 hty (NdIn.keep (keeps_below hb) x _ hin)
  have hg := fun h => chk_good (x := x) (.inl hty) hin h
  have HG := Lib.hid hg; clear hg
  have HIN := Lib.hid hin
  have HS := Lib.hid (@ans_ok x)
  have HN := Lib.hid (@ans_bad x)
  have HTAB := Lib.hid htab; clear htab
  obtain ⟨P, hP⟩ : ∃ P, prjChk x = P := ⟨_, rfl⟩
  obtain ⟨A, hA⟩ : ∃ A, ansS x = A := ⟨_, rfl⟩
  rw [hP] at HG HS HN
  simp only [hP] at hC
  rw [hA] at HS HN
  rw [hP, hA]
  have HC := Lib.hid hC; clear hC
  have HB := Lib.hid hb; clear hb
  have HW1 := Lib.hid hW1; clear hW1
  have HTY := Lib.hid hty; clear hty
  clear hP hA hin
  have e0 : W1.cell? ⟨w.heap.size, 0, none⟩ = some v0 := hE1.cell 0
  have e1 : W1.cell? ⟨w.heap.size, 1, none⟩ = some v1 := hE1.cell 1
  have e2 : W1.cell? ⟨w.heap.size, 2, none⟩ = some v2 := hE1.cell 2
  have e3 : W1.cell? ⟨w.heap.size, 3, none⟩ = some v3 := hE1.cell 3
  have HE1 := Lib.hid hE1; clear hE1
  go_enter Tryz.func7, Tryz.ntmps7
  go_upto_region 1 with fail
  rw [HW1.out]
  clear HW1
  by_cases hz : P = 0
  · have hz1 : (P != 0) = false := by simpa using hz
    go_upto_region 5 with (first | (go_at_call 16; (with_reducible refine (HC.out _ (by first | exact HB.out | exact HB.out.drew)).mono ?_); rintro e w2 ⟨rfl, hb2⟩) | fail)
    have hw2 : Below w.heap.size w w2 := below_next (by first | exact HB.out | exact HB.out.drew) hb2
    have hE2 : Blk w2 w.heap.size #[v0, v1, v2, v3] 36 := by first | exact HE1.out.below hb2 HE1.out.lt | exact (HE1.out.below (Below.refl _ _).drew HE1.out.lt).below hb2 (HE1.out.below (Below.refl _ _).drew HE1.out.lt).lt
    obtain ⟨W3, hW3⟩ : ∃ W3, w2.alloc (.cells #[.pointer none, .slice none 0 0] 43) = W3 := ⟨_, rfl⟩
    obtain ⟨B, hB⟩ : ∃ B, w2.heap.size = B := ⟨_, rfl⟩
    have hw3 : Below w.heap.size w W3 := by rw [← hW3]; exact hw2.alloc hw2.size _
    have hE3 : Blk W3 w.heap.size #[v0, v1, v2, v3] 36 := by rw [← hW3]; exact hE2.alloc _
    have hD : Bd 43 [] w.heap.size B [] W3 := by
      rw [← hW3, ← hB]
      exact .inl ⟨hw2.size, rfl, Blk.new w2 _ _⟩
    obtain ⟨hg1, hg2⟩ := HG.out hz
    have hF := expr_any 43 [] lies_w w_ne w w.heap.size B (Nat.le_refl _) HTAB.out _ x (Nat.le_refl _) HTY.out hg1 [v0, v1, v2, v3] [] W3 HIN.out hw3 hD (by simp only [List.length_nil]; omega)
    have HF := Lib.hid hF; clear hF
    rw [hW3, hB]
    have f0 : W3.cell? ⟨w.heap.size, 0, none⟩ = some v0 := hE3.cell 0
    have f1 : W3.cell? ⟨w.heap.size, 1, none⟩ = some v1 := hE3.cell 1
    have f2 : W3.cell? ⟨w.heap.size, 2, none⟩ = some v2 := hE3.cell 2
    have f3 : W3.cell? ⟨w.heap.size, 3, none⟩ = some v3 := hE3.cell 3
    have HW3 := Lib.hid hw3; clear hw3
    clear hE3 hD hE2 hw2 hb2 hW3 e0 e1 e2 e3 HC HE1 HG hg1 hg2 hB hz1
    clear HN
    have HZ := Lib.hid hz; clear hz
    go_wp2_with (first | (go_at_call 17; (with_reducible refine HF.out.mono ?_); rintro e w4 ⟨rfl, hd4, hk4⟩; have HD := Lib.hid hd4; clear hd4; have HK := Lib.hid hk4; clear hk4) | (go_at_call 11; (with_reducible refine (str_any 43 [] w.heap.size B _ _ (by first | exact HD.out | exact HD.out.drew)).mono ?_); rintro e w5 ⟨rfl, hb5⟩) | fail)
    go_ret2
    exact ⟨by rw [HS.out HZ.out, HZ.out]; rfl, (HW3.out.trans HK.out.1).trans hb5⟩
  · have hz1 : (P != 0) = true := by simpa using hz
    go_wp2_with (first | (go_at_call 16; (with_reducible refine (HC.out _ (by first | exact HB.out | exact HB.out.drew)).mono ?_); rintro e w2 ⟨rfl, hb2⟩) | fail)
    go_ret2
    exact ⟨by rw [HN.out hz]; rfl, below_next (by first | exact HB.out | exact HB.out.drew) hb2⟩

end Go.Proofs.YtbchibmmkmldiaaGreatDoor

/-
  PrintParts' own walk, and the statements' own trial (gnomonlaw5's known): proved is that both answer true, and that they turn nothing that lay.
-/
namespace Go.Proofs.YtbchibmmkmldiaaGreatDoor
open Go Go.RowKit

def kn1 (n : Int) : Nd := .mk .E 1 n ⟨#[]⟩ [] [] [] []
def kn2 : Nd := .mk .E 7 0 ⟨#[]⟩ [kn1 2, kn1 3] [] [] []
def kn3 : Nd := .mk .E 7 0 ⟨#[]⟩ [kn1 1, kn2] [] [] []
theorem kn_chk : prjChk kn3 = 0 := by decide +kernel
theorem kn_txt : bts (txtN kn3) = ⟨#[49, 32, 45, 32, 40, 50, 32, 45, 32, 51, 41]⟩ := by decide +kernel
theorem kn_ans : ansS kn3 = ⟨#[49, 32, 45, 32, 40, 50, 32, 45, 32, 51, 41]⟩ := (ans_ok kn_chk).trans kn_txt
theorem kn1_in (w : World) (n : Int) (h : i64ok n) : NdIn w (kn1 n) [.int .i64 1, .int .i64 n, .string ⟨#[]⟩, .slice none 0 0] := by
  unfold kn1 NdIn
  exact ⟨⟨rfl, rfl, rfl⟩, by unfold i64ok; decide, h, by decide, _, .slice none 0 0, .slice none 0 0, .slice none 0 0, rfl, sl0 w .E, sl0 w .C, sl0 w .S, sl0 w .S⟩

theorem kn3_at (w : World) (htab : Lib.TabIs Tryz.prog w "internal/strconv.uint64pow10" .u64 Lib.pow10Tab) :
    Calls Tryz.prog 7 #[.agg #[.int .i64 7, .int .i64 0, .string ⟨#[]⟩, .slice (some ⟨w.heap.size + 1, 0, none⟩) 2 2]]
      ((w.alloc (.cells #[.int .i64 1, .int .i64 2, .string ⟨#[]⟩, .slice none 0 0, .int .i64 1, .int .i64 3, .string ⟨#[]⟩, .slice none 0 0] 36)).alloc (.cells #[.int .i64 1, .int .i64 1, .string ⟨#[]⟩, .slice none 0 0, .int .i64 7, .int .i64 0, .string ⟨#[]⟩, .slice (some ⟨w.heap.size, 0, none⟩) 2 2] 36))
      (fun e w' => e = .returned (.tuple #[.string ⟨#[49, 32, 45, 32, 40, 50, 32, 45, 32, 51, 41]⟩, .int .i64 0]) ∧ Below w.heap.size w w') := by
  obtain ⟨W, hW⟩ : ∃ W, (w.alloc (.cells #[.int .i64 1, .int .i64 2, .string ⟨#[]⟩, .slice none 0 0, .int .i64 1, .int .i64 3, .string ⟨#[]⟩, .slice none 0 0] 36)).alloc (.cells #[.int .i64 1, .int .i64 1, .string ⟨#[]⟩, .slice none 0 0, .int .i64 7, .int .i64 0, .string ⟨#[]⟩, .slice (some ⟨w.heap.size, 0, none⟩) 2 2] 36) = W := ⟨_, rfl⟩
  have hb : Below w.heap.size w W := by rw [← hW]; exact ((Below.refl _ w).alloc (by simp) _).alloc (by simp <;> omega) _
  have b1 : Blk W w.heap.size [[.int .i64 1, .int .i64 2, .string ⟨#[]⟩, .slice none 0 0], [.int .i64 1, .int .i64 3, .string ⟨#[]⟩, .slice none 0 0]].flatten.toArray 36 := by rw [← hW]; exact (Blk.at (by simp)).alloc _
  have b2 : Blk W (w.heap.size + 1) [[.int .i64 1, .int .i64 1, .string ⟨#[]⟩, .slice none 0 0], [.int .i64 7, .int .i64 0, .string ⟨#[]⟩, .slice (some ⟨w.heap.size, 0, none⟩) 2 2]].flatten.toArray 36 := by rw [← hW]; exact Blk.at (by simp)
  rw [hW]
  have n1 := kn1_in W 1 (by unfold i64ok; decide)
  have n2 := kn1_in W 2 (by unfold i64ok; decide)
  have n3 := kn1_in W 3 (by unfold i64ok; decide)
  have l1 : SlIn W .E [kn1 2, kn1 3] (.slice (some ⟨w.heap.size, 0, none⟩) 2 2) := slIn_blk b1 rfl (by decide) (nodes2 rfl n2 rfl n3)
  have n4 : NdIn W kn2 [.int .i64 7, .int .i64 0, .string ⟨#[]⟩, .slice (some ⟨w.heap.size, 0, none⟩) 2 2] := by
    unfold kn2 NdIn
    exact ⟨⟨rfl, rfl, rfl⟩, by unfold i64ok; decide, ok0, by decide, _, .slice none 0 0, .slice none 0 0, .slice none 0 0, rfl, l1, sl0 W .C, sl0 W .S, sl0 W .S⟩
  have l2 : SlIn W .E [kn1 1, kn2] (.slice (some ⟨w.heap.size + 1, 0, none⟩) 2 2) := slIn_blk b2 rfl (by decide) (nodes2 rfl n1 rfl n4)
  have n5 : NdIn W kn3 [.int .i64 7, .int .i64 0, .string ⟨#[]⟩, .slice (some ⟨w.heap.size + 1, 0, none⟩) 2 2] := by
    unfold kn3 NdIn
    exact ⟨⟨rfl, rfl, rfl⟩, by unfold i64ok; decide, ok0, by decide, _, .slice none 0 0, .slice none 0 0, .slice none 0 0, rfl, l2, sl0 W .C, sl0 W .S, sl0 W .S⟩
  have h := pexpr_any kn3 _ _ _ _ W rfl n5 (tab_below htab hb)
  rw [kn_ans, kn_chk] at h
  refine h.mono ?_
  rintro e w' ⟨rfl, hb'⟩
  exact ⟨rfl, below_next hb hb'⟩

set_option maxRecDepth 100000 in
set_option maxHeartbeats 4000000 in
theorem known5_any (w : World) (htab : Lib.TabIs Tryz.prog w "internal/strconv.uint64pow10" .u64 Lib.pow10Tab) :
    Calls Tryz.prog 4 #[] w (fun e w' => e = .returned (.bool true) ∧ Below w.heap.size w w') := by
  have HK := Lib.hid (kn3_at w htab); clear htab
  go_enter Tryz.func4, Tryz.ntmps4
  go_wp2_with fail
  (with_reducible refine HK.out.mono ?_)
  rintro e w1 ⟨rfl, hb1⟩
  go_wp2_with fail
  go_ret
  exact ⟨rfl, hb1⟩

end Go.Proofs.YtbchibmmkmldiaaGreatDoor

/-
  Plain: the text of declarations and statements, what a statement must be to have one, and how long it is at most.
-/
namespace Go.Proofs.YtbchibmmkmldiaaGreatDoor
open Go Go.RowKit

/-- Two blanks, d times. -/
def ind : Nat → List UInt8
  | 0 => []
  | d + 1 => [32, 32] ++ ind d
theorem ind_len : ∀ d, (ind d).length = 2 * d
  | 0 => rfl
  | d + 1 => by rw [ind, List.length_append, ind_len d]; simp; omega
theorem ind_out : ∀ d, ind d ++ [32, 32] = ind (d + 1)
  | 0 => rfl
  | d + 1 => by rw [ind, List.append_assoc, ind_out d]; rfl
/-- A line. -/
def lnT (d : Nat) (s : List UInt8) : List UInt8 := ind d ++ (s ++ [10])
theorem lnT_len (d : Nat) (s : List UInt8) : (lnT d s).length = 2 * d + s.length + 1 := by unfold lnT; simp [ind_len]; omega
def tEq : ByteArray := ⟨#[32, 61, 32]⟩
def tSemi : ByteArray := ⟨#[59]⟩
def tOpen : ByteArray := ⟨#[91]⟩
def tShut : ByteArray := ⟨#[93]⟩
def tIf : ByteArray := ⟨#[105, 102, 32]⟩
def tWhile : ByteArray := ⟨#[119, 104, 105, 108, 101, 32]⟩
def tAssert : ByteArray := ⟨#[97, 115, 115, 101, 114, 116, 32]⟩
def tAssume : ByteArray := ⟨#[97, 115, 115, 117, 109, 101, 32]⟩
def tSkip : ByteArray := ⟨#[115, 107, 105, 112, 59]⟩
def tBegin : ByteArray := ⟨#[32, 123]⟩
def tElse : ByteArray := ⟨#[125, 32, 101, 108, 115, 101, 32, 123]⟩
def tEnd : ByteArray := ⟨#[125]⟩
def tVar : ByteArray := ⟨#[118, 97, 114, 32]⟩
def tArray : ByteArray := ⟨#[97, 114, 114, 97, 121, 32]⟩
def lst (s : ByteArray) : List UInt8 := s.data.toList
theorem lst_len (s : ByteArray) : (lst s).length = s.size := rfl
/-- What is given; what is stored; what is asked. -/
def assT (nm : ByteArray) (x : List UInt8) : List UInt8 := lst nm ++ (lst tEq ++ (x ++ lst tSemi))
def stoT (nm : ByteArray) (x y : List UInt8) : List UInt8 := lst nm ++ (lst tOpen ++ (x ++ (lst tShut ++ (lst tEq ++ (y ++ lst tSemi)))))
def askT (word : ByteArray) (x : List UInt8) (behind : ByteArray) : List UInt8 := lst word ++ (x ++ lst behind)
def fst (l : List Nd) : List UInt8 := (argT (txtL l) 0).2
def snd (l : List Nd) : List UInt8 := (argT (txtL l) 1).2
mutual
/-- A statement's text, in d blocks; a list's; what stands behind the first line of a statement with blocks. -/
def stT : Nd → Nat → List UInt8
  | .mk _ k _ nm xs cs ts es, d =>
    if k = 1 then lnT d (assT nm (fst xs))
    else if k = 2 then lnT d (stoT nm (fst xs) (snd xs))
    else if k = 3 then lnT d (askT tIf (fst cs) tBegin) ++ (stL ts (d + 1) ++ ((match es with | [] => [] | e :: r => lnT d (lst tElse) ++ stL (e :: r) (d + 1)) ++ lnT d (lst tEnd)))
    else if k = 4 then lnT d (askT tWhile (fst cs) tBegin) ++ (stL ts (d + 1) ++ ((match es with | [] => [] | e :: r => lnT d (lst tElse) ++ stL (e :: r) (d + 1)) ++ lnT d (lst tEnd)))
    else if k = 5 then lnT d (askT tAssert (fst cs) tSemi)
    else if k = 6 then lnT d (askT tAssume (fst cs) tSemi)
    else lnT d (lst tSkip)
def stL : List Nd → Nat → List UInt8
  | [], _ => []
  | x :: r, d => stT x d ++ stL r d
end
def brT (ts es : List Nd) (d : Nat) : List UInt8 := stL ts (d + 1) ++ ((match es with | [] => [] | e :: r => lnT d (lst tElse) ++ stL (e :: r) (d + 1)) ++ lnT d (lst tEnd))
theorem st_1 (n : Int) (nm : ByteArray) (xs cs ts es : List Nd) (d : Nat) : stT (.mk .S 1 n nm xs cs ts es) d = lnT d (assT nm (fst xs)) := by unfold stT; rfl
theorem st_2 (n : Int) (nm : ByteArray) (xs cs ts es : List Nd) (d : Nat) : stT (.mk .S 2 n nm xs cs ts es) d = lnT d (stoT nm (fst xs) (snd xs)) := by unfold stT; rfl
theorem st_3 (n : Int) (nm : ByteArray) (xs cs ts es : List Nd) (d : Nat) : stT (.mk .S 3 n nm xs cs ts es) d = lnT d (askT tIf (fst cs) tBegin) ++ brT ts es d := by unfold stT brT; rfl
theorem st_4 (n : Int) (nm : ByteArray) (xs cs ts es : List Nd) (d : Nat) : stT (.mk .S 4 n nm xs cs ts es) d = lnT d (askT tWhile (fst cs) tBegin) ++ brT ts es d := by unfold stT brT; rfl
theorem st_5 (n : Int) (nm : ByteArray) (xs cs ts es : List Nd) (d : Nat) : stT (.mk .S 5 n nm xs cs ts es) d = lnT d (askT tAssert (fst cs) tSemi) := by unfold stT; rfl
theorem st_6 (n : Int) (nm : ByteArray) (xs cs ts es : List Nd) (d : Nat) : stT (.mk .S 6 n nm xs cs ts es) d = lnT d (askT tAssume (fst cs) tSemi) := by unfold stT; rfl
theorem st_7 (n : Int) (nm : ByteArray) (xs cs ts es : List Nd) (d : Nat) : stT (.mk .S 7 n nm xs cs ts es) d = lnT d (lst tSkip) := by unfold stT; rfl
theorem stL_app : ∀ (l m : List Nd) (d : Nat), stL (l ++ m) d = stL l d ++ stL m d
  | [], m, d => by simp [stL]
  | x :: r, m, d => by rw [List.cons_append, stL, stL, stL_app r m d, List.append_assoc]
theorem stL_take {l : List Nd} {i : Nat} (hi : i < l.length) (d : Nat) : stL (l.take (i + 1)) d = stL (l.take i) d ++ stT l[i] d := by
  rw [← List.take_append_getElem hi, stL_app]
  simp [stL]
mutual
/-- How many statements. -/
def cntS : Nd → Nat | .mk _ _ _ _ _ _ ts es => 1 + cntL ts + cntL es
def cntL : List Nd → Nat
  | [] => 0
  | x :: r => cntS x + cntL r
end
theorem cntL_at : ∀ (l : List Nd) (i : Nat) (hi : i < l.length), cntS l[i] ≤ cntL l
  | x :: r, 0, _ => by unfold cntL; simp
  | x :: r, i + 1, hi => by
    unfold cntL
    have := cntL_at r i (by simpa using hi)
    simp only [List.getElem_cons_succ]
    omega
def shS (k : Int) (xl cl : Nat) (es : List Nd) : Prop := 1 ≤ k ∧ k ≤ 7 ∧ (k = 1 → xl = 1) ∧ (k = 2 → xl = 2) ∧ (3 ≤ k → k ≤ 6 → cl = 1) ∧ (k = 4 → es = [])
mutual
/-- A statement that has a text. -/
def goodS : Nd → Prop
  | .mk _ k _ nm xs cs ts es => shS k xs.length cs.length es ∧ nm.size ≤ 128 ∧ goodTL .E xs ∧ goodTL .C cs ∧ cstL xs ≤ 786432 ∧ cstL cs ≤ 786432 ∧ goodSL ts ∧ goodSL es
def goodSL : List Nd → Prop
  | [] => True
  | x :: r => x.ty = .S ∧ goodS x ∧ goodSL r
end
theorem goodSL_at : ∀ {l : List Nd} (_ : goodSL l) (i : Nat) (hi : i < l.length), (l[i]).ty = .S ∧ goodS l[i]
  | x :: r, h, 0, _ => by unfold goodSL at h; exact ⟨h.1, h.2.1⟩
  | x :: r, h, i + 1, hi => by
    unfold goodSL at h
    have := goodSL_at h.2.2 i (by simpa using hi)
    simpa using this
theorem fst_eq {l : List Nd} (h : 0 < l.length) : fst l = txtN l[0] := by unfold fst; rw [argT_at l 0 h]
theorem snd_eq {l : List Nd} (h : 1 < l.length) : snd l = txtN l[1] := by unfold snd; rw [argT_at l 1 h]
theorem txt_at_le {t : Ty} (ht : t = .E ∨ t = .C) {l : List Nd} (hg : goodTL t l) (hc : cstL l ≤ 786432) (i : Nat) (hi : i < l.length) : (txtN l[i]).length ≤ 786432 := by
  obtain ⟨h1, h2⟩ := goodTL_at hg i hi
  have h3 := txt_le _ l[i] (Nat.le_refl _) h2 (by rw [h1]; exact ht)
  have h4 := cstL_at l i hi
  omega
theorem fst_le {t : Ty} (ht : t = .E ∨ t = .C) {l : List Nd} (hg : goodTL t l) (hc : cstL l ≤ 786432) : (fst l).length ≤ 786432 := by
  by_cases h : 0 < l.length
  · rw [fst_eq h]; exact txt_at_le ht hg hc 0 h
  · obtain rfl : l = [] := List.eq_nil_of_length_eq_zero (by omega)
    unfold fst txtL argT; simp
theorem snd_le {t : Ty} (ht : t = .E ∨ t = .C) {l : List Nd} (hg : goodTL t l) (hc : cstL l ≤ 786432) : (snd l).length ≤ 786432 := by
  by_cases h : 1 < l.length
  · rw [snd_eq h]; exact txt_at_le ht hg hc 1 h
  · unfold snd argT
    have : (txtL l).getD 1 (0, []) = (0, []) := by
      match l, h with
      | [], _ => simp [txtL]
      | [a], _ => simp [txtL]
      | _ :: _ :: _, h => exact absurd (by simp) h
    rw [this]; simp
/-- A line of a statement is not too long. -/
theorem line_le (d : Nat) (s : List UInt8) (hd : d ≤ 8192) (hs : s.length ≤ 1600000) : (lnT d s).length ≤ 1700000 := by rw [lnT_len]; omega
theorem ass_le (nm : ByteArray) (x : List UInt8) (h1 : nm.size ≤ 128) (h2 : x.length ≤ 786432) : (assT nm x).length ≤ 1600000 := by
  have e : (assT nm x).length = nm.size + (3 + (x.length + 1)) := by unfold assT; rw [List.length_append, List.length_append, List.length_append]; rfl
  rw [e]; omega
theorem sto_le (nm : ByteArray) (x y : List UInt8) (h1 : nm.size ≤ 128) (h2 : x.length ≤ 786432) (h3 : y.length ≤ 786432) : (stoT nm x y).length ≤ 1600000 := by
  have e : (stoT nm x y).length = nm.size + (1 + (x.length + (1 + (3 + (y.length + 1))))) := by unfold stoT; rw [List.length_append, List.length_append, List.length_append, List.length_append, List.length_append, List.length_append]; rfl
  rw [e]; omega
theorem ask_le (word behind : ByteArray) (x : List UInt8) (h1 : word.size ≤ 10) (h2 : behind.size ≤ 10) (h3 : x.length ≤ 786432) : (askT word x behind).length ≤ 1600000 := by
  have e : (askT word x behind).length = word.size + (x.length + behind.size) := by unfold askT; rw [List.length_append, List.length_append]; rfl
  rw [e]; omega
theorem br_le (ts es : List Nd) (d A B : Nat) (hd : d ≤ 8192) (h1 : (stL ts (d + 1)).length ≤ A) (h2 : (stL es (d + 1)).length ≤ B) : (brT ts es d).length ≤ A + B + 32800 := by
  have a4 : (lnT d (lst tElse)).length ≤ 16400 := by rw [lnT_len, lst_len, show tElse.size = 8 from rfl]; omega
  have a5 : (lnT d (lst tEnd)).length ≤ 16400 := by rw [lnT_len, lst_len, show tEnd.size = 1 from rfl]; omega
  generalize hx : (lnT d (lst tElse)).length = x at a4
  generalize hy : (lnT d (lst tEnd)).length = y at a5
  unfold brT
  rw [List.length_append, List.length_append, hy]
  cases es with
  | nil => rw [List.length_nil]; omega
  | cons e r => rw [List.length_append, hx]; omega
theorem own_le {a c : Nat} (h : a ≤ 1700000) : a ≤ 2097152 * (1 + c) := by omega
theorem sum_le {a b c : Nat} (h1 : a ≤ 1700000) (h2 : b ≤ 2097152 * c + 32800) : a + b ≤ 2097152 * (1 + c) := by omega
theorem two_le {x y : Nat} {A : Nat} (h : A ≤ 2097152 * x + 2097152 * y + 32800) : A ≤ 2097152 * (x + y) + 32800 := by omega
set_option maxRecDepth 100000 in
mutual
theorem st_le : ∀ (x : Nd) (d : Nat), goodS x → d + cntS x ≤ 8192 → (stT x d).length ≤ 2097152 * cntS x
  | .mk ty k n nm xs cs ts es, d, hg, hd => by
    unfold goodS at hg
    obtain ⟨-, hn, hx, hc, hx2, hc2, ht, he⟩ := hg
    have f1 := fst_le (.inl rfl) hx hx2
    have f2 := snd_le (.inl rfl) hx hx2
    have f3 := fst_le (.inr rfl) hc hc2
    unfold cntS at hd ⊢
    rw [Nat.add_assoc]
    have hd1 : d ≤ 8192 := by omega
    have b1 := two_le (br_le ts es d _ _ hd1 (stL_le ts (d + 1) ht (by omega)) (stL_le es (d + 1) he (by omega)))
    clear hd
    unfold stT
    split
    · exact own_le (line_le _ _ hd1 (ass_le _ _ hn f1))
    split
    · exact own_le (line_le _ _ hd1 (sto_le _ _ _ hn f1 f2))
    split
    · rw [List.length_append]
      exact sum_le (line_le _ _ hd1 (ask_le _ _ _ (by decide) (by decide) f3)) b1
    split
    · rw [List.length_append]
      exact sum_le (line_le _ _ hd1 (ask_le _ _ _ (by decide) (by decide) f3)) b1
    split
    · exact own_le (line_le _ _ hd1 (ask_le _ _ _ (by decide) (by decide) f3))
    split
    · exact own_le (line_le _ _ hd1 (ask_le _ _ _ (by decide) (by decide) f3))
    · exact own_le (line_le _ _ hd1 (by rw [lst_len]; decide))
theorem stL_le : ∀ (l : List Nd) (d : Nat), goodSL l → d + cntL l ≤ 8192 → (stL l d).length ≤ 2097152 * cntL l
  | [], d, _, _ => by unfold stL; simp
  | x :: r, d, hg, hd => by
    unfold goodSL at hg
    unfold cntL at hd ⊢
    have h1 := st_le x d hg.2.1 (by omega)
    have h2 := stL_le r d hg.2.2 (by omega)
    unfold stL
    rw [List.length_append]
    omega
end
theorem cntL_take : ∀ (l : List Nd) (i : Nat), cntL (l.take i) ≤ cntL l
  | [], i => by simp
  | x :: r, 0 => by simp [cntL]
  | x :: r, i + 1 => by
    have := cntL_take r i
    simp only [List.take_succ_cons]
    unfold cntL
    omega
theorem goodSL_take : ∀ (l : List Nd) (i : Nat), goodSL l → goodSL (l.take i)
  | [], i, h => by simpa using h
  | x :: r, 0, _ => by simp [goodSL]
  | x :: r, i + 1, h => by
    unfold goodSL at h
    simp only [List.take_succ_cons]
    unfold goodSL
    exact ⟨h.1, h.2.1, goodSL_take r i h.2.2⟩
/-- A declaration's text; a list's. -/
def dcT : Nd → List UInt8
  | .mk _ _ n nm _ _ _ _ => if n = 0 then lnT 0 (lst tVar ++ (lst nm ++ lst tSemi)) else lnT 0 (lst tArray ++ (lst nm ++ (lst tOpen ++ (Lib.itoa n ++ [93, 59]))))
def dcL : List Nd → List UInt8
  | [] => []
  | x :: r => dcT x ++ dcL r
theorem dcL_app : ∀ (l m : List Nd), dcL (l ++ m) = dcL l ++ dcL m
  | [], m => by simp [dcL]
  | x :: r, m => by rw [List.cons_append, dcL, dcL, dcL_app r m, List.append_assoc]
theorem dcL_take {l : List Nd} {i : Nat} (hi : i < l.length) : dcL (l.take (i + 1)) = dcL (l.take i) ++ dcT l[i] := by
  rw [← List.take_append_getElem hi, dcL_app]
  simp [dcL]
def goodD : Nd → Prop | .mk ty _ n nm _ _ _ _ => ty = .D ∧ 0 ≤ n ∧ n ≤ 2147483647 ∧ nm.size ≤ 128
theorem dc_le (x : Nd) (h : goodD x) : (dcT x).length ≤ 256 := by
  obtain ⟨ty, k, n, nm, xs, cs, ts, es⟩ := x
  unfold goodD at h
  obtain ⟨-, h0, h1, h2⟩ := h
  have h3 := itoa_len (n := n) (by unfold i64ok; simp only [Lit.wf, Bool.and_eq_true, decide_eq_true_eq]; rw [show IntKind.i64.min = -9223372036854775808 from rfl, show IntKind.i64.max = 9223372036854775807 from rfl]; omega)
  unfold dcT
  dsimp only
  split
  · rw [lnT_len]; simp only [List.length_append, lst_len]; rw [show tVar.size = 4 from rfl, show tSemi.size = 1 from rfl]; omega
  · rw [lnT_len]; simp only [List.length_append, lst_len, List.length_cons, List.length_nil]; rw [show tArray.size = 6 from rfl, show tOpen.size = 1 from rfl]; omega
theorem dcL_le : ∀ (l : List Nd), (∀ x ∈ l, goodD x) → (dcL l).length ≤ 256 * l.length
  | [], _ => by simp [dcL]
  | x :: r, h => by
    have h1 := dc_le x (h x (List.mem_cons_self ..))
    have h2 := dcL_le r (fun y hy => h y (List.mem_cons_of_mem _ hy))
    unfold dcL
    rw [List.length_append, List.length_cons]
    omega
/-- A program's text. -/
def prT (ds ss : List Nd) : List UInt8 := dcL ds ++ stL ss 0
end Go.Proofs.YtbchibmmkmldiaaGreatDoor

/-
  Plain: the document's text as far as it is put together (it stops behind the line that makes it too long), against the whole text.
-/
namespace Go.Proofs.YtbchibmmkmldiaaGreatDoor
open Go Go.RowKit

/-- A line is put behind, where the text isn't too long. -/
def cutT (S L : List UInt8) : List UInt8 := if 65536 < S.length then S else S ++ L
theorem cutT_le {S L : List UInt8} (h : S.length ≤ 4194304) (hL : L.length ≤ 2097152) : (cutT S L).length ≤ 4194304 := by
  unfold cutT
  split
  · exact h
  · rw [List.length_append]; omega
/-- What is put together is the whole text, or both are too long. -/
def Rel (F S : List UInt8) : Prop := F = S ∨ (65536 < S.length ∧ 65536 < F.length)
theorem Rel.refl (F : List UInt8) : Rel F F := .inl rfl
theorem Rel.line {F S : List UInt8} (h : Rel F S) (L : List UInt8) : Rel (F ++ L) (cutT S L) := by
  unfold cutT
  rcases h with rfl | ⟨h1, h2⟩
  · split
    · exact .inr ⟨by assumption, by rw [List.length_append]; omega⟩
    · exact .inl rfl
  · rw [if_pos h1]
    exact .inr ⟨h1, by rw [List.length_append]; omega⟩
theorem Rel.stop {F S : List UInt8} (h : Rel F S) (hS : 65536 < S.length) (X : List UInt8) : Rel (F ++ X) S := by
  rcases h with rfl | ⟨h1, h2⟩
  · exact .inr ⟨hS, by rw [List.length_append]; omega⟩
  · exact .inr ⟨h1, by rw [List.length_append]; omega⟩
theorem Rel.long {F S : List UInt8} (h : Rel F S) : (65536 < S.length) = (65536 < F.length) := by
  rcases h with rfl | ⟨h1, h2⟩
  · rfl
  · simp [h1, h2]
theorem Rel.same {F S : List UInt8} (h : Rel F S) (hS : ¬ 65536 < S.length) : F = S := by
  rcases h with rfl | ⟨h1, h2⟩
  · rfl
  · exact absurd h1 hS
end Go.Proofs.YtbchibmmkmldiaaGreatDoor

/-
  The document's line (gnomonref5's text.line): proved is what it puts behind the text.
-/
namespace Go.Proofs.YtbchibmmkmldiaaGreatDoor
open Go Go.RowKit

set_option maxRecDepth 100000 in
set_option maxHeartbeats 4000000 in
theorem rline_any (b d : Nat) (S L : List UInt8) (w : World) (hB : Blk w b #[.string (bts S)] 52) (hS : S.length ≤ 4194304) (hL : L.length ≤ 2097152) (hd : d ≤ 8192) :
    Calls Tryz.prog 13 #[.pointer (some ⟨b, 0, none⟩), .int .i64 d, .string (bts L)] w (fun e w' => e = .returned (.tuple #[]) ∧ Blk w' b #[.string (bts (cutT S (lnT d L)))] 52 ∧ Only b w w') := by
  have c0 : w.cell? ⟨b, 0, none⟩ = some (.string (bts S)) := hB.cell 0
  have f0 : w.frozen? ⟨b, 0, none⟩ = false := hB.free 0
  have hz := bts_size S
  by_cases hq : 65536 < S.length
  · have e : cutT S (lnT d L) = S := by unfold cutT; rw [if_pos hq]
    rw [e]
    have hq2 : 65536 < (bts S).size := by rw [hz]; exact hq
    have HB := Lib.hid hB; clear hB e hz hq hL hS
    obtain ⟨C, hC⟩ : ∃ C, bts S = C := ⟨_, rfl⟩
    rw [hC] at c0 hq2 HB ⊢
    clear hC
    go_enter Tryz.func13, Tryz.ntmps13
    go_wp2_with fail
    refine bodyPost_ret (results_none rfl _ _ _) rfl ?_
    exact ⟨rfl, HB.out, Only.refl b w⟩
  · have e : cutT S (lnT d L) = S ++ lnT d L := by unfold cutT; rw [if_neg hq]
    rw [e]
    have hq2 : ¬ 65536 < (bts S).size := by rw [hz]; exact hq
    have hfin : ∀ T, T = bts (ind d ++ L) → bts S ++ T ++ ⟨#[10]⟩ = bts (S ++ lnT d L) := by
      rintro T rfl
      rw [show (⟨#[10]⟩ : ByteArray) = bts [10] from rfl, bts_app, bts_app]
      unfold lnT
      simp only [List.append_assoc]
    have hzc : (bts S).size ≤ 4194304 := by omega
    have HB := Lib.hid hB; clear hB e hz hq
    obtain ⟨C, hC⟩ : ∃ C, bts S = C := ⟨_, rfl⟩
    rw [hC] at c0 hq2 HB hfin hzc
    clear hC
    have HF := Lib.hid hfin; clear hfin
    go_enter Tryz.func13, Tryz.ntmps13
    go_upto_block 0 with fail
    go_cut [2, 6] (fun x _ wx => x = .string (bts (ind d ++ L)) ∧ wx = w)
    case first =>
      go_wp2_with fail
      go_loopw [2, 6] (fun x y wr => ∃ i : Nat, x = .string (bts (ind i ++ L)) ∧ y = .int .i64 i ∧ i ≤ d ∧ wr = w) (fun _ y _ => d - (intOf y).toNat)
      case atStart => exact ⟨0, rfl, rfl, by omega, rfl⟩
      case round =>
        obtain ⟨i, rfl, rfl, hi, rfl⟩ := hrel
        have hz := bts_size (ind i ++ L)
        rw [List.length_append, ind_len] at hz
        have hnx : (⟨#[32, 32]⟩ : ByteArray) ++ bts (ind i ++ L) = bts (ind (i + 1) ++ L) := by
          rw [show (⟨#[32, 32]⟩ : ByteArray) = bts [32, 32] from rfl, bts_app, ind, List.append_assoc]
        by_cases hlt : i < d
        · obtain ⟨T, hT⟩ : ∃ T, bts (ind i ++ L) = T := ⟨_, rfl⟩
          rw [hT] at hz hnx ⊢
          clear hT
          have hbi : (i : Int) + 1 ≤ 9223372036854775807 := by omega
          have hn1 : 2 + T.size ≤ 9223372036854775807 := by omega
          have hn2 : ¬ 9223372036854775807 < 2 + T.size := by omega
          have hn3 : ¬ 9223372036854775807 < T.size + 2 := by omega
          have HN := Lib.hid hnx; clear hnx hz
          go_wp2_with fail
          go_roundw
          case rel => exact ⟨i + 1, by rw [← HN.out], by go_num, by omega, by first | trivial | rfl⟩
          case measure => simp [intOf]; omega
        · obtain rfl : i = d := by omega
          clear hz hnx
          go_wp2_with fail
          go_meet
          exact ⟨rfl, rfl⟩
    case rest =>
      obtain ⟨rfl, rfl⟩ := hcut
      have hz := bts_size (ind d ++ L)
      rw [List.length_append, ind_len] at hz
      have hf := HF.out _ rfl
      obtain ⟨T, hT⟩ : ∃ T, bts (ind d ++ L) = T := ⟨_, rfl⟩
      rw [hT] at hz hf ⊢
      clear hT HF
      have hn1 : C.size + T.size ≤ 9223372036854775807 := by omega
      have hn2 : ¬ 9223372036854775807 < C.size + T.size := by omega
      have hn3 : C.size + T.size + 1 ≤ 9223372036854775807 := by omega
      have hn4 : ¬ 9223372036854775807 < C.size + T.size + 1 := by omega
      have hn5 : ¬ 9223372036854775807 ≤ C.size + T.size := by omega
      have HF := Lib.hid hf; clear hf hz
      go_wp2_with fail
      go_end0
      refine ⟨rfl, ?_, (Only.refl b _).setCell (by rfl) _⟩
      rw [← HF.out]
      exact HB.out.set 0 _
end Go.Proofs.YtbchibmmkmldiaaGreatDoor

/-
  The document's text of statements (gnomonref5's text.stmts), by induction on the tree: proved is that what is put together is the whole text, or that both are too long.
-/
namespace Go.Proofs.YtbchibmmkmldiaaGreatDoor
open Go Go.RowKit

theorem only_drew {b : Nat} {a w : World} (h : Only b a w) : Only b a w.drew := h.trans (Only.below ((Below.refl _ w).drew))
theorem only_next {b : Nat} {a w w2 : World} (h : Only b a w) (hb : Below w.heap.size w w2) : Only b a w2 := h.trans (Only.below hb)
theorem only_cell {b : Nat} {a w : World} (h : Only b a w) {g o : Nat} {u : Value} (hc : a.cell? ⟨g, o, none⟩ = some u) (hg : g ≠ b) : w.cell? ⟨g, o, none⟩ = some u := by
  have lt := World.block_lt_of_cell? a ⟨g, o, none⟩ hc
  have hb := h.block g lt hg
  rw [← hc]
  simp only [World.cell?, hb]
theorem row_lt {w : World} {xs : List Nd} {b0 o0 : Nat} (hr : RowIn w .E xs b0 o0) (h : 0 < xs.length) : b0 < w.heap.size := by
  obtain ⟨k, n, s, a, len, c, hnd, g0, -⟩ := item_at hr (Below.refl _ w) 0 h
  exact World.block_lt_of_cell? w ⟨b0, _, none⟩ g0
/-- The document's text of a row of statements. -/
def RDone (b : Nat) (G : List UInt8) (w : World) : Ending → World → Prop := fun e w' => e = .returned (.tuple #[]) ∧ ∃ S', Blk w' b #[.string (bts S')] 52 ∧ Rel G S' ∧ S'.length ≤ 4194304 ∧ Only b w w'
def RList (w0 : World) (b d : Nat) (xs : List Nd) : Prop := ∀ v S F w, SlIn w0 .S xs v → Below w0.heap.size w0 w → Blk w b #[.string (bts S)] 52 → Rel F S → S.length ≤ 4194304 →
  Calls Tryz.prog 15 #[.pointer (some ⟨b, 0, none⟩), v, .int .i64 d] w (RDone b (F ++ stL xs d) w)
/-- A line, and what it leaves. -/
theorem rline_rel (b d : Nat) (S F L : List UInt8) (w : World) (hB : Blk w b #[.string (bts S)] 52) (hR : Rel F S) (hS : S.length ≤ 4194304) (hL : L.length ≤ 1600000) (hd : d ≤ 8192) :
    Calls Tryz.prog 13 #[.pointer (some ⟨b, 0, none⟩), .int .i64 d, .string (bts L)] w (RDone b (F ++ lnT d L) w) := by
  refine (rline_any b d S L w hB hS (by omega) hd).mono ?_
  rintro e w' ⟨rfl, h1, h2⟩
  exact ⟨rfl, _, h1, hR.line _, cutT_le hS (Nat.le_trans (line_le d L hd hL) (by decide)), h2⟩
theorem lst_bts (s : ByteArray) : s = bts (lst s) := bts_of s

set_option maxRecDepth 100000 in
set_option maxHeartbeats 32000000 in
theorem rstmts_any (w0 : World) (b : Nat) (hb0 : w0.heap.size ≤ b) : ∀ (N d : Nat) (ys : List Nd), SizeOf.sizeOf ys ≤ N → goodSL ys → d + cntL ys ≤ 8192 → RList w0 b d ys := by
  intro N
  induction N with
  | zero =>
    intro d ys hN
    cases ys <;> simp at hN
  | succ N ih =>
    intro d ys hN hg hd v S F w hin hw hB hR hS
    obtain ⟨ya, yc, rfl, hylc, hycm, hyrow⟩ := hin
    have hbs : b < w.heap.size := hB.lt
    have hsub := fun (i : Nat) (hi : i < ys.length) => List.sizeOf_lt_of_mem (List.getElem_mem (l := ys) (n := i) hi)
    have hgd := fun (i : Nat) (hi : i < ys.length) => goodSL_at hg i hi
    have hct := cntL_at ys
    have HSUB := Lib.hid hsub; clear hsub
    have HGD := Lib.hid hgd; clear hgd hg
    have HCT := Lib.hid hct; clear hct
    have HIH := Lib.hid ih; clear ih
    have HROW := Lib.hid hyrow; clear hyrow
    have HB := Lib.hid hB; clear hB
    have HR := Lib.hid hR; clear hR
    have HW := Lib.hid hw; clear hw
    have HO := Lib.hid (Only.refl b w)
    go_enter Tryz.func15, Tryz.ntmps15
    go_upto_block 0 with fail
    go_wp2_with fail
    go_loopw [6] (fun x wr => ∃ (i : Nat) (S' : List UInt8), x = .int .i64 i ∧ i ≤ ys.length ∧ Blk wr b #[.string (bts S')] 52 ∧ Rel (F ++ stL (ys.take i) d) S' ∧ S'.length ≤ 4194304 ∧ Only b w wr) (fun x _ => ys.length - (intOf x).toNat)
    case atStart => exact ⟨0, S, rfl, by omega, HB.out, by rw [List.take_zero, stL, List.append_nil]; exact HR.out, hS, HO.out⟩
    case round =>
      obtain ⟨i, S', rfl, hi, hBr, hRr, hSr, hOr⟩ := hrel
      clear HB HR HO hS
      have c0 : wr.cell? ⟨b, 0, none⟩ = some (.string (bts S')) := hBr.cell 0
      have hz := bts_size S'
      obtain ⟨C, hC⟩ : ∃ C, bts S' = C := ⟨_, rfl⟩
      rw [hC] at c0 hBr hz
      have HC := Lib.hid hC; clear hC
      have HBr := Lib.hid hBr; clear hBr
      have HRr := Lib.hid hRr; clear hRr
      have HOr := Lib.hid hOr; clear hOr
      by_cases hlt : i < ys.length
      · have hbi : (i : Int) + 1 ≤ 9223372036854775807 := by unfold maxLen at hycm; omega
        by_cases hq : 65536 < S'.length
        · have hq2 : ¬ ((C.size : Int) ≤ 65536) := by omega
          clear hz
          go_wp2_with fail
          go_end0
          refine ⟨rfl, S', by rw [HC.out]; exact HBr.out, ?_, hSr, HOr.out⟩
          have h := HRr.out.stop hq (stL (ys.drop i) d)
          rw [List.append_assoc, ← stL_app, List.take_append_drop] at h
          exact h
        · have hq2 : (C.size : Int) ≤ 65536 := by omega
          clear hz
          obtain ⟨g, o, rfl, hrow⟩ := HROW.out.resolve_left (by omega)
          obtain ⟨hty, u0, u1, u2, u3, u4, u5, m0, m1, m2, m3, m4, m5, hnd⟩ := SlIn.item6 rfl hrow i hlt
          have hold : Below w0.heap.size w0 wr := HW.out.trans (HOr.out.old hb0 HW.out.size)
          have kk := keeps_below hold
          have k0 := kk _ _ _ m0
          have k1 := kk _ _ _ m1
          have k2 := kk _ _ _ m2
          have k3 := kk _ _ _ m3
          have k4 := kk _ _ _ m4
          have k5 := kk _ _ _ m5
          have hgi := (HGD.out i hlt).2
          have hci := HCT.out i hlt
          have hsi := HSUB.out i hlt
          have htk := stL_take hlt d
          obtain ⟨x, hx⟩ : ∃ x, ys[i] = x := ⟨_, rfl⟩
          rw [hx] at hnd hty hgi hci hsi htk
          clear hx m0 m1 m2 m3 m4 m5 kk hrow
          obtain ⟨ty, k, n, nm, xs, cs, ts, es⟩ := x
          simp only [Nd.ty] at hty
          subst hty
          have hN2 : SizeOf.sizeOf (Nd.mk .S k n nm xs cs ts es) ≤ N := by omega
          clear hsi
          simp only [Nd.mk.sizeOf_spec] at hN2
          unfold cntS at hci
          unfold goodS at hgi
          obtain ⟨⟨hk1, hk2, hx1, hx2, hc1, he1⟩, hnm, hgx, hgc, hxc, hcc, hgt, hge⟩ := hgi
          have hTs := HIH.out (d + 1) ts (by omega) hgt (by omega)
          have hEs := HIH.out (d + 1) es (by omega) hge (by omega)
          have hWE := fun j (hj : j < xs.length) => rexpr_any w0 _ xs[j] (Nat.le_refl _) (goodTL_at hgx j hj).1 (goodTL_at hgx j hj).2 (by have := cstL_at xs j hj; omega)
          have hWC := fun j (hj : j < cs.length) => rcond_any w0 _ cs[j] (Nat.le_refl _) (goodTL_at hgc j hj).1 (goodTL_at hgc j hj).2 (by have := cstL_at cs j hj; omega)
          have hlx := fun j (hj : j < xs.length) => txt_at_le (.inl rfl) hgx hxc j hj
          have hlc := fun j (hj : j < cs.length) => txt_at_le (.inr rfl) hgc hcc j hj
          unfold NdIn at hnd
          obtain ⟨-, -, -, -, vx, vc, vt, ve, hvs, hvx, hvc, hvt, hve⟩ := hnd
          simp only [lay, List.cons.injEq, and_true] at hvs
          obtain ⟨rfl, rfl, rfl, rfl, rfl, rfl⟩ := hvs
          have hit : SlIn w0 .S ts u4 := hvt
          have hie : SlIn w0 .S es u5 := hve
          obtain ⟨a, c, rfl, -, -, hrx⟩ := hvx
          obtain ⟨a2, c2, rfl, -, -, hrc⟩ := hvc
          obtain ⟨a3, c3, rfl, -⟩ := hvt
          obtain ⟨a4, c4, rfl, -⟩ := hve
          have hdc : ((d + 1 : Nat) : Int) = (d : Int) + 1 := by omega
          have HT := Lib.hid (fun S F w hw hB hR hS => hTs _ S F w hit hw hB hR hS)
          have HE := Lib.hid (fun S F w hw hB hR hS => hEs _ S F w hie hw hB hR hS)
          rw [hdc] at HT HE
          clear hdc
          have hd1 : (d : Int) + 1 ≤ 9223372036854775807 := by omega
          obtain ⟨W1, hW1⟩ : ∃ W1, wr.alloc (.cells #[.int .i64 k, .string nm, .slice a xs.length c, .slice a2 cs.length c2, .slice a3 ts.length c3, .slice a4 es.length c4] 78) = W1 := ⟨_, rfl⟩
          obtain ⟨X, hX⟩ : ∃ X, wr.heap.size = X := ⟨_, rfl⟩
          have hX1 : Blk W1 X #[.int .i64 k, .string nm, .slice a xs.length c, .slice a2 cs.length c2, .slice a3 ts.length c3, .slice a4 es.length c4] 78 := by rw [← hW1, ← hX]; exact Blk.new wr _ _
          have hb1 : Blk W1 b #[.string C] 52 := by rw [← hW1]; exact HBr.out.alloc _
          have hXb : X ≠ b := by have := HBr.out.lt; omega
          have ho1 : Only b w W1 := by rw [← hW1]; exact HOr.out.alloc _
          have hold1 : Below w0.heap.size w0 W1 := HW.out.trans (ho1.old hb0 HW.out.size)
          have hs01 : w0.heap.size ≤ W1.heap.size := hold1.size
          have HX1 := Lib.hid hX1; clear hX1
          have HB1 := Lib.hid hb1; clear hb1
          have HO1 := Lib.hid ho1; clear ho1
          have HOLD := Lib.hid hold1; clear hold1 hold
          have HRX := Lib.hid hrx; clear hrx
          have HRC := Lib.hid hrc; clear hrc
          have HWE := Lib.hid hWE; clear hWE
          have HWC := Lib.hid hWC; clear hWC
          have HLX := Lib.hid hlx; clear hlx
          have HLC := Lib.hid hlc; clear hlc
          have HTK := Lib.hid htk; clear htk
          have HW1 := Lib.hid hW1; clear hW1
          have HXX := Lib.hid hX; clear hX
          clear hgx hgc hgt hge hN2 hTs hEs hit hie hci hxc hcc
          have hd8 : d ≤ 8192 := by omega
          go_upto_region 4 with fail
          rw [HW1.out, HXX.out]
          clear HW1
          have m0 : W1.cell? ⟨X, 0, none⟩ = some (.int .i64 k) := HX1.out.cell 0
          clear hq2 hq
          by_cases q1 : k = 1
          · subst q1
            have hxl := hx1 rfl
            have h0x : 0 < xs.length := by omega
            obtain ⟨b0, o0, rfl, hrow⟩ := HRX.out.resolve_left (by omega)
            have hbb : b0 ≠ b := by have := row_lt hrow h0x; omega
            obtain ⟨ck, cn, cz, ca, cl, cc, hnd, g0, g1, g2, g3⟩ := item_at hrow HOLD.out 0 h0x
            simp only [Nat.zero_mul, Nat.add_zero] at g0 g1 g2 g3
            have hxi0 : (0 : Int) < xs.length := by omega
            have hl0 := HLX.out 0 h0x
            have hz := bts_size (txtN xs[0])
            have hfin : nm ++ ⟨#[32, 61, 32]⟩ ++ bts (txtN xs[0]) ++ ⟨#[59]⟩ = bts (assT nm (fst xs)) := by
              rw [fst_eq h0x, lst_bts nm, lst_bts ⟨#[32, 61, 32]⟩, lst_bts ⟨#[59]⟩, bts_app, bts_app, bts_app, ← lst_bts nm]
              unfold assT
              simp only [List.append_assoc]
              rfl
            have hle : (assT nm (fst xs)).length ≤ 1600000 := ass_le _ _ hnm (by rw [fst_eq h0x]; exact hl0)
            have hL := fun w2 (hb2 : Below W1.heap.size W1 w2) => rline_rel b d S' (F ++ stL (ys.take i) d) (assT nm (fst xs)) w2 (by rw [HC.out]; exact HB1.out.below hb2 HB1.out.lt) HRr.out hSr hle (by omega)
            rw [← hfin] at hL
            have hE0 := fun w2 (hO : Only b W1 w2) => HWE.out 0 h0x _ w2 hnd (HOLD.out.trans (hO.old hb0 hs01))
            obtain ⟨C0, hC0⟩ : ∃ C, bts (txtN xs[0]) = C := ⟨_, rfl⟩
            simp only [hC0] at hE0 hL hz
            have hn1a : nm.size + 3 ≤ 9223372036854775807 := by omega
            have hn1b : ¬ 9223372036854775807 < nm.size + 3 := by omega
            have hn2a : nm.size + 3 + C0.size ≤ 9223372036854775807 := by omega
            have hn2b : ¬ 9223372036854775807 < nm.size + 3 + C0.size := by omega
            have hn3a : nm.size + 3 + C0.size + 1 ≤ 9223372036854775807 := by omega
            have hn3b : ¬ 9223372036854775807 < nm.size + 3 + C0.size + 1 := by omega
            have hn3c : nm.size + 3 + C0.size < 9223372036854775807 := by omega
            have hn3d : ¬ 9223372036854775807 ≤ nm.size + 3 + C0.size := by omega
            have KS := fun w' (hO : Only b W1 w') => (⟨(HX1.out.only hO hXb).cell 1, (HX1.out.only hO hXb).cell 2, only_cell hO g0 hbb, only_cell hO g1 hbb, only_cell hO g2 hbb, only_cell hO g3 hbb, hO⟩ : w'.cell? ⟨X, 1, none⟩ = some (.string nm) ∧ w'.cell? ⟨X, 2, none⟩ = some (.slice (some ⟨b0, o0, none⟩) xs.length c) ∧ w'.cell? ⟨b0, o0, none⟩ = some (.int .i64 ck) ∧ w'.cell? ⟨b0, o0 + 1, none⟩ = some (.int .i64 cn) ∧ w'.cell? ⟨b0, o0 + 2, none⟩ = some (.string cz) ∧ w'.cell? ⟨b0, o0 + 3, none⟩ = some (.slice ca cl cc) ∧ Only b W1 w')
            have KH := Lib.hid KS; clear KS
            have HL := Lib.hid hL
            have HE0 := Lib.hid hE0
            have HH0 := Lib.hid h0x
            have HF0 := Lib.hid (HE0.out W1.drew (only_drew (Only.refl b W1)))
            have m1 : W1.cell? ⟨X, 1, none⟩ = some (.string nm) := HX1.out.cell 1
            have m2 : W1.cell? ⟨X, 2, none⟩ = some (.slice (some ⟨b0, o0, none⟩) xs.length c) := HX1.out.cell 2
            clear hL hE0 hfin hC0 hz hl0 hle hnd hrow hc1 hx1 hx2 he1 hxl h0x
            clear c0 k0 k1 k2 k3 k4 k5 hSr hnm hN hd
            go_upto_region 6 with fail
            have HNUM := Lib.hid (And.intro hbi (And.intro hlt hi))
            clear hbi hlt hi hylc hycm hbs hs01 hb0 hk1 hk2 hd1 hd8 hXb hbb m0 m1 m2 g0 g1 g2 g3
            have hz0x := HH0.out
            go_region_held3 (fun w' => w'.cell? ⟨X, 1, none⟩ = some (.string nm) ∧ w'.cell? ⟨X, 2, none⟩ = some (.slice (some ⟨b0, o0, none⟩) xs.length c) ∧ w'.cell? ⟨b0, o0, none⟩ = some (.int .i64 ck) ∧ w'.cell? ⟨b0, o0 + 1, none⟩ = some (.int .i64 cn) ∧ w'.cell? ⟨b0, o0 + 2, none⟩ = some (.string cz) ∧ w'.cell? ⟨b0, o0 + 3, none⟩ = some (.slice ca cl cc) ∧ Only b W1 w')
              ((with_reducible refine KH.out _ ?_; repeat (with_reducible (first | exact Only.refl b W1 | refine only_drew ?_ | refine only_next ?_ hb2 | refine Only.trans ?_ hO3 | fail))))
              (first | (go_at_call 26; (with_reducible refine (HE0.out _ (by repeat (with_reducible (first | exact Only.refl b W1 | refine only_drew ?_ | refine only_next ?_ hb2 | refine Only.trans ?_ hO3 | fail)))).mono ?_); rintro e w2 ⟨rfl, hb2⟩) | (go_at_call 13; (with_reducible refine (HL.out _ (by repeat (with_reducible (first | exact Below.refl _ W1 | refine below_drew ?_ | refine below_next ?_ hb2 | fail)))).mono ?_); rintro e w3 ⟨rfl, S2, hB3, hR3, hS3, hO3⟩))
            all_goals
              obtain ⟨hbi, hlt, hi⟩ := HNUM.out
              go_wp2_with fail
              go_roundw
              case rel =>
                refine ⟨i + 1, S2, by go_num, by omega, by first | exact hB3 | exact (show Blk _ b _ _ from hB3), ?_, hS3, HO1.out.trans (by repeat (with_reducible (first | exact Only.refl b W1 | refine only_drew ?_ | refine only_next ?_ hb2 | refine Only.trans ?_ hO3 | fail)))⟩
                have h := hR3
                rw [HTK.out, st_1]
                simp only [List.append_assoc] at h ⊢
                exact h
              case measure => simp [intOf]; omega
          have t1 : (k == 1) = false := by simpa using q1
          by_cases q2 : k = 2
          · subst q2
            have hxl := hx2 rfl
            have h0x : 0 < xs.length := by omega
            have h1x : 1 < xs.length := by omega
            obtain ⟨b0, o0, rfl, hrow⟩ := HRX.out.resolve_left (by omega)
            have hbb : b0 ≠ b := by have := row_lt hrow h0x; omega
            obtain ⟨ck, cn, cz, ca, cl, cc, hnd, g0, g1, g2, g3⟩ := item_at hrow HOLD.out 0 h0x
            obtain ⟨dk, dn, dz, da, dl, dc, hnd2, f0, f1, f2, f3⟩ := item_at hrow HOLD.out 1 h1x
            simp only [Nat.zero_mul, Nat.add_zero, Nat.one_mul] at g0 g1 g2 g3 f0 f1 f2 f3
            have hxi0 : (0 : Int) < xs.length := by omega
            have hl0 := HLX.out 0 h0x
            have hz := bts_size (txtN xs[0])
            have hxi1 : (1 : Int) < xs.length := by omega
            have hl1 := HLX.out 1 h1x
            have hz1 := bts_size (txtN xs[1])
            have hfin : nm ++ ⟨#[91]⟩ ++ bts (txtN xs[0]) ++ ⟨#[93, 32, 61, 32]⟩ ++ bts (txtN xs[1]) ++ ⟨#[59]⟩ = bts (stoT nm (fst xs) (snd xs)) := by
              rw [fst_eq h0x, snd_eq h1x, lst_bts nm, lst_bts ⟨#[91]⟩, lst_bts ⟨#[93, 32, 61, 32]⟩, lst_bts ⟨#[59]⟩, bts_app, bts_app, bts_app, bts_app, bts_app, ← lst_bts nm]
              unfold stoT
              simp only [List.append_assoc]
              rfl
            have hle : (stoT nm (fst xs) (snd xs)).length ≤ 1600000 := sto_le _ _ _ hnm (by rw [fst_eq h0x]; exact hl0) (by rw [snd_eq h1x]; exact hl1)
            have hL := fun w2 (hb2 : Below W1.heap.size W1 w2) => rline_rel b d S' (F ++ stL (ys.take i) d) (stoT nm (fst xs) (snd xs)) w2 (by rw [HC.out]; exact HB1.out.below hb2 HB1.out.lt) HRr.out hSr hle (by omega)
            rw [← hfin] at hL
            have hE0 := fun w2 (hO : Only b W1 w2) => HWE.out 0 h0x _ w2 hnd (HOLD.out.trans (hO.old hb0 hs01))
            have hE1 := fun w2 (hO : Only b W1 w2) => HWE.out 1 h1x _ w2 hnd2 (HOLD.out.trans (hO.old hb0 hs01))
            obtain ⟨C0, hC0⟩ : ∃ C, bts (txtN xs[0]) = C := ⟨_, rfl⟩
            simp only [hC0] at hE0 hL hz
            obtain ⟨C1, hC1⟩ : ∃ C, bts (txtN xs[1]) = C := ⟨_, rfl⟩
            simp only [hC1] at hE1 hL hz1
            have hn1a : nm.size + 1 ≤ 9223372036854775807 := by omega
            have hn1b : ¬ 9223372036854775807 < nm.size + 1 := by omega
            have hn1c : nm.size < 9223372036854775807 := by omega
            have hn1d : ¬ 9223372036854775807 ≤ nm.size := by omega
            have hn2a : nm.size + 1 + C0.size ≤ 9223372036854775807 := by omega
            have hn2b : ¬ 9223372036854775807 < nm.size + 1 + C0.size := by omega
            have hn3a : nm.size + 1 + C0.size + 4 ≤ 9223372036854775807 := by omega
            have hn3b : ¬ 9223372036854775807 < nm.size + 1 + C0.size + 4 := by omega
            have hn4a : nm.size + 1 + C0.size + 4 + C1.size ≤ 9223372036854775807 := by omega
            have hn4b : ¬ 9223372036854775807 < nm.size + 1 + C0.size + 4 + C1.size := by omega
            have hn5a : nm.size + 1 + C0.size + 4 + C1.size + 1 ≤ 9223372036854775807 := by omega
            have hn5b : ¬ 9223372036854775807 < nm.size + 1 + C0.size + 4 + C1.size + 1 := by omega
            have hn5c : nm.size + 1 + C0.size + 4 + C1.size < 9223372036854775807 := by omega
            have hn5d : ¬ 9223372036854775807 ≤ nm.size + 1 + C0.size + 4 + C1.size := by omega
            have KS := fun w' (hO : Only b W1 w') => (⟨(HX1.out.only hO hXb).cell 1, (HX1.out.only hO hXb).cell 2, only_cell hO g0 hbb, only_cell hO g1 hbb, only_cell hO g2 hbb, only_cell hO g3 hbb, only_cell hO f0 hbb, only_cell hO f1 hbb, only_cell hO f2 hbb, only_cell hO f3 hbb, hO⟩ : w'.cell? ⟨X, 1, none⟩ = some (.string nm) ∧ w'.cell? ⟨X, 2, none⟩ = some (.slice (some ⟨b0, o0, none⟩) xs.length c) ∧ w'.cell? ⟨b0, o0, none⟩ = some (.int .i64 ck) ∧ w'.cell? ⟨b0, o0 + 1, none⟩ = some (.int .i64 cn) ∧ w'.cell? ⟨b0, o0 + 2, none⟩ = some (.string cz) ∧ w'.cell? ⟨b0, o0 + 3, none⟩ = some (.slice ca cl cc) ∧ w'.cell? ⟨b0, o0 + 4, none⟩ = some (.int .i64 dk) ∧ w'.cell? ⟨b0, o0 + 4 + 1, none⟩ = some (.int .i64 dn) ∧ w'.cell? ⟨b0, o0 + 4 + 2, none⟩ = some (.string dz) ∧ w'.cell? ⟨b0, o0 + 4 + 3, none⟩ = some (.slice da dl dc) ∧ Only b W1 w')
            have KH := Lib.hid KS; clear KS
            have HL := Lib.hid hL
            have HE0 := Lib.hid hE0
            have HE1 := Lib.hid hE1
            clear hE1 hz1 hnd2
            have HH1 := Lib.hid h1x
            have HH0 := Lib.hid h0x
            have HF0 := Lib.hid (HE0.out W1.drew (only_drew (Only.refl b W1)))
            have m1 : W1.cell? ⟨X, 1, none⟩ = some (.string nm) := HX1.out.cell 1
            have m2 : W1.cell? ⟨X, 2, none⟩ = some (.slice (some ⟨b0, o0, none⟩) xs.length c) := HX1.out.cell 2
            clear hL hE0 hfin hC0 hz hl0 hle hnd hrow hc1 hx1 hx2 he1 hxl h0x hl1 hC1 h1x
            clear c0 k0 k1 k2 k3 k4 k5 hSr hnm hN hd
            go_upto_region 8 with fail
            have HNUM := Lib.hid (And.intro hbi (And.intro hlt hi))
            clear hbi hlt hi hylc hycm hbs hs01 hb0 hk1 hk2 hd1 hd8 hXb hbb m0 m1 m2 g0 g1 g2 g3 f0 f1 f2 f3
            have hz0x := HH0.out
            have hz1x := HH1.out
            go_region_held3 (fun w' => w'.cell? ⟨X, 1, none⟩ = some (.string nm) ∧ w'.cell? ⟨X, 2, none⟩ = some (.slice (some ⟨b0, o0, none⟩) xs.length c) ∧ w'.cell? ⟨b0, o0, none⟩ = some (.int .i64 ck) ∧ w'.cell? ⟨b0, o0 + 1, none⟩ = some (.int .i64 cn) ∧ w'.cell? ⟨b0, o0 + 2, none⟩ = some (.string cz) ∧ w'.cell? ⟨b0, o0 + 3, none⟩ = some (.slice ca cl cc) ∧ w'.cell? ⟨b0, o0 + 4, none⟩ = some (.int .i64 dk) ∧ w'.cell? ⟨b0, o0 + 4 + 1, none⟩ = some (.int .i64 dn) ∧ w'.cell? ⟨b0, o0 + 4 + 2, none⟩ = some (.string dz) ∧ w'.cell? ⟨b0, o0 + 4 + 3, none⟩ = some (.slice da dl dc) ∧ Only b W1 w')
              ((with_reducible refine KH.out _ ?_; repeat (with_reducible (first | exact Only.refl b W1 | refine only_drew ?_ | refine only_next ?_ hb4 | refine only_next ?_ hb2 | refine Only.trans ?_ hO3 | fail))))
              (first | (go_at_call 26; (with_reducible refine (HE0.out _ (by repeat (with_reducible (first | exact Only.refl b W1 | refine only_drew ?_ | refine only_next ?_ hb4 | refine only_next ?_ hb2 | refine Only.trans ?_ hO3 | fail)))).mono ?_); rintro e w2 ⟨rfl, hb2⟩) | (go_at_call 26; (with_reducible refine (HE1.out _ (by repeat (with_reducible (first | exact Only.refl b W1 | refine only_drew ?_ | refine only_next ?_ hb4 | refine only_next ?_ hb2 | refine Only.trans ?_ hO3 | fail)))).mono ?_); rintro e w4 ⟨rfl, hb4⟩) | (go_at_call 13; (with_reducible refine (HL.out _ (by repeat (with_reducible (first | exact Below.refl _ W1 | refine below_drew ?_ | refine below_next ?_ hb4 | refine below_next ?_ hb2 | fail)))).mono ?_); rintro e w3 ⟨rfl, S2, hB3, hR3, hS3, hO3⟩))
            all_goals
              obtain ⟨hbi, hlt, hi⟩ := HNUM.out
              go_wp2_with fail
              go_roundw
              case rel =>
                refine ⟨i + 1, S2, by go_num, by omega, by first | exact hB3 | exact (show Blk _ b _ _ from hB3), ?_, hS3, HO1.out.trans (by repeat (with_reducible (first | exact Only.refl b W1 | refine only_drew ?_ | refine only_next ?_ hb4 | refine only_next ?_ hb2 | refine Only.trans ?_ hO3 | fail)))⟩
                have h := hR3
                rw [HTK.out, st_2]
                simp only [List.append_assoc] at h ⊢
                exact h
              case measure => simp [intOf]; omega
          have t2 : (k == 2) = false := by simpa using q2
          by_cases q5 : k = 5
          · subst q5
            have hcl := hc1 (by omega) (by omega)
            have h0c : 0 < cs.length := by omega
            obtain ⟨b0, o0, rfl, hrow⟩ := HRC.out.resolve_left (by omega)
            obtain ⟨ck, cn, ca2, cl2, cc2, ca, cl, cc, hnd, g0, g1, g2, g3⟩ := citem_at hrow HOLD.out 0 h0c
            simp only [Nat.zero_mul, Nat.add_zero] at g0 g1 g2 g3
            have hci0 : (0 : Int) < cs.length := by omega
            have hCC := HWC.out 0 h0c _ W1 hnd HOLD.out
            have hl0 := HLC.out 0 h0c
            have hz := bts_size (txtN cs[0])
            have hfin : ⟨#[97, 115, 115, 101, 114, 116, 32]⟩ ++ bts (txtN cs[0]) ++ ⟨#[59]⟩ = bts (askT ⟨#[97, 115, 115, 101, 114, 116, 32]⟩ (fst cs) ⟨#[59]⟩) := by
              rw [fst_eq h0c, lst_bts ⟨#[97, 115, 115, 101, 114, 116, 32]⟩, lst_bts ⟨#[59]⟩, bts_app, bts_app, ← lst_bts, ← lst_bts]
              unfold askT
              rw [List.append_assoc]
            have hle : (askT ⟨#[97, 115, 115, 101, 114, 116, 32]⟩ (fst cs) ⟨#[59]⟩).length ≤ 1600000 := ask_le _ _ _ (by decide) (by decide) (by rw [fst_eq h0c]; exact hl0)
            obtain ⟨C0, hC0⟩ : ∃ C, bts (txtN cs[0]) = C := ⟨_, rfl⟩
            rw [hC0] at hCC hfin hz
            have hn1 : 7 + C0.size ≤ 9223372036854775807 := by omega
            have hn2 : ¬ 9223372036854775807 < 7 + C0.size := by omega
            have hn3 : 7 + C0.size + 1 ≤ 9223372036854775807 := by omega
            have hn4 : ¬ 9223372036854775807 < 7 + C0.size + 1 := by omega
            have hL := fun w2 (hb2 : Below W1.heap.size W1 w2) => rline_rel b d S' (F ++ stL (ys.take i) d) (askT ⟨#[97, 115, 115, 101, 114, 116, 32]⟩ (fst cs) ⟨#[59]⟩) w2 (by rw [HC.out]; exact HB1.out.below hb2 HB1.out.lt) HRr.out hSr hle (by omega)
            rw [← hfin] at hL
            have HL := Lib.hid hL
            have HCC := Lib.hid hCC
            have HH0 := Lib.hid h0c
            have m3 : W1.cell? ⟨X, 3, none⟩ = some (.slice (some ⟨b0, o0, none⟩) cs.length c2) := HX1.out.cell 3
            clear hcl hL hCC hfin hC0 hz hl0 hle hnd hrow hc1 hx1 hx2 he1 h0c
            go_wp2_with (first | (go_at_call 27; (with_reducible refine HCC.out.mono ?_); rintro e w2 ⟨rfl, hb2⟩) | (go_at_call 13; (with_reducible refine (HL.out _ hb2).mono ?_); rintro e w3 ⟨rfl, S2, hB3, hR3, hS3, hO3⟩; (have HH3 := Lib.hid (And.intro hB3 hR3)); (have HHO3 := Lib.hid (HO1.out.trans ((Only.below hb2).trans hO3))); (have HX3 := Lib.hid ((HX1.out.below hb2 HX1.out.lt).only hO3 hXb)); clear hB3 hR3 hO3) | fail)
            have HH0' := HH0.out
            go_roundw
            case rel =>
              refine ⟨i + 1, S2, by go_num, by omega, HH3.out.1, ?_, hS3, HHO3.out⟩
              have h := HH3.out.2
              rw [HTK.out, st_5]
              simp only [List.append_assoc] at h ⊢
              exact h
            case measure => simp [intOf]; omega
          have t5 : (k == 5) = false := by simpa using q5
          by_cases q6 : k = 6
          · subst q6
            have hcl := hc1 (by omega) (by omega)
            have h0c : 0 < cs.length := by omega
            obtain ⟨b0, o0, rfl, hrow⟩ := HRC.out.resolve_left (by omega)
            obtain ⟨ck, cn, ca2, cl2, cc2, ca, cl, cc, hnd, g0, g1, g2, g3⟩ := citem_at hrow HOLD.out 0 h0c
            simp only [Nat.zero_mul, Nat.add_zero] at g0 g1 g2 g3
            have hci0 : (0 : Int) < cs.length := by omega
            have hCC := HWC.out 0 h0c _ W1 hnd HOLD.out
            have hl0 := HLC.out 0 h0c
            have hz := bts_size (txtN cs[0])
            have hfin : ⟨#[97, 115, 115, 117, 109, 101, 32]⟩ ++ bts (txtN cs[0]) ++ ⟨#[59]⟩ = bts (askT ⟨#[97, 115, 115, 117, 109, 101, 32]⟩ (fst cs) ⟨#[59]⟩) := by
              rw [fst_eq h0c, lst_bts ⟨#[97, 115, 115, 117, 109, 101, 32]⟩, lst_bts ⟨#[59]⟩, bts_app, bts_app, ← lst_bts, ← lst_bts]
              unfold askT
              rw [List.append_assoc]
            have hle : (askT ⟨#[97, 115, 115, 117, 109, 101, 32]⟩ (fst cs) ⟨#[59]⟩).length ≤ 1600000 := ask_le _ _ _ (by decide) (by decide) (by rw [fst_eq h0c]; exact hl0)
            obtain ⟨C0, hC0⟩ : ∃ C, bts (txtN cs[0]) = C := ⟨_, rfl⟩
            rw [hC0] at hCC hfin hz
            have hn1 : 7 + C0.size ≤ 9223372036854775807 := by omega
            have hn2 : ¬ 9223372036854775807 < 7 + C0.size := by omega
            have hn3 : 7 + C0.size + 1 ≤ 9223372036854775807 := by omega
            have hn4 : ¬ 9223372036854775807 < 7 + C0.size + 1 := by omega
            have hL := fun w2 (hb2 : Below W1.heap.size W1 w2) => rline_rel b d S' (F ++ stL (ys.take i) d) (askT ⟨#[97, 115, 115, 117, 109, 101, 32]⟩ (fst cs) ⟨#[59]⟩) w2 (by rw [HC.out]; exact HB1.out.below hb2 HB1.out.lt) HRr.out hSr hle (by omega)
            rw [← hfin] at hL
            have HL := Lib.hid hL
            have HCC := Lib.hid hCC
            have HH0 := Lib.hid h0c
            have m3 : W1.cell? ⟨X, 3, none⟩ = some (.slice (some ⟨b0, o0, none⟩) cs.length c2) := HX1.out.cell 3
            clear hcl hL hCC hfin hC0 hz hl0 hle hnd hrow hc1 hx1 hx2 he1 h0c
            go_wp2_with (first | (go_at_call 27; (with_reducible refine HCC.out.mono ?_); rintro e w2 ⟨rfl, hb2⟩) | (go_at_call 13; (with_reducible refine (HL.out _ hb2).mono ?_); rintro e w3 ⟨rfl, S2, hB3, hR3, hS3, hO3⟩; (have HH3 := Lib.hid (And.intro hB3 hR3)); (have HHO3 := Lib.hid (HO1.out.trans ((Only.below hb2).trans hO3))); (have HX3 := Lib.hid ((HX1.out.below hb2 HX1.out.lt).only hO3 hXb)); clear hB3 hR3 hO3) | fail)
            have HH0' := HH0.out
            go_roundw
            case rel =>
              refine ⟨i + 1, S2, by go_num, by omega, HH3.out.1, ?_, hS3, HHO3.out⟩
              have h := HH3.out.2
              rw [HTK.out, st_6]
              simp only [List.append_assoc] at h ⊢
              exact h
            case measure => simp [intOf]; omega
          have t6 : (k == 6) = false := by simpa using q6
          by_cases q7 : k = 7
          · subst q7
            have hL := rline_rel b d S' (F ++ stL (ys.take i) d) (lst tSkip) W1 (by rw [HC.out]; exact HB1.out) HRr.out hSr (by rw [lst_len]; decide) (by omega)
            rw [← lst_bts] at hL
            have hL2 : Calls Tryz.prog 13 #[.pointer (some ⟨b, 0, none⟩), .int .i64 d, .string ⟨#[115, 107, 105, 112, 59]⟩] W1 (RDone b ((F ++ stL (ys.take i) d) ++ lnT d (lst tSkip)) W1) := hL
            have HL := Lib.hid hL2
            clear hL hL2 hc1 hx1 hx2 he1
            go_wp2_with (first | (go_at_call 13; (with_reducible refine HL.out.mono ?_); rintro e w3 ⟨rfl, S2, hB3, hR3, hS3, hO3⟩; (have HH3 := Lib.hid (And.intro hB3 hR3)); (have HHO3 := Lib.hid (HO1.out.trans hO3)); clear hB3 hR3 hO3) | fail)
            go_roundw
            case rel =>
              refine ⟨i + 1, S2, by go_num, by omega, HH3.out.1, ?_, hS3, HHO3.out⟩
              have h := HH3.out.2
              rw [HTK.out, st_7]
              simp only [List.append_assoc] at h ⊢
              exact h
            case measure => simp [intOf]; omega
          have t7 : (k == 7) = false := by simpa using q7
          by_cases q4 : k = 4
          · subst q4
            have hcl := hc1 (by omega) (by omega)
            have hes := he1 rfl
            have h0c : 0 < cs.length := by omega
            obtain ⟨b0, o0, rfl, hrow⟩ := HRC.out.resolve_left (by omega)
            obtain ⟨ck, cn, ca2, cl2, cc2, ca, cl, cc, hnd, g0, g1, g2, g3⟩ := citem_at hrow HOLD.out 0 h0c
            simp only [Nat.zero_mul, Nat.add_zero] at g0 g1 g2 g3
            have hci0 : (0 : Int) < cs.length := by omega
            have hCC := HWC.out 0 h0c _ W1 hnd HOLD.out
            have hl0 := HLC.out 0 h0c
            have hz := bts_size (txtN cs[0])
            have hfin : ⟨#[119, 104, 105, 108, 101, 32]⟩ ++ bts (txtN cs[0]) ++ ⟨#[32, 123]⟩ = bts (askT ⟨#[119, 104, 105, 108, 101, 32]⟩ (fst cs) ⟨#[32, 123]⟩) := by
              rw [fst_eq h0c, lst_bts ⟨#[119, 104, 105, 108, 101, 32]⟩, lst_bts ⟨#[32, 123]⟩, bts_app, bts_app, ← lst_bts, ← lst_bts]
              unfold askT
              rw [List.append_assoc]
            have hle : (askT ⟨#[119, 104, 105, 108, 101, 32]⟩ (fst cs) ⟨#[32, 123]⟩).length ≤ 1600000 := ask_le _ _ _ (by decide) (by decide) (by rw [fst_eq h0c]; exact hl0)
            obtain ⟨C0, hC0⟩ : ∃ C, bts (txtN cs[0]) = C := ⟨_, rfl⟩
            rw [hC0] at hCC hfin hz
            have hn1 : 6 + C0.size ≤ 9223372036854775807 := by omega
            have hn2 : ¬ 9223372036854775807 < 6 + C0.size := by omega
            have hn3 : 6 + C0.size + 2 ≤ 9223372036854775807 := by omega
            have hn4 : ¬ 9223372036854775807 < 6 + C0.size + 2 := by omega
            have hL := fun w2 (hb2 : Below W1.heap.size W1 w2) => rline_rel b d S' (F ++ stL (ys.take i) d) (askT ⟨#[119, 104, 105, 108, 101, 32]⟩ (fst cs) ⟨#[32, 123]⟩) w2 (by rw [HC.out]; exact HB1.out.below hb2 HB1.out.lt) HRr.out hSr hle (by omega)
            rw [← hfin] at hL
            have HL := Lib.hid hL
            have HCC := Lib.hid hCC
            have HH0 := Lib.hid h0c
            have m3 : W1.cell? ⟨X, 3, none⟩ = some (.slice (some ⟨b0, o0, none⟩) cs.length c2) := HX1.out.cell 3
            clear hcl hL hCC hfin hC0 hz hl0 hle hnd hrow hc1 hx1 hx2 he1 h0c
            have HES := Lib.hid hes; clear hes
            go_upto_region 17 with (first | (go_at_call 27; (with_reducible refine HCC.out.mono ?_); rintro e w2 ⟨rfl, hb2⟩) | (go_at_call 13; (with_reducible refine (HL.out _ hb2).mono ?_); rintro e w3 ⟨rfl, S2, hB3, hR3, hS3, hO3⟩; (have HH3 := Lib.hid (And.intro hB3 hR3)); (have HHO3 := Lib.hid (HO1.out.trans ((Only.below hb2).trans hO3))); (have HX3 := Lib.hid ((HX1.out.below hb2 HX1.out.lt).only hO3 hXb)); clear hB3 hR3 hO3) | fail)
            have hold3 : Below w0.heap.size w0 w3 := HW.out.trans (HHO3.out.old hb0 HW.out.size)
            have n4 : w3.cell? ⟨X, 4, none⟩ = some (.slice a3 ts.length c3) := HX3.out.cell 4
            have hT2 := HT.out S2 _ w3 hold3 HH3.out.1 HH3.out.2 hS3
            have HT2 := Lib.hid hT2; clear hT2 hold3
            go_upto_region 18 with (first | (go_at_call 15; (with_reducible refine HT2.out.mono ?_); rintro e w4 ⟨rfl, S4, hB4, hR4, hS4, hO4⟩; (have HH4 := Lib.hid (And.intro hB4 hR4)); (have HX4 := Lib.hid (HX3.out.only hO4 hXb)); (have HHO4 := Lib.hid (HHO3.out.trans hO4)); clear hB4 hR4 hO4) | fail)
            have HL50 := rline_rel b d S4 (_) (lst ⟨#[125]⟩) w4 (HH4.out.1) HH4.out.2 hS4 (by rw [lst_len]; decide) (by omega)
            rw [← lst_bts] at HL50
            have HL5 := Lib.hid HL50; clear HL50
            go_wp2_with (first | (go_at_call 13; (with_reducible refine HL5.out.mono ?_); rintro e w5 ⟨rfl, S5, hB5, hR5, hS5, hO5⟩; (have HH5 := Lib.hid (And.intro hB5 hR5)); (have HHO5 := Lib.hid (HHO4.out.trans hO5)); clear hB5 hR5 hO5) | fail)
            go_roundw
            case rel =>
              refine ⟨i + 1, S5, by go_num, by omega, HH5.out.1, ?_, hS5, HHO5.out⟩
              have h := HH5.out.2
              have e : brT ts es d = stL ts (d + 1) ++ lnT d (lst tEnd) := by rw [HES.out]; unfold brT; simp
              rw [HTK.out, st_4, e]
              simp only [List.append_assoc] at h ⊢
              exact h
            case measure => simp [intOf]; omega
          have t4 : (k == 4) = false := by simpa using q4
          obtain rfl : k = 3 := by omega
          have hcl := hc1 (by omega) (by omega)
          have h0c : 0 < cs.length := by omega
          obtain ⟨b0, o0, rfl, hrow⟩ := HRC.out.resolve_left (by omega)
          obtain ⟨ck, cn, ca2, cl2, cc2, ca, cl, cc, hnd, g0, g1, g2, g3⟩ := citem_at hrow HOLD.out 0 h0c
          simp only [Nat.zero_mul, Nat.add_zero] at g0 g1 g2 g3
          have hci0 : (0 : Int) < cs.length := by omega
          have hCC := HWC.out 0 h0c _ W1 hnd HOLD.out
          have hl0 := HLC.out 0 h0c
          have hz := bts_size (txtN cs[0])
          have hfin : ⟨#[105, 102, 32]⟩ ++ bts (txtN cs[0]) ++ ⟨#[32, 123]⟩ = bts (askT ⟨#[105, 102, 32]⟩ (fst cs) ⟨#[32, 123]⟩) := by
            rw [fst_eq h0c, lst_bts ⟨#[105, 102, 32]⟩, lst_bts ⟨#[32, 123]⟩, bts_app, bts_app, ← lst_bts, ← lst_bts]
            unfold askT
            rw [List.append_assoc]
          have hle : (askT ⟨#[105, 102, 32]⟩ (fst cs) ⟨#[32, 123]⟩).length ≤ 1600000 := ask_le _ _ _ (by decide) (by decide) (by rw [fst_eq h0c]; exact hl0)
          obtain ⟨C0, hC0⟩ : ∃ C, bts (txtN cs[0]) = C := ⟨_, rfl⟩
          rw [hC0] at hCC hfin hz
          have hn1 : 3 + C0.size ≤ 9223372036854775807 := by omega
          have hn2 : ¬ 9223372036854775807 < 3 + C0.size := by omega
          have hn3 : 3 + C0.size + 2 ≤ 9223372036854775807 := by omega
          have hn4 : ¬ 9223372036854775807 < 3 + C0.size + 2 := by omega
          have hL := fun w2 (hb2 : Below W1.heap.size W1 w2) => rline_rel b d S' (F ++ stL (ys.take i) d) (askT ⟨#[105, 102, 32]⟩ (fst cs) ⟨#[32, 123]⟩) w2 (by rw [HC.out]; exact HB1.out.below hb2 HB1.out.lt) HRr.out hSr hle (by omega)
          rw [← hfin] at hL
          have HL := Lib.hid hL
          have HCC := Lib.hid hCC
          have HH0 := Lib.hid h0c
          have m3 : W1.cell? ⟨X, 3, none⟩ = some (.slice (some ⟨b0, o0, none⟩) cs.length c2) := HX1.out.cell 3
          clear hcl hL hCC hfin hC0 hz hl0 hle hnd hrow hc1 hx1 hx2 he1 h0c
          go_upto_region 21 with (first | (go_at_call 27; (with_reducible refine HCC.out.mono ?_); rintro e w2 ⟨rfl, hb2⟩) | (go_at_call 13; (with_reducible refine (HL.out _ hb2).mono ?_); rintro e w3 ⟨rfl, S2, hB3, hR3, hS3, hO3⟩; (have HH3 := Lib.hid (And.intro hB3 hR3)); (have HHO3 := Lib.hid (HO1.out.trans ((Only.below hb2).trans hO3))); (have HX3 := Lib.hid ((HX1.out.below hb2 HX1.out.lt).only hO3 hXb)); clear hB3 hR3 hO3) | fail)
          have hold3 : Below w0.heap.size w0 w3 := HW.out.trans (HHO3.out.old hb0 HW.out.size)
          have n4 : w3.cell? ⟨X, 4, none⟩ = some (.slice a3 ts.length c3) := HX3.out.cell 4
          have hT2 := HT.out S2 _ w3 hold3 HH3.out.1 HH3.out.2 hS3
          have HT2 := Lib.hid hT2; clear hT2 hold3
          go_upto_region 22 with (first | (go_at_call 15; (with_reducible refine HT2.out.mono ?_); rintro e w4 ⟨rfl, S4, hB4, hR4, hS4, hO4⟩; (have HH4 := Lib.hid (And.intro hB4 hR4)); (have HX4 := Lib.hid (HX3.out.only hO4 hXb)); (have HHO4 := Lib.hid (HHO3.out.trans hO4)); clear hB4 hR4 hO4) | fail)
          have n5 : w4.cell? ⟨X, 5, none⟩ = some (.slice a4 es.length c4) := HX4.out.cell 5
          clear c0 k0 k1 k2 k3 k4 k5 m0 m3 n4 hn1 hn2 hn3 hn4 hci0
          by_cases hes : es = []
          · have hl0 : decide (0 < es.length) = false := by rw [hes]; simp
            have HES := Lib.hid hes; clear hes
            have HL50 := rline_rel b d S4 (_) (lst ⟨#[125]⟩) w4 (HH4.out.1) HH4.out.2 hS4 (by rw [lst_len]; decide) (by omega)
            rw [← lst_bts] at HL50
            have HL5 := Lib.hid HL50; clear HL50
            go_wp2_with (first | (go_at_call 13; (with_reducible refine HL5.out.mono ?_); rintro e w5 ⟨rfl, S5, hB5, hR5, hS5, hO5⟩; (have HH5 := Lib.hid (And.intro hB5 hR5)); (have HHO5 := Lib.hid (HHO4.out.trans hO5)); clear hB5 hR5 hO5) | fail)
            go_roundw
            case rel =>
              refine ⟨i + 1, S5, by go_num, by omega, HH5.out.1, ?_, hS5, HHO5.out⟩
              have h := HH5.out.2
              have e : brT ts es d = stL ts (d + 1) ++ lnT d (lst tEnd) := by rw [HES.out]; unfold brT; simp
              rw [HTK.out, st_3, e]
              simp only [List.append_assoc] at h ⊢
              exact h
            case measure => simp [intOf]; omega
          · have hl0 : decide (0 < es.length) = true := by have := List.length_pos_iff.2 hes; simpa using this
            have HES := Lib.hid hes; clear hes
            have HL50 := rline_rel b d S4 (_) (lst ⟨#[125, 32, 101, 108, 115, 101, 32, 123]⟩) w4 (HH4.out.1) HH4.out.2 hS4 (by rw [lst_len]; decide) (by omega)
            rw [← lst_bts] at HL50
            have HL5 := Lib.hid HL50; clear HL50
            go_upto_region 24 with (first | (go_at_call 13; (with_reducible refine HL5.out.mono ?_); rintro e w5 ⟨rfl, S5, hB5, hR5, hS5, hO5⟩; (have HH5 := Lib.hid (And.intro hB5 hR5)); (have HX5 := Lib.hid (HX4.out.only hO5 hXb)); (have HHO5 := Lib.hid (HHO4.out.trans hO5)); clear hB5 hR5 hO5) | fail)
            have p5 : w5.cell? ⟨X, 5, none⟩ = some (.slice a4 es.length c4) := HX5.out.cell 5
            have hold5 : Below w0.heap.size w0 w5 := HW.out.trans (HHO5.out.old hb0 HW.out.size)
            have hE2 := HE.out S5 _ w5 hold5 HH5.out.1 HH5.out.2 hS5
            have HE2 := Lib.hid hE2; clear hE2 hold5
            go_upto_region 25 with (first | (go_at_call 15; (with_reducible refine HE2.out.mono ?_); rintro e w6 ⟨rfl, S6, hB6, hR6, hS6, hO6⟩; (have HH6 := Lib.hid (And.intro hB6 hR6)); (have HHO6 := Lib.hid (HHO5.out.trans hO6)); clear hB6 hR6 hO6) | fail)
            have HL70 := rline_rel b d S6 (_) (lst ⟨#[125]⟩) w6 (HH6.out.1) HH6.out.2 hS6 (by rw [lst_len]; decide) (by omega)
            rw [← lst_bts] at HL70
            have HL7 := Lib.hid HL70; clear HL70
            go_wp2_with (first | (go_at_call 13; (with_reducible refine HL7.out.mono ?_); rintro e w7 ⟨rfl, S7, hB7, hR7, hS7, hO7⟩; (have HH7 := Lib.hid (And.intro hB7 hR7)); (have HHO7 := Lib.hid (HHO6.out.trans hO7)); clear hB7 hR7 hO7) | fail)
            go_roundw
            case rel =>
              refine ⟨i + 1, S7, by go_num, by omega, HH7.out.1, ?_, hS7, HHO7.out⟩
              have h := HH7.out.2
              have e : brT ts es d = stL ts (d + 1) ++ ((lnT d (lst tElse) ++ stL es (d + 1)) ++ lnT d (lst tEnd)) := by
                cases es with
                | nil => exact absurd rfl HES.out
                | cons e r => unfold brT; rfl
              rw [HTK.out, st_3, e]
              simp only [List.append_assoc] at h ⊢
              exact h
            case measure => simp [intOf]; omega
      · obtain rfl : i = ys.length := by omega
        go_wp2_with fail
        go_end0
        refine ⟨rfl, S', by rw [HC.out]; exact HBr.out, ?_, hSr, HOr.out⟩
        have h := HRr.out
        rw [List.take_length] at h
        exact h
end Go.Proofs.YtbchibmmkmldiaaGreatDoor

/-
  The project's lines (print's lines): proved is what its methods write behind what is written, and that nothing else that lay is turned.
-/
namespace Go.Proofs.YtbchibmmkmldiaaGreatDoor
open Go Go.RowKit

theorem lies_l : Lies 45 (2 + ([.int .i64 0] : List Value).length) := by unfold Lies; kernel_rfl
theorem l_ne : 45 ≠ 5 := by decide
/-- What a line's parts come to. -/
def catT : List ByteArray → List UInt8
  | [] => []
  | s :: r => lst s ++ catT r
theorem catT_app : ∀ (l m : List ByteArray), catT (l ++ m) = catT l ++ catT m
  | [], m => by simp [catT]
  | x :: r, m => by rw [List.cons_append, catT, catT, catT_app r m, List.append_assoc]
theorem catT_take {l : List ByteArray} {i : Nat} (hi : i < l.length) : catT (l.take (i + 1)) = catT (l.take i) ++ lst l[i] := by
  rw [← List.take_append_getElem hi, catT_app]
  simp [catT]
theorem catT_le : ∀ (l : List ByteArray) (i : Nat), (catT (l.take i)).length ≤ (catT l).length
  | [], i => by simp
  | x :: r, 0 => by simp [catT]
  | x :: r, i + 1 => by
    have := catT_le r i
    simp only [List.take_succ_cons, catT, List.length_append]
    omega

theorem Bd.slice {T : TypeId} {rest : List Value} {B0 b : Nat} {l : List UInt8} {w : World} (h : Bd T rest B0 b l w) : ∃ a c, w.cell? ⟨b, 1, none⟩ = some (.slice a l.length c) := by
  rcases h with ⟨-, rfl, h⟩ | ⟨-, v, h1, h2, -, h4⟩
  · exact ⟨_, _, h.cell 1⟩
  · have hc : w.cell? ⟨b, 1, none⟩ = some v := h1.cell 1
    rcases h2.2 with ⟨rfl, hz⟩ | ⟨g, cap, cur, rfl, -⟩
    · rw [hc]
      exact ⟨none, 0, by rw [hz]⟩
    · exact ⟨_, _, hc⟩
set_option maxRecDepth 100000 in
set_option maxHeartbeats 4000000 in
theorem len_any (T : TypeId) (rest : List Value) (B0 b : Nat) (l : List UInt8) (w : World) (h : Bd T rest B0 b l w) :
    Calls Tryz.prog 10 #[.pointer (some ⟨b, 0, none⟩)] w (fun e w' => e = .returned (.int .i64 l.length) ∧ w' = w) := by
  obtain ⟨a, c, c1⟩ := h.slice
  clear h
  go_enter Tryz.func10, Tryz.ntmps10
  go_wp2
  go_ret
  exact ⟨rfl, rfl⟩

set_option maxRecDepth 100000 in
set_option maxHeartbeats 4000000 in
theorem lend_any (T : TypeId) (rest : List Value) (B0 b : Nat) (l : List UInt8) (s : ByteArray) (w : World) (hT : Lies T (2 + rest.length)) (hT8 : T ≠ 5) (h : Bd T rest B0 b l w) (hlen : l.length + s.size + 1 ≤ 140737488355328) (hBw : B0 ≤ w.heap.size) :
    Calls Tryz.prog 69 #[.pointer (some ⟨b, 0, none⟩), .string s] w (Wrote T rest B0 b (l ++ (lst s ++ [10])) w) := by
  have HC := Lib.hid (ws_any T rest B0 b l s w hT hT8 h (by omega) hBw)
  clear h
  go_enter Tryz.func69, Tryz.ntmps69
  go_wp2_with fail
  refine HC.out.mono ?_
  rintro e w1 ⟨rfl, h1, hk1⟩
  have HC1 := Lib.hid (ws_any T rest B0 b _ ⟨#[10]⟩ w1 hT hT8 (.inr h1) (by simp [show (⟨#[10]⟩ : ByteArray).size = 1 from rfl, show s.data.size = s.size from rfl]; omega) (Nat.le_trans hBw hk1.size))
  have HK1 := Lib.hid hk1; clear hk1 h1 HC
  go_wp2_with fail
  refine HC1.out.mono ?_
  rintro e w2 ⟨rfl, h2, hk2⟩
  have H2 := Lib.hid h2; clear h2
  have HK2 := Lib.hid (HK1.out.trans hk2); clear hk2 HC1 HK1
  go_wp2_with fail
  go_end0
  refine ⟨rfl, ?_, HK2.out⟩
  have h := H2.out
  rw [List.append_assoc] at h
  exact .inr h

/-- The parts of a line, handed over as a slice. -/
def PartsIn (w : World) (b : Nat) (ss : List ByteArray) (v : Value) : Prop := (ss = [] ∧ v = .slice none 0 0) ∨ ∃ g, g ≠ b ∧ v = .slice (some ⟨g, 0, none⟩) ss.length ss.length ∧ Blk w g (ss.map Value.string).toArray 9
theorem PartsIn.open {w : World} {B0 b : Nat} {ss : List ByteArray} {v : Value} (h : PartsIn w b ss v) : ∃ a, v = .slice a ss.length ss.length ∧ ∀ w', Kp B0 b w w' → ∀ (i : Nat) (hi : i < ss.length), ∃ g, a = some ⟨g, 0, none⟩ ∧ w'.cell? ⟨g, i, none⟩ = some (.string ss[i]) := by
  rcases h with ⟨rfl, rfl⟩ | ⟨g, hg, rfl, hB⟩
  · exact ⟨none, rfl, fun _ _ i hi => absurd hi (by simp)⟩
  · refine ⟨_, rfl, fun w' hk i hi => ⟨g, rfl, ?_⟩⟩
    have := (hB.kp hk hg (by decide)).cell i
    simpa [hi] using this

set_option maxRecDepth 100000 in
set_option maxHeartbeats 4000000 in
theorem begin_any (B0 b d : Nat) (ss : List ByteArray) (v : Value) (l : List UInt8) (w : World) (h : Bd 45 [.int .i64 d] B0 b l w) (hp : PartsIn w b ss v) (hd : d ≤ 8192) (hss : ss.length ≤ 1000) (hlen : l.length + 2 * d + (catT ss).length ≤ 140737488355328) (hBw : B0 ≤ w.heap.size) :
    Calls Tryz.prog 68 #[.pointer (some ⟨b, 0, none⟩), v] w (Wrote 45 [.int .i64 d] B0 b (l ++ (ind d ++ catT ss)) w) := by
  obtain ⟨a, rfl, hcell⟩ := hp.open (B0 := B0)
  clear hp
  have c2 : w.cell? ⟨b, 2, none⟩ = some (.int .i64 d) := by
    rcases h with ⟨-, -, h⟩ | ⟨-, v, h1, -⟩
    · exact h.cell 2
    · exact h1.cell 2
  have HCELL := Lib.hid hcell; clear hcell
  have HW := Lib.hid (fun l s w h hl hb => ws_any 45 [.int .i64 d] B0 b l s w lies_l l_ne h hl hb)
  have H0 := Lib.hid h; clear h
  have HK0 := Lib.hid (Kp.refl B0 b w)
  have HLE := Lib.hid (catT_le ss)
  go_enter Tryz.func68, Tryz.ntmps68
  go_upto_block 0 with fail
  go_cut [10] (fun _ wx => Bd 45 [.int .i64 d] B0 b (l ++ ind d) wx ∧ Kp B0 b w wx)
  case first =>
    go_wp2_with fail
    go_loopw [10] (fun x wr => ∃ i : Nat, x = .int .i64 i ∧ i ≤ d ∧ Bd 45 [.int .i64 d] B0 b (l ++ ind i) wr ∧ Kp B0 b w wr) (fun x _ => d - (intOf x).toNat)
    case atStart => exact ⟨0, rfl, by omega, by simp only [ind, List.append_nil]; exact H0.out, HK0.out⟩
    case round =>
      obtain ⟨i, rfl, hi, hBr, hKr⟩ := hrel
      clear c2
      have HBr := Lib.hid hBr; clear hBr
      have HKr := Lib.hid hKr; clear hKr
      by_cases hlt : i < d
      · have hbi : (i : Int) + 1 ≤ 9223372036854775807 := by omega
        have HC := Lib.hid (HW.out (l ++ ind i) ⟨#[32, 32]⟩ wr HBr.out (by rw [List.length_append, ind_len, show (⟨#[32, 32]⟩ : ByteArray).size = 2 from rfl]; omega) (Nat.le_trans hBw HKr.out.size))
        go_wp2_with fail
        refine HC.out.mono ?_
        rintro e w2 ⟨rfl, h2, hk2⟩
        have H2 := Lib.hid h2; clear h2
        have HK2 := Lib.hid (HKr.out.trans hk2); clear hk2
        go_wp2_with fail
        go_roundw
        case rel =>
          refine ⟨i + 1, by go_num, by omega, ?_, HK2.out⟩
          have h := H2.out
          rw [List.append_assoc, show ind i ++ (⟨#[32, 32]⟩ : ByteArray).data.toList = ind (i + 1) from ind_out i] at h
          exact .inr h
        case measure => simp [intOf]; omega
      · obtain rfl : i = d := by omega
        go_wp2_with fail
        go_meet
        exact ⟨HBr.out, HKr.out⟩
  case rest =>
    obtain ⟨hB3, hK3⟩ := hcut
    clear c2 H0 HK0
    have HB3 := Lib.hid hB3; clear hB3
    have HK3 := Lib.hid hK3; clear hK3
    go_upto_block 2 with fail
    go_wp2_with fail
    go_loopw [20] (fun x wr => ∃ i : Nat, x = .int .i64 i ∧ i ≤ ss.length ∧ Bd 45 [.int .i64 d] B0 b (l ++ (ind d ++ catT (ss.take i))) wr ∧ Kp B0 b w wr) (fun x _ => ss.length - (intOf x).toNat)
    case atStart => exact ⟨0, rfl, by omega, by simp only [List.take_zero, catT, List.append_nil]; exact HB3.out, HK3.out⟩
    case round =>
      obtain ⟨i, rfl, hi, hBr, hKr⟩ := hrel
      have HBr := Lib.hid hBr; clear hBr
      have HKr := Lib.hid hKr; clear hKr
      by_cases hlt : i < ss.length
      · have hbi : (i : Int) + 1 ≤ 9223372036854775807 := by omega
        obtain ⟨g, rfl, c3⟩ := HCELL.out wr HKr.out i hlt
        have HTK := Lib.hid (catT_take hlt)
        have HC := Lib.hid (HW.out (l ++ (ind d ++ catT (ss.take i))) ss[i] wr HBr.out (by
          have h1 := HLE.out (i + 1)
          rw [HTK.out, List.length_append, lst_len] at h1
          rw [List.length_append, List.length_append, ind_len]; omega) (Nat.le_trans hBw HKr.out.size))
        go_wp2_with fail
        refine HC.out.mono ?_
        rintro e w2 ⟨rfl, h2, hk2⟩
        have H2 := Lib.hid h2; clear h2
        have HK2 := Lib.hid (HKr.out.trans hk2); clear hk2
        go_wp2_with fail
        go_roundw
        case rel =>
          refine ⟨i + 1, by go_num, by omega, ?_, HK2.out⟩
          have h := H2.out
          rw [List.append_assoc, List.append_assoc] at h
          rw [HTK.out]
          exact .inr h
        case measure => simp [intOf]; omega
      · obtain rfl : i = ss.length := by omega
        go_wp2_with fail
        go_end0
        refine ⟨rfl, ?_, HKr.out⟩
        have h := HBr.out
        rw [List.take_length] at h
        exact h

set_option maxRecDepth 100000 in
set_option maxHeartbeats 4000000 in
theorem lline_any (B0 b d : Nat) (ss : List ByteArray) (v : Value) (l : List UInt8) (w : World) (h : Bd 45 [.int .i64 d] B0 b l w) (hp : PartsIn w b ss v) (hd : d ≤ 8192) (hss : ss.length ≤ 1000) (hlen : l.length + 2 * d + (catT ss).length + 1 ≤ 140737488355328) (hBw : B0 ≤ w.heap.size) :
    Calls Tryz.prog 44 #[.pointer (some ⟨b, 0, none⟩), v] w (Wrote 45 [.int .i64 d] B0 b (l ++ lnT d (catT ss)) w) := by
  have HC := Lib.hid (begin_any B0 b d ss v l w h hp hd hss (by omega) hBw)
  clear h hp
  go_enter Tryz.func44, Tryz.ntmps44
  go_wp2_with fail
  refine HC.out.mono ?_
  rintro e w1 ⟨rfl, h1, hk1⟩
  have HC1 := Lib.hid (lend_any 45 [.int .i64 d] B0 b _ ⟨#[]⟩ w1 lies_l l_ne h1 (by rw [List.length_append, List.length_append, ind_len, show (⟨#[]⟩ : ByteArray).size = 0 from rfl]; omega) (Nat.le_trans hBw hk1.size))
  have HK1 := Lib.hid hk1; clear hk1 h1 HC
  go_wp2_with fail
  refine HC1.out.mono ?_
  rintro e w2 ⟨rfl, h2, hk2⟩
  have H2 := Lib.hid h2; clear h2
  have HK2 := Lib.hid (HK1.out.trans hk2); clear hk2 HC1 HK1
  go_wp2_with fail
  go_end0
  refine ⟨rfl, ?_, HK2.out⟩
  have h := H2.out
  rw [List.append_assoc, List.append_assoc] at h
  exact h
end Go.Proofs.YtbchibmmkmldiaaGreatDoor

/-
  The project's lines that give a value or ask a condition (print's given, asked): proved is what they write.
-/
namespace Go.Proofs.YtbchibmmkmldiaaGreatDoor
open Go Go.RowKit

set_option maxRecDepth 100000 in
set_option maxHeartbeats 4000000 in
theorem given_any (d : Nat) (w0 : World) (B0 b : Nat) (hB0 : w0.heap.size ≤ B0) (x : Nd) (hty : x.ty = .E) (hx : WExpr 45 [.int .i64 d] w0 B0 b x) (hle : (txtN x).length ≤ cstN x) (us : List Value) (l : List UInt8) (w : World) (hin : NdIn w0 x us) (hw : Below w0.heap.size w0 w) (h : Bd 45 [.int .i64 d] B0 b l w) (hlen : l.length + cstN x + 10 ≤ 1099511627776) :
    Calls Tryz.prog 71 #[.pointer (some ⟨b, 0, none⟩), .agg us.toArray] w (Wrote 45 [.int .i64 d] B0 b (l ++ (lst tEq ++ (txtN x ++ (lst tSemi ++ [10])))) w) := by
  have hBw : B0 ≤ w.heap.size := Nat.le_trans h.base (Nat.le_of_lt h.size)
  have hnd := hin.len
  rw [hty] at hnd
  obtain ⟨v0, v1, v2, v3, rfl⟩ : ∃ a b c d, us = [a, b, c, d] := by
    match us, hnd with
    | [a, b, c, d], _ => exact ⟨_, _, _, _, rfl⟩
  obtain ⟨k, n, s, a, len, c, rfl, rfl, rfl, rfl⟩ := NdIn.formE hty hin
  change Calls _ _ #[_, .agg #[.int .i64 k, .int .i64 n, .string s, .slice a len c]] w _
  obtain ⟨W1, hW1⟩ : ∃ W1, w.alloc (.cells #[.int .i64 k, .int .i64 n, .string s, .slice a len c] 36) = W1 := ⟨_, rfl⟩
  obtain ⟨X, hX⟩ : ∃ X, w.heap.size = X := ⟨_, rfl⟩
  have hX1 : Blk W1 X #[.int .i64 k, .int .i64 n, .string s, .slice a len c] 36 := by rw [← hW1, ← hX]; exact Blk.new w _ _
  have h1 : Bd 45 [.int .i64 d] B0 b l W1 := by rw [← hW1]; exact h.alloc _
  have hk1 : Kp B0 b w W1 := by rw [← hW1]; exact (Kp.refl _ _ _).alloc hBw _
  have hXb : X ≠ b := by have := h.size; omega
  have hB1 : B0 ≤ W1.heap.size := Nat.le_trans hBw hk1.size
  have HC := Lib.hid (ws_any 45 [.int .i64 d] B0 b l tEq W1 lies_l l_ne h1 (by rw [show tEq.size = 3 from rfl]; omega) hB1)
  have HX1 := Lib.hid hX1; clear hX1
  have HK1 := Lib.hid hk1; clear hk1 h1 h
  have HIN := Lib.hid hin; clear hin
  have HWE := Lib.hid hx; clear hx
  have HW := Lib.hid hw; clear hw
  have HW1 := Lib.hid hW1; clear hW1
  have HXX := Lib.hid hX; clear hX
  go_enter Tryz.func71, Tryz.ntmps71
  go_upto_region 1 with fail
  rw [HW1.out, HXX.out]
  clear HW1
  go_wp2_with fail
  refine HC.out.mono ?_
  rintro e w2 ⟨rfl, h2, hk2⟩
  have hX3 := HX1.out.kp hk2 hXb (by decide)
  have hk3 := HK1.out.trans hk2
  have m0 : w2.cell? ⟨X, 0, none⟩ = some (.int .i64 k) := hX3.cell 0
  have m1 : w2.cell? ⟨X, 1, none⟩ = some (.int .i64 n) := hX3.cell 1
  have m2 : w2.cell? ⟨X, 2, none⟩ = some (.string s) := hX3.cell 2
  have m3 : w2.cell? ⟨X, 3, none⟩ = some (.slice a len c) := hX3.cell 3
  have HC2 := Lib.hid (HWE.out _ _ w2.drew HIN.out (hk3.drew.old HW.out hB0) (Bd.drew (.inr h2)) (by rw [List.length_append, show tEq.data.toList.length = 3 from rfl]; omega))
  have HK3 := Lib.hid hk3; clear hk3 hk2 h2 HC hX3 HX1 HK1
  go_upto_region 2 with fail
  go_region_with (go_at_call 17; (with_reducible refine HC2.out.mono ?_); rintro e w3 ⟨rfl, h3, hk4⟩; (have HH3 := Lib.hid h3); (have HHK := Lib.hid (HK3.out.drew.trans hk4)); clear h3 hk4)
  have h3 := HH3.out
  have hk4 := HHK.out
  have HC3 := Lib.hid (lend_any 45 [.int .i64 d] B0 b _ tSemi w3 lies_l l_ne h3 (by rw [List.length_append, List.length_append, show tEq.data.toList.length = 3 from rfl, show tSemi.size = 1 from rfl]; omega) (Nat.le_trans hBw hk4.size))
  have HK4 := Lib.hid hk4; clear hk4 h3 HC2 HK3 m0 m1 m2 m3 HH3 HHK
  go_wp2_with fail
  refine HC3.out.mono ?_
  rintro e w4 ⟨rfl, h4, hk5⟩
  have H4 := Lib.hid h4; clear h4
  have HK5 := Lib.hid (HK4.out.trans hk5); clear hk5 HC3
  go_wp2_with fail
  go_end0
  refine ⟨rfl, ?_, HK5.out⟩
  have h := H4.out
  rw [List.append_assoc, List.append_assoc] at h
  exact h

set_option maxRecDepth 100000 in
set_option maxHeartbeats 4000000 in
theorem asked_any (d : Nat) (hd : d ≤ 8192) (w0 : World) (B0 b : Nat) (hB0 : w0.heap.size ≤ B0) (x : Nd) (hty : x.ty = .C) (hx : WCond 45 [.int .i64 d] w0 B0 b x) (hle : (txtN x).length ≤ cstN x) (word behind : ByteArray) (hwd : word.size ≤ 10) (hbe : behind.size ≤ 10) (us : List Value) (l : List UInt8) (w : World) (hin : NdIn w0 x us) (hw : Below w0.heap.size w0 w) (h : Bd 45 [.int .i64 d] B0 b l w) (hlen : l.length + cstN x + 20000 ≤ 1099511627776) :
    Calls Tryz.prog 72 #[.pointer (some ⟨b, 0, none⟩), .string word, .agg us.toArray, .string behind] w (Wrote 45 [.int .i64 d] B0 b (l ++ lnT d (askT word (txtN x) behind)) w) := by
  have hBw : B0 ≤ w.heap.size := Nat.le_trans h.base (Nat.le_of_lt h.size)
  have hnd := hin.len
  rw [hty] at hnd
  obtain ⟨v0, v1, v2, v3, rfl⟩ : ∃ a b c d, us = [a, b, c, d] := by
    match us, hnd with
    | [a, b, c, d], _ => exact ⟨_, _, _, _, rfl⟩
  obtain ⟨k, n, a2, len2, c2, a, len, c, rfl, rfl, rfl, rfl⟩ := NdIn.formC hty hin
  change Calls _ _ #[_, _, .agg #[.int .i64 k, .int .i64 n, .slice a2 len2 c2, .slice a len c], _] w _
  obtain ⟨W1, hW1⟩ : ∃ W1, w.alloc (.cells #[.int .i64 k, .int .i64 n, .slice a2 len2 c2, .slice a len c] 82) = W1 := ⟨_, rfl⟩
  obtain ⟨X, hX⟩ : ∃ X, w.heap.size = X := ⟨_, rfl⟩
  have hX1 : Blk W1 X #[.int .i64 k, .int .i64 n, .slice a2 len2 c2, .slice a len c] 82 := by rw [← hW1, ← hX]; exact Blk.new w _ _
  have h1 : Bd 45 [.int .i64 d] B0 b l W1 := by rw [← hW1]; exact h.alloc _
  have hk1 : Kp B0 b w W1 := by rw [← hW1]; exact (Kp.refl _ _ _).alloc hBw _
  have hXb : X ≠ b := by have := h.size; omega
  have hbs : b < w.heap.size := h.size
  have hB1 : B0 ≤ W1.heap.size := Nat.le_trans hBw hk1.size
  have hs1 : w.heap.size ≤ W1.heap.size := hk1.size
  have HX1 := Lib.hid hX1; clear hX1
  have HK1 := Lib.hid hk1; clear hk1 h
  have H1 := Lib.hid h1; clear h1
  have HIN := Lib.hid hin; clear hin
  have HWE := Lib.hid hx; clear hx
  have HW := Lib.hid hw; clear hw
  have HW1 := Lib.hid hW1; clear hW1
  have HXX := Lib.hid hX; clear hX
  have ec : catT [word] = lst word := by simp [catT]
  go_enter Tryz.func72, Tryz.ntmps72
  go_upto_region 1 with fail
  rw [HW1.out, HXX.out]
  clear HW1
  go_wp2_with fail
  obtain ⟨W2, hW2⟩ : ∃ W2, W1.alloc (.cells #[.string word] 9) = W2 := ⟨_, rfl⟩
  have hp : PartsIn W2 b [word] (.slice (some ⟨W1.heap.size, 0, none⟩) 1 1) := .inr ⟨W1.heap.size, by omega, rfl, by rw [← hW2]; exact Blk.new W1 _ _⟩
  have h2 : Bd 45 [.int .i64 d] B0 b l W2 := by rw [← hW2]; exact H1.out.alloc _
  have hk2 : Kp B0 b w W2 := by rw [← hW2]; exact HK1.out.alloc hB1 _
  have hX2 : Blk W2 X #[.int .i64 k, .int .i64 n, .slice a2 len2 c2, .slice a len c] 82 := by rw [← hW2]; exact HX1.out.alloc _
  have HC := Lib.hid (begin_any B0 b d [word] _ l W2 h2 hp hd (by simp) (by rw [ec, lst_len]; omega) (Nat.le_trans hBw hk2.size))
  have HX2 := Lib.hid hX2; clear hX2 HX1
  have HK2 := Lib.hid hk2; clear hk2 h2 hp HK1 H1
  rw [hW2]
  clear hW2
  refine HC.out.mono ?_
  rintro e w2 ⟨rfl, h2, hk2⟩
  have hX3 := HX2.out.kp hk2 hXb (by decide)
  have hk3 := HK2.out.trans hk2
  have m0 : w2.cell? ⟨X, 0, none⟩ = some (.int .i64 k) := hX3.cell 0
  have m1 : w2.cell? ⟨X, 1, none⟩ = some (.int .i64 n) := hX3.cell 1
  have m2 : w2.cell? ⟨X, 2, none⟩ = some (.slice a2 len2 c2) := hX3.cell 2
  have m3 : w2.cell? ⟨X, 3, none⟩ = some (.slice a len c) := hX3.cell 3
  have HC2 := Lib.hid (HWE.out _ _ w2.drew HIN.out (hk3.drew.old HW.out hB0) h2.drew (by rw [List.length_append, List.length_append, ind_len, ec, lst_len]; omega))
  have HK3 := Lib.hid hk3; clear hk3 hk2 h2 HC hX3 HX2 HK2
  go_upto_region 2 with fail
  go_region_with (go_at_call 87; (with_reducible refine HC2.out.mono ?_); rintro e w3 ⟨rfl, h3, hk4⟩; (have HH3 := Lib.hid h3); (have HHK := Lib.hid (HK3.out.drew.trans hk4)); clear h3 hk4)
  have h3 := HH3.out
  have hk4 := HHK.out
  have HC3 := Lib.hid (lend_any 45 [.int .i64 d] B0 b _ behind w3 lies_l l_ne h3 (by rw [List.length_append, List.length_append, List.length_append, ind_len, ec, lst_len]; omega) (Nat.le_trans hBw hk4.size))
  have HK4 := Lib.hid hk4; clear hk4 h3 HC2 HK3 m0 m1 m2 m3 HH3 HHK
  go_wp2_with fail
  refine HC3.out.mono ?_
  rintro e w4 ⟨rfl, h4, hk5⟩
  have H4 := Lib.hid h4; clear h4
  have HK5 := Lib.hid (HK4.out.trans hk5); clear hk5 HC3
  go_wp2_with fail
  go_end0
  refine ⟨rfl, ?_, HK5.out⟩
  have h := H4.out
  rw [ec] at h
  unfold lnT askT
  simp only [List.append_assoc] at h ⊢
  exact h
end Go.Proofs.YtbchibmmkmldiaaGreatDoor

/-
  The project's rows of statements (print's block, stmts, branches): proved is what they write, where each statement of the row writes its text.
-/
namespace Go.Proofs.YtbchibmmkmldiaaGreatDoor
open Go Go.RowKit

/-- A statement writes its text; a row of statements writes its texts. -/
def WStmt (w0 : World) (B0 b d : Nat) (x : Nd) : Prop := ∀ us l w, NdIn w0 x us → Below w0.heap.size w0 w → Bd 45 [.int .i64 d] B0 b l w → l.length + 2097152 * cntS x ≤ 137438953472 →
  Calls Tryz.prog 46 #[.pointer (some ⟨b, 0, none⟩), .agg us.toArray] w (Wrote 45 [.int .i64 d] B0 b (l ++ stT x d) w)
def WList (w0 : World) (B0 b d : Nat) (xs : List Nd) : Prop := ∀ v l w, SlIn w0 .S xs v → Below w0.heap.size w0 w → Bd 45 [.int .i64 d] B0 b l w → l.length + 2097152 * cntL xs ≤ 137438953472 →
  Calls Tryz.prog 21 #[.pointer (some ⟨b, 0, none⟩), v] w (Wrote 45 [.int .i64 d] B0 b (l ++ stL xs d) w)
theorem Bd.rest {T : TypeId} {u u' : Value} {B0 b : Nat} {l : List UInt8} {w : World} (h : Bd T [u] B0 b l w) : Bd T [u'] B0 b l (w.setCell ⟨b, 2, none⟩ u') := by
  rcases h with ⟨h1, h2, h3⟩ | ⟨h1, v, h2, h3, h4, h5⟩
  · exact .inl ⟨h1, h2, h3.set 2 u'⟩
  · exact .inr ⟨h1, v, h2.set 2 u', own_set_other h3 h4, h4, h5⟩
theorem Bd.cell2 {T : TypeId} {u : Value} {B0 b : Nat} {l : List UInt8} {w : World} (h : Bd T [u] B0 b l w) : w.cell? ⟨b, 2, none⟩ = some u ∧ w.frozen? ⟨b, 2, none⟩ = false := by
  rcases h with ⟨-, -, h⟩ | ⟨-, v, h, -⟩
  · exact ⟨h.cell 2, h.free 2⟩
  · exact ⟨h.cell 2, h.free 2⟩
theorem Kp.set {B0 b : Nat} (w : World) (hB : B0 ≤ b) (o : Nat) (u : Value) : Kp B0 b w (w.setCell ⟨b, o, none⟩ u) := ⟨(Below.refl B0 w).setCell (p := ⟨b, o, none⟩) hB _, (Lib.OthersKept.refl _ _ w).setCell ⟨b, o, none⟩ rfl _⟩

/-- A line whose parts are laid ahead of it; likewise the beginning of a line. -/
theorem lineL_any (ss : List ByteArray) (B0 b d : Nat) (l : List UInt8) (W : World) (h : Bd 45 [.int .i64 d] B0 b l W) (hd : d ≤ 8192) (hss : ss.length ≤ 1000) (hlen : l.length + 2 * d + (catT ss).length + 1 ≤ 140737488355328) :
    Calls Tryz.prog 44 #[.pointer (some ⟨b, 0, none⟩), .slice (some ⟨W.heap.size, 0, none⟩) ss.length ss.length] (W.alloc (.cells (ss.map Value.string).toArray 9)) (Wrote 45 [.int .i64 d] B0 b (l ++ lnT d (catT ss)) W) := by
  have hBw : B0 ≤ W.heap.size := Nat.le_trans h.base (Nat.le_of_lt h.size)
  have hne : W.heap.size ≠ b := by have := h.size; omega
  have hk : Kp B0 b W (W.alloc (.cells (ss.map Value.string).toArray 9)) := (Kp.refl _ _ _).alloc hBw _
  refine (lline_any B0 b d ss _ l _ (h.alloc _) (.inr ⟨W.heap.size, hne, rfl, Blk.new W _ _⟩) hd hss hlen (Nat.le_trans hBw hk.size)).mono ?_
  rintro e w' ⟨rfl, h1, h2⟩
  exact ⟨rfl, h1, hk.trans h2⟩
theorem line1_any (s : ByteArray) (B0 b d : Nat) (l : List UInt8) (W : World) (h : Bd 45 [.int .i64 d] B0 b l W) (hd : d ≤ 8192) (hlen : l.length + 2 * d + s.size + 1 ≤ 140737488355328) :
    Calls Tryz.prog 44 #[.pointer (some ⟨b, 0, none⟩), .slice (some ⟨W.heap.size, 0, none⟩) 1 1] (W.alloc (.cells #[.string s] 9)) (Wrote 45 [.int .i64 d] B0 b (l ++ lnT d (lst s)) W) := by
  have ec : catT [s] = lst s := by simp [catT]
  have h := lineL_any [s] B0 b d l W h hd (by simp) (by rw [ec, lst_len]; exact hlen)
  rw [ec] at h
  exact h
theorem begin1_any (s : ByteArray) (B0 b d : Nat) (l : List UInt8) (W : World) (h : Bd 45 [.int .i64 d] B0 b l W) (hd : d ≤ 8192) (hlen : l.length + 2 * d + s.size + 1 ≤ 140737488355328) :
    Calls Tryz.prog 68 #[.pointer (some ⟨b, 0, none⟩), .slice (some ⟨W.heap.size, 0, none⟩) 1 1] (W.alloc (.cells #[.string s] 9)) (Wrote 45 [.int .i64 d] B0 b (l ++ (ind d ++ lst s)) W) := by
  have ec : catT [s] = lst s := by simp [catT]
  have hBw : B0 ≤ W.heap.size := Nat.le_trans h.base (Nat.le_of_lt h.size)
  have hne : W.heap.size ≠ b := by have := h.size; omega
  have hk : Kp B0 b W (W.alloc (.cells #[.string s] 9)) := (Kp.refl _ _ _).alloc hBw _
  have hC := begin_any B0 b d [s] _ l _ (h.alloc (.cells #[.string s] 9)) (.inr ⟨W.heap.size, hne, rfl, Blk.new W _ _⟩) hd (by simp) (by rw [ec, lst_len]; omega) (Nat.le_trans hBw hk.size)
  rw [ec] at hC
  refine hC.mono ?_
  rintro e w' ⟨rfl, h1, h2⟩
  exact ⟨rfl, h1, hk.trans h2⟩
theorem begin0_any (B0 b d : Nat) (l : List UInt8) (W : World) (h : Bd 45 [.int .i64 d] B0 b l W) (hd : d ≤ 8192) (hlen : l.length + 2 * d ≤ 140737488355328) :
    Calls Tryz.prog 68 #[.pointer (some ⟨b, 0, none⟩), .slice none 0 0] W (Wrote 45 [.int .i64 d] B0 b (l ++ ind d) W) := by
  have hBw : B0 ≤ W.heap.size := Nat.le_trans h.base (Nat.le_of_lt h.size)
  have hC := begin_any B0 b d [] _ l W h (.inl ⟨rfl, rfl⟩) hd (by simp) (by simp only [catT, List.length_nil]; omega) hBw
  rw [show ind d ++ catT [] = ind d by simp [catT]] at hC
  exact hC

set_option maxRecDepth 100000 in
set_option maxHeartbeats 4000000 in
theorem block_any (w0 : World) (B0 b d : Nat) (hB0 : w0.heap.size ≤ B0) (hd : d + 1 ≤ 8192) (xs : List Nd) (hx : WList w0 B0 b (d + 1) xs) (v : Value) (l : List UInt8) (w : World) (hin : SlIn w0 .S xs v) (hw : Below w0.heap.size w0 w) (h : Bd 45 [.int .i64 d] B0 b l w) (hlen : l.length + 2097152 * cntL xs ≤ 137438953472) :
    Calls Tryz.prog 88 #[.pointer (some ⟨b, 0, none⟩), v] w (Wrote 45 [.int .i64 d] B0 b (l ++ stL xs (d + 1)) w) := by
  obtain ⟨c2, f2⟩ := h.cell2
  have hb : B0 ≤ b := h.base
  have hBw : B0 ≤ w.heap.size := Nat.le_trans hb (Nat.le_of_lt h.size)
  obtain ⟨D, hD⟩ : ∃ D : Int, (d : Int) + 1 = D := ⟨_, rfl⟩
  have hD2 : ((d + 1 : Nat) : Int) = D := by omega
  have hDr : -9223372036854775808 ≤ (d : Int) + 1 ∧ (d : Int) + 1 ≤ 9223372036854775807 := by omega
  have hDs : D - 1 = (d : Int) := by omega
  have h1 : Bd 45 [.int .i64 D] B0 b l (w.setCell ⟨b, 2, none⟩ (.int .i64 D)) := h.rest
  have hk1 : Kp B0 b w (w.setCell ⟨b, 2, none⟩ (.int .i64 D)) := Kp.set w hb 2 _
  obtain ⟨W1, hW1⟩ : ∃ W1, w.setCell ⟨b, 2, none⟩ (.int .i64 D) = W1 := ⟨_, rfl⟩
  rw [hW1] at h1 hk1
  have HC := Lib.hid (hx v l W1 hin (hk1.old hw hB0) (by rw [hD2]; exact h1) hlen)
  rw [hD2] at HC
  have HK1 := Lib.hid hk1; clear hk1 h1 h
  have HW1 := Lib.hid hW1; clear hW1
  have HIN := Lib.hid hin
  obtain ⟨a, c, rfl, -⟩ := hin
  clear hx hD2
  go_enter Tryz.func88, Tryz.ntmps88
  go_upto_region 2 with fail
  rw [HW1.out]
  clear HW1 c2 f2
  refine HC.out.mono ?_
  rintro e w2 ⟨rfl, h2, hk2⟩
  obtain ⟨c2, f2⟩ := h2.cell2
  have H2 := Lib.hid h2; clear h2
  have HK2 := Lib.hid (HK1.out.trans hk2); clear hk2 HC HK1
  have hDb : -9223372036854775808 ≤ D - 1 ∧ D - 1 ≤ 9223372036854775807 := by omega
  go_wp2_with fail
  go_end0
  have h3 := H2.out.rest (u' := .int .i64 d)
  exact ⟨rfl, by first | exact h3 | (rw [hDs]; exact h3), HK2.out.trans (by first | exact Kp.set w2 hb 2 _ | (rw [hDs]; exact Kp.set w2 hb 2 _))⟩

theorem cntL_next {l : List Nd} {i : Nat} (hi : i < l.length) : cntL (l.take (i + 1)) = cntL (l.take i) + cntS l[i] := by
  rw [← List.take_append_getElem hi]
  have e : ∀ (m n : List Nd), cntL (m ++ n) = cntL m + cntL n := by
    intro m n
    induction m with
    | nil => rw [List.nil_append, show cntL [] = 0 by unfold cntL; rfl, Nat.zero_add]
    | cons x r ih => rw [List.cons_append, cntL, cntL, ih, Nat.add_assoc]
  rw [e]
  congr 1
set_option maxRecDepth 100000 in
set_option maxHeartbeats 4000000 in
theorem stmts_any (w0 : World) (B0 b d : Nat) (hB0 : w0.heap.size ≤ B0) (xs : List Nd) (hx : ∀ i (hi : i < xs.length), WStmt w0 B0 b d xs[i]) (hg : goodSL xs) (hd : d + cntL xs ≤ 8192) : WList w0 B0 b d xs := by
  intro v l w hin hw h hlen
  have hBw : B0 ≤ w.heap.size := Nat.le_trans h.base (Nat.le_of_lt h.size)
  obtain ⟨a, c, rfl, hlc, hcm, hrow⟩ := hin
  have HX := Lib.hid hx; clear hx
  have HG := Lib.hid hg; clear hg
  have HROW := Lib.hid hrow; clear hrow
  have H0 := Lib.hid h
  have hbs : b < w.heap.size := h.size
  clear h
  have HW := Lib.hid hw; clear hw
  have HK0 := Lib.hid (Kp.refl B0 b w)
  go_enter Tryz.func21, Tryz.ntmps21
  go_upto_block 0 with fail
  go_wp2_with fail
  go_loopw [8] (fun x wr => ∃ i : Nat, x = .int .i64 i ∧ i ≤ xs.length ∧ Bd 45 [.int .i64 d] B0 b (l ++ stL (xs.take i) d) wr ∧ Kp B0 b w wr) (fun x _ => xs.length - (intOf x).toNat)
  case atStart => exact ⟨0, rfl, by omega, by rw [List.take_zero, stL, List.append_nil]; exact H0.out, HK0.out⟩
  case round =>
    obtain ⟨i, rfl, hi, hBr, hKr⟩ := hrel
    have HBr := Lib.hid hBr; clear hBr
    have HKr := Lib.hid hKr; clear hKr
    by_cases hlt : i < xs.length
    · have hbi : (i : Int) + 1 ≤ 9223372036854775807 := by unfold maxLen at hcm; omega
      obtain ⟨g, o, rfl, hrow⟩ := HROW.out.resolve_left (by omega)
      obtain ⟨hty, u0, u1, u2, u3, u4, u5, m0, m1, m2, m3, m4, m5, hnd⟩ := SlIn.item6 rfl hrow i hlt
      obtain ⟨sk, sn, sa, sl, sc, sa2, sl2, sc2, sa3, sl3, sc3, sa4, sl4, sc4, rfl, rfl, rfl, rfl, rfl, rfl⟩ := NdIn.formS hty hnd
      have hold : Below w0.heap.size w0 wr := HKr.out.old HW.out hB0
      have kk := keeps_below hold
      have k0 := kk _ _ _ m0
      have k1 := kk _ _ _ m1
      have k2 := kk _ _ _ m2
      have k3 := kk _ _ _ m3
      have k4 := kk _ _ _ m4
      have k5 := kk _ _ _ m5
      have hBr : B0 ≤ wr.heap.size := Nat.le_trans hBw HKr.out.size
      obtain ⟨W1, hW1⟩ : ∃ W1, wr.alloc (.cells #[.int .i64 sk, .string sn, .slice sa sl sc, .slice sa2 sl2 sc2, .slice sa3 sl3 sc3, .slice sa4 sl4 sc4] 78) = W1 := ⟨_, rfl⟩
      have hk1 : Kp B0 b wr W1 := by rw [← hW1]; exact (Kp.refl _ _ _).alloc hBr _
      have h1 : Bd 45 [.int .i64 d] B0 b (l ++ stL (xs.take i) d) W1 := by rw [← hW1]; exact HBr.out.alloc _
      have hl1 := stL_le (xs.take i) d (goodSL_take xs i HG.out) (by have := cntL_take xs i; omega)
      have hn := cntL_next hlt
      have hn2 := cntL_take xs (i + 1)
      have HC := Lib.hid (HX.out i hlt _ _ W1 hnd ((HKr.out.trans hk1).old HW.out hB0) h1 (by rw [List.length_append]; omega))
      have HK1 := Lib.hid (HKr.out.trans hk1); clear hk1 h1 hl1 hn hn2
      have HW1 := Lib.hid hW1; clear hW1
      clear m0 m1 m2 m3 m4 m5 kk hrow hnd hty hold
      go_wp2_with fail
      rw [HW1.out]
      (with_reducible refine HC.out.mono ?_)
      rintro e w2 ⟨rfl, h2, hk2⟩
      have H2 := Lib.hid h2; clear h2
      have HK2 := Lib.hid (HK1.out.trans hk2); clear hk2
      go_wp2_with fail
      go_roundw
      case rel =>
        refine ⟨i + 1, by go_num, by omega, ?_, HK2.out⟩
        have h := H2.out
        rw [List.append_assoc] at h
        rw [stL_take hlt]
        exact h
      case measure => simp [intOf]; omega
    · obtain rfl : i = xs.length := by omega
      go_wp2_with fail
      go_end0
      refine ⟨rfl, ?_, HKr.out⟩
      have h := HBr.out
      rw [List.take_length] at h
      exact h
end Go.Proofs.YtbchibmmkmldiaaGreatDoor

/-
  The project's statement (print's branches, stmt), by induction on the tree: proved is what it writes, and that nothing else that lay is turned.
-/
namespace Go.Proofs.YtbchibmmkmldiaaGreatDoor
open Go Go.RowKit

set_option maxRecDepth 100000 in
set_option maxHeartbeats 4000000 in
theorem branches_any (w0 : World) (B0 b d : Nat) (hB0 : w0.heap.size ≤ B0) (k n : Int) (nm : ByteArray) (xs cs ts es : List Nd) (hT : WList w0 B0 b (d + 1) ts) (hE : WList w0 B0 b (d + 1) es) (hgT : goodSL ts) (hgE : goodSL es) (hd : d + 1 + cntL ts + cntL es ≤ 8192) (us : List Value) (l : List UInt8) (w : World) (hin : NdIn w0 (.mk .S k n nm xs cs ts es) us) (hw : Below w0.heap.size w0 w) (h : Bd 45 [.int .i64 d] B0 b l w) (hlen : l.length + 2097152 * (cntL ts + cntL es) + 100000 ≤ 137438953472) :
    Calls Tryz.prog 73 #[.pointer (some ⟨b, 0, none⟩), .agg us.toArray] w (Wrote 45 [.int .i64 d] B0 b (l ++ brT ts es d) w) := by
  have hBw : B0 ≤ w.heap.size := Nat.le_trans h.base (Nat.le_of_lt h.size)
  have ht1 := stL_le ts (d + 1) hgT (by omega)
  have ht2 := stL_le es (d + 1) hgE (by omega)
  have hnd := hin
  unfold NdIn at hnd
  obtain ⟨-, -, -, -, vx, vc, vt, ve, rfl, hx, hc, ht, he⟩ := hnd
  have hit : SlIn w0 .S ts vt := ht
  have hie : SlIn w0 .S es ve := he
  obtain ⟨a, c, rfl, -⟩ := hx
  obtain ⟨a2, c2, rfl, -⟩ := hc
  obtain ⟨a3, c3, rfl, -⟩ := ht
  obtain ⟨a4, c4, rfl, -⟩ := he
  change Calls _ _ #[_, .agg #[.int .i64 k, .string nm, .slice a xs.length c, .slice a2 cs.length c2, .slice a3 ts.length c3, .slice a4 es.length c4]] w _
  obtain ⟨W1, hW1⟩ : ∃ W1, w.alloc (.cells #[.int .i64 k, .string nm, .slice a xs.length c, .slice a2 cs.length c2, .slice a3 ts.length c3, .slice a4 es.length c4] 78) = W1 := ⟨_, rfl⟩
  obtain ⟨X, hX⟩ : ∃ X, w.heap.size = X := ⟨_, rfl⟩
  have hX1 : Blk W1 X #[.int .i64 k, .string nm, .slice a xs.length c, .slice a2 cs.length c2, .slice a3 ts.length c3, .slice a4 es.length c4] 78 := by rw [← hW1, ← hX]; exact Blk.new w _ _
  have h1 : Bd 45 [.int .i64 d] B0 b l W1 := by rw [← hW1]; exact h.alloc _
  have hk1 : Kp B0 b w W1 := by rw [← hW1]; exact (Kp.refl _ _ _).alloc hBw _
  have hXb : X ≠ b := by have := h.size; omega
  have HC := Lib.hid (block_any w0 B0 b d hB0 (by omega) ts hT _ l W1 hit (hk1.old hw hB0) h1 (by omega))
  have HE := Lib.hid (fun l w hw h hl => block_any w0 B0 b d hB0 (by omega) es hE _ l w hie hw h hl)
  have m4 : W1.cell? ⟨X, 4, none⟩ = some (.slice a3 ts.length c3) := hX1.cell 4
  have HX1 := Lib.hid hX1; clear hX1
  have HK1 := Lib.hid hk1; clear hk1 h1 h hit hie hT hE
  have HIN := Lib.hid hin; clear hin
  have HW := Lib.hid hw; clear hw
  have HW1 := Lib.hid hW1; clear hW1
  have HXX := Lib.hid hX; clear hX
  go_enter Tryz.func73, Tryz.ntmps73
  go_upto_region 1 with fail
  rw [HW1.out, HXX.out]
  clear HW1
  go_wp2_with fail
  (with_reducible refine HC.out.mono ?_)
  rintro e w2 ⟨rfl, h2, hk2⟩
  have hX2 := HX1.out.kp hk2 hXb (by decide)
  have m5 : w2.cell? ⟨X, 5, none⟩ = some (.slice a4 es.length c4) := hX2.cell 5
  have HX2 := Lib.hid hX2; clear hX2 HX1 m4
  have HK2 := Lib.hid (HK1.out.trans hk2); clear hk2 HK1 HC
  have H2 := Lib.hid h2; clear h2
  by_cases hes : es = []
  · have hl0 : es.length = 0 := by rw [hes]; rfl
    have hbr : brT ts es d = stL ts (d + 1) ++ lnT d (lst tEnd) := by rw [hes]; unfold brT; simp
    have HBR := Lib.hid hbr; clear hbr
    have hq : ¬ (0 : Int) < es.length := by omega
    have HES := Lib.hid hes; clear hes
    have HL0 := Lib.hid hl0; clear hl0
    go_upto_region 5 with fail
    have HC2 := Lib.hid (line1_any ⟨#[125]⟩ B0 b d _ w2 H2.out (by omega) (by rw [List.length_append, show (⟨#[125]⟩ : ByteArray).size = 1 from rfl]; omega))
    go_wp2_with fail
    (with_reducible refine HC2.out.mono ?_)
    rintro e w3 ⟨rfl, h3, hk3⟩
    have H3 := Lib.hid h3; clear h3
    have HK3 := Lib.hid (HK2.out.trans hk3); clear hk3
    go_wp2_with fail
    go_end0
    refine ⟨rfl, ?_, HK3.out⟩
    have h := H3.out
    rw [HBR.out]
    rw [List.append_assoc] at h
    exact h
  · have hl0 : 0 < es.length := List.length_pos_iff.2 hes
    have hbr : brT ts es d = stL ts (d + 1) ++ ((lnT d (lst tElse) ++ stL es (d + 1)) ++ lnT d (lst tEnd)) := by
      cases es with
      | nil => exact absurd rfl hes
      | cons e r => unfold brT; rfl
    have HBR := Lib.hid hbr; clear hbr
    have hq : (0 : Int) < es.length := by omega
    have HES := Lib.hid hes; clear hes
    have HC2 := Lib.hid (line1_any ⟨#[125, 32, 101, 108, 115, 101, 32, 123]⟩ B0 b d _ w2 H2.out (by omega) (by rw [List.length_append, show (⟨#[125, 32, 101, 108, 115, 101, 32, 123]⟩ : ByteArray).size = 8 from rfl]; omega))
    go_wp2_with fail
    (with_reducible refine HC2.out.mono ?_)
    rintro e w3 ⟨rfl, h3, hk3⟩
    have hX3 := HX2.out.kp hk3 hXb (by decide)
    have n5 : w3.cell? ⟨X, 5, none⟩ = some (.slice a4 es.length c4) := hX3.cell 5
    have hk3' := HK2.out.trans hk3
    have el : (lnT d (lst ⟨#[125, 32, 101, 108, 115, 101, 32, 123]⟩)).length = 2 * d + 8 + 1 := by rw [lnT_len]; rfl
    have HC3 := Lib.hid (HE.out _ w3 (hk3'.old HW.out hB0) h3 (by rw [List.length_append, List.length_append, el]; omega))
    have HEL := Lib.hid el; clear el
    have HK3 := Lib.hid hk3'; clear hk3' hk3 h3 hX3 HC2 HX2 m5
    go_wp2_with fail
    (with_reducible refine HC3.out.mono ?_)
    rintro e w4 ⟨rfl, h4, hk4⟩
    have HC4 := Lib.hid (line1_any ⟨#[125]⟩ B0 b d _ w4 h4 (by omega) (by rw [List.length_append, List.length_append, List.length_append, HEL.out, show (⟨#[125]⟩ : ByteArray).size = 1 from rfl]; omega))
    have HK4 := Lib.hid (HK3.out.trans hk4); clear hk4 h4 HK3 HC3
    go_wp2_with fail
    (with_reducible refine HC4.out.mono ?_)
    rintro e w5 ⟨rfl, h5, hk5⟩
    have H5 := Lib.hid h5; clear h5
    have HK5 := Lib.hid (HK4.out.trans hk5); clear hk5
    go_wp2_with fail
    go_end0
    refine ⟨rfl, ?_, HK5.out⟩
    have h := H5.out
    rw [HBR.out]
    simp only [List.append_assoc] at h ⊢
    exact h

set_option maxRecDepth 100000 in
set_option maxHeartbeats 16000000 in
theorem stmt_any (w0 : World) (B0 b : Nat) (hB0 : w0.heap.size ≤ B0) (htab : Lib.TabIs Tryz.prog w0 "internal/strconv.uint64pow10" .u64 Lib.pow10Tab) : ∀ (N d : Nat) (x : Nd), SizeOf.sizeOf x ≤ N → x.ty = .S → goodS x → d + cntS x ≤ 8192 → WStmt w0 B0 b d x := by
  intro N
  induction N with
  | zero =>
    intro d x hN
    obtain ⟨ty, k, n, nm, xs, cs, ts, es⟩ := x
    simp only [Nd.mk.sizeOf_spec] at hN
    omega
  | succ N ih =>
    intro d x hN hty hg hd us l w hin hw h hlen
    obtain ⟨ty, k, n, nm, xs, cs, ts, es⟩ := x
    simp only [Nd.mk.sizeOf_spec] at hN
    simp only [Nd.ty] at hty
    subst hty
    have hBw : B0 ≤ w.heap.size := Nat.le_trans h.base (Nat.le_of_lt h.size)
    unfold goodS at hg
    obtain ⟨⟨hk1, hk2, hx1, hx2, hc1, he1⟩, hnm, hgx, hgc, hxc, hcc, hgt, hge⟩ := hg
    unfold cntS at hd hlen
    have hTs : WList w0 B0 b (d + 1) ts := stmts_any w0 B0 b (d + 1) hB0 ts (fun i hi => ih (d + 1) ts[i] (by have := List.sizeOf_lt_of_mem (List.getElem_mem (l := ts) (n := i) hi); omega) (goodSL_at hgt i hi).1 (goodSL_at hgt i hi).2 (by have := cntL_at ts i hi; omega)) hgt (by omega)
    have hEs : WList w0 B0 b (d + 1) es := stmts_any w0 B0 b (d + 1) hB0 es (fun i hi => ih (d + 1) es[i] (by have := List.sizeOf_lt_of_mem (List.getElem_mem (l := es) (n := i) hi); omega) (goodSL_at hge i hi).1 (goodSL_at hge i hi).2 (by have := cntL_at es i hi; omega)) hge (by omega)
    have hBR := fun l w hw h hl => branches_any w0 B0 b d hB0 k n nm xs cs ts es hTs hEs hgt hge (by omega) us l w hin hw h hl
    have hWE := fun i (hi : i < xs.length) => expr_any 45 [.int .i64 d] lies_l l_ne w0 B0 b hB0 htab _ xs[i] (Nat.le_refl _) (goodTL_at hgx i hi).1 (goodTL_at hgx i hi).2
    have hWC := fun i (hi : i < cs.length) => cond_any 45 [.int .i64 d] lies_l l_ne w0 B0 b hB0 htab _ cs[i] (Nat.le_refl _) (goodTL_at hgc i hi).1 (goodTL_at hgc i hi).2
    have hlx := fun i (hi : i < xs.length) => txt_le _ xs[i] (Nat.le_refl _) (goodTL_at hgx i hi).2 (.inl (goodTL_at hgx i hi).1)
    have hlc := fun i (hi : i < cs.length) => txt_le _ cs[i] (Nat.le_refl _) (goodTL_at hgc i hi).2 (.inr (goodTL_at hgc i hi).1)
    have htx := fun i (hi : i < xs.length) => (goodTL_at hgx i hi).1
    have htc := fun i (hi : i < cs.length) => (goodTL_at hgc i hi).1
    have hcx := cstL_at xs
    have hcz := cstL_at cs
    clear ih hTs hEs hgt hge hN htab hgx hgc
    have HBR := Lib.hid hBR; clear hBR
    unfold NdIn at hin
    obtain ⟨-, -, -, -, vx, vc, vt, ve, rfl, hx, hc, ht, he⟩ := hin
    obtain ⟨a, c, rfl, -, -, hrx⟩ := hx
    obtain ⟨a2, c2, rfl, -, -, hrc⟩ := hc
    obtain ⟨a3, c3, rfl, -⟩ := ht
    obtain ⟨a4, c4, rfl, -⟩ := he
    change Calls _ _ #[_, .agg #[.int .i64 k, .string nm, .slice a xs.length c, .slice a2 cs.length c2, .slice a3 ts.length c3, .slice a4 es.length c4]] w _
    have hbr2 : ∀ (l : List UInt8) (w : World), Below w0.heap.size w0 w → Bd 45 [.int .i64 d] B0 b l w → l.length + 2097152 * (cntL ts + cntL es) + 100000 ≤ 137438953472 → Calls Tryz.prog 73 #[.pointer (some ⟨b, 0, none⟩), .agg #[.int .i64 k, .string nm, .slice a xs.length c, .slice a2 cs.length c2, .slice a3 ts.length c3, .slice a4 es.length c4]] w (Wrote 45 [.int .i64 d] B0 b (l ++ brT ts es d) w) := HBR.out
    clear HBR
    have HBR := Lib.hid hbr2; clear hbr2
    obtain ⟨W1, hW1⟩ : ∃ W1, w.alloc (.cells #[.int .i64 k, .string nm, .slice a xs.length c, .slice a2 cs.length c2, .slice a3 ts.length c3, .slice a4 es.length c4] 78) = W1 := ⟨_, rfl⟩
    obtain ⟨X, hX⟩ : ∃ X, w.heap.size = X := ⟨_, rfl⟩
    have hX1 : Blk W1 X #[.int .i64 k, .string nm, .slice a xs.length c, .slice a2 cs.length c2, .slice a3 ts.length c3, .slice a4 es.length c4] 78 := by rw [← hW1, ← hX]; exact Blk.new w _ _
    have h1 : Bd 45 [.int .i64 d] B0 b l W1 := by rw [← hW1]; exact h.alloc _
    have hk1 : Kp B0 b w W1 := by rw [← hW1]; exact (Kp.refl _ _ _).alloc hBw _
    have hXb : X ≠ b := by have := h.size; omega
    have hold : Below w0.heap.size w0 W1 := hk1.old hw hB0
    have m0 : W1.cell? ⟨X, 0, none⟩ = some (.int .i64 k) := hX1.cell 0
    have m1 : W1.cell? ⟨X, 1, none⟩ = some (.string nm) := hX1.cell 1
    have m2 : W1.cell? ⟨X, 2, none⟩ = some (.slice a xs.length c) := hX1.cell 2
    have m3 : W1.cell? ⟨X, 3, none⟩ = some (.slice a2 cs.length c2) := hX1.cell 3
    have HX1 := Lib.hid hX1; clear hX1
    have HK1 := Lib.hid hk1; clear hk1 h
    have H1 := Lib.hid h1; clear h1
    have HOLD := Lib.hid hold; clear hold
    have HW := Lib.hid hw; clear hw
    have HW1 := Lib.hid hW1; clear hW1
    have HXX := Lib.hid hX; clear hX
    have HRX := Lib.hid hrx; clear hrx
    have HRC := Lib.hid hrc; clear hrc
    have HWE := Lib.hid hWE; clear hWE
    have HWC := Lib.hid hWC; clear hWC
    have HLX := Lib.hid hlx; clear hlx
    have HLC := Lib.hid hlc; clear hlc
    have HTX := Lib.hid htx; clear htx
    have HTC := Lib.hid htc; clear htc
    have HCX := Lib.hid hcx; clear hcx
    have HCZ := Lib.hid hcz; clear hcz
    go_enter Tryz.func46, Tryz.ntmps46
    go_upto_region 1 with fail
    rw [HW1.out, HXX.out]
    clear HW1
    by_cases q1 : k = 1
    · have hl1 := hx1 q1
      subst q1
      have HC := Lib.hid (begin1_any nm B0 b d l W1 H1.out (by omega) (by omega))
      go_wp2_with fail
      (with_reducible refine HC.out.mono ?_)
      rintro e w2 ⟨rfl, h2, hk2⟩
      have hX2 := HX1.out.kp hk2 hXb (by decide)
      have hq2 := HK1.out.trans hk2
      have hold2 : Below w0.heap.size w0 w2 := hq2.old HW.out hB0
      have m2_2 : w2.cell? ⟨X, 2, none⟩ = some (.slice a xs.length c) := hX2.cell 2
      have HX2 := Lib.hid hX2; clear hX2
      have HK2 := Lib.hid hq2; clear hq2 hk2
      have HOLD2 := Lib.hid hold2; clear hold2
      have H2 := Lib.hid h2; clear h2
      have h0x : 0 < xs.length := by omega
      obtain ⟨b0, o0, rfl, hrow⟩ := HRX.out.resolve_left (by omega)
      obtain ⟨ck, cn, cz, ca, cl, cc, hnd, g0, g1, g2, g3⟩ := item_at hrow HOLD2.out 0 h0x
      simp only [Nat.zero_mul, Nat.add_zero] at g0 g1 g2 g3
      have hcx0 := HCX.out 0 h0x
      have hxi0 : (0 : Int) < xs.length := by omega
      have HC2 := Lib.hid (given_any d w0 B0 b hB0 xs[0] (HTX.out 0 h0x) (HWE.out 0 h0x) (HLX.out 0 h0x) _ _ w2 hnd HOLD2.out H2.out (by rw [List.length_append, List.length_append, ind_len, lst_len]; omega))
      clear hrow hnd m0 m1 m2 m3 HC
      go_wp2_with fail
      (with_reducible refine HC2.out.mono ?_)
      rintro e w3 ⟨rfl, h3, hk3⟩
      have H3 := Lib.hid h3; clear h3
      have HK3 := Lib.hid (HK2.out.trans hk3); clear hk3
      go_wp2_with fail
      go_end0
      refine ⟨rfl, ?_, HK3.out⟩
      have h := H3.out
      rw [st_1, fst_eq h0x]
      unfold lnT assT
      simp only [List.append_assoc] at h ⊢
      exact h
    have t1 : (k == 1) = false := by simpa using q1
    by_cases q2 : k = 2
    · have hl2 := hx2 q2
      subst q2
      have HC := Lib.hid (begin0_any B0 b d l W1 H1.out (by omega) (by omega))
      go_upto_region 8 with (first | (go_at_call 68; (with_reducible refine HC.out.mono ?_); rintro e w2 ⟨rfl, h2, hk2⟩; (have HH2 := Lib.hid h2); (have HHK2 := Lib.hid hk2); (have n1 : w2.cell? ⟨X, 1, none⟩ = some (.string nm) := (HX1.out.kp hk2 hXb (by decide)).cell 1); (have n2 : w2.cell? ⟨X, 2, none⟩ = some (.slice a xs.length c) := (HX1.out.kp hk2 hXb (by decide)).cell 2); clear h2 hk2) | fail)
      have hX2 := HX1.out.kp HHK2.out hXb (by decide)
      have hq2 := HK1.out.trans HHK2.out
      have hold2 : Below w0.heap.size w0 w2 := hq2.old HW.out hB0
      have HX2 := Lib.hid hX2; clear hX2
      have HK2 := Lib.hid hq2; clear hq2
      have HOLD2 := Lib.hid hold2; clear hold2
      have h0x : 0 < xs.length := by omega
      obtain ⟨b0, o0, rfl, hrow⟩ := HRX.out.resolve_left (by omega)
      obtain ⟨ck, cn, cz, ca, cl, cc, hnd, g0, g1, g2, g3⟩ := item_at hrow HOLD2.out 0 h0x
      simp only [Nat.zero_mul, Nat.add_zero] at g0 g1 g2 g3
      have hcx0 := HCX.out 0 h0x
      have hxi0 : (0 : Int) < xs.length := by omega
      have HC2 := Lib.hid (item_any 45 [.int .i64 d] lies_l l_ne w0 B0 b hB0 xs[0] (HTX.out 0 h0x) (HWE.out 0 h0x) (HLX.out 0 h0x) nm _ _ w2.drew hnd HOLD2.out.drew HH2.out.drew (by rw [List.length_append, ind_len]; omega))
      have hlx0 := HLX.out 0 h0x
      clear hnd m0 m1 m2 m3 HC
      go_region_with (go_at_call 32; (with_reducible refine HC2.out.mono ?_); rintro e w3 ⟨rfl, h3, hk3⟩; (have HH3 := Lib.hid h3); (have HX3 := Lib.hid ((show Blk w2.drew X _ _ from HX2.out).kp hk3 hXb (by decide))); (have HHK3 := Lib.hid (HK2.out.drew.trans hk3)); clear h3 hk3)
      all_goals
        have k2 : w3.cell? ⟨X, 2, none⟩ = some (.slice (some ⟨b0, o0, none⟩) xs.length c) := HX3.out.cell 2
        have hold3 : Below w0.heap.size w0 w3 := HHK3.out.old HW.out hB0
        have h1x : 1 < xs.length := by omega
        clear g0 g1 g2 g3 n1 n2
        obtain ⟨dk, dn, dz, da, dl, dc, hnd, g0, g1, g2, g3⟩ := item_at hrow hold3 1 h1x
        simp only [Nat.one_mul] at g0 g1 g2 g3
        have hcx1 := HCX.out 1 h1x
        have hxi1 : (1 : Int) < xs.length := by omega
        have HC3 := Lib.hid (given_any d w0 B0 b hB0 xs[1] (HTX.out 1 h1x) (HWE.out 1 h1x) (HLX.out 1 h1x) _ _ w3 hnd hold3 HH3.out (by simp only [List.length_append, ind_len, List.length_cons, List.length_nil]; rw [show nm.data.toList.length = nm.size from rfl]; omega))
        clear hrow hnd hold3 HC2
        go_wp2_with fail
        (with_reducible refine HC3.out.mono ?_)
        rintro e w4 ⟨rfl, h4, hk4⟩
        have H4 := Lib.hid h4; clear h4
        have HK4 := Lib.hid (HHK3.out.trans hk4); clear hk4
        go_wp2_with fail
        go_end0
        refine ⟨rfl, ?_, HK4.out⟩
        have h := H4.out
        rw [st_2, fst_eq h0x, snd_eq h1x]
        unfold lnT stoT
        simp only [List.append_assoc] at h ⊢
        exact h
    have t2 : (k == 2) = false := by simpa using q2
    by_cases q3 : k = 3
    · have hl3 := hc1 (by omega) (by omega)
      subst q3
      have h0c : 0 < cs.length := by omega
      obtain ⟨b0, o0, rfl, hrow⟩ := HRC.out.resolve_left (by omega)
      obtain ⟨ck, cn, ca2, cl2, cc2, ca, cl, cc, hnd, g0, g1, g2, g3⟩ := citem_at hrow HOLD.out 0 h0c
      simp only [Nat.zero_mul, Nat.add_zero] at g0 g1 g2 g3
      have hcz0 := HCZ.out 0 h0c
      have hci0 : (0 : Int) < cs.length := by omega
      have HC := Lib.hid (asked_any d (by omega) w0 B0 b hB0 cs[0] (HTC.out 0 h0c) (HWC.out 0 h0c) (HLC.out 0 h0c) ⟨#[105, 102, 32]⟩ ⟨#[32, 123]⟩ (by decide) (by decide) _ l W1 hnd HOLD.out H1.out (by omega))
      have hla := HLC.out 0 h0c
      clear hrow hnd m1 m2 hl3 hc1 hx1 hx2 he1
      go_wp2_with fail
      (with_reducible refine HC.out.mono ?_)
      rintro e w2 ⟨rfl, h2, hk2⟩
      have hX2 := HX1.out.kp hk2 hXb (by decide)
      have hq2 := HK1.out.trans hk2
      have hold2 : Below w0.heap.size w0 w2 := hq2.old HW.out hB0
      have m0_2 : w2.cell? ⟨X, 0, none⟩ = some (.int .i64 3) := hX2.cell 0
      have m1_2 : w2.cell? ⟨X, 1, none⟩ = some (.string nm) := hX2.cell 1
      have m2_2 : w2.cell? ⟨X, 2, none⟩ = some (.slice a xs.length c) := hX2.cell 2
      have m3_2 : w2.cell? ⟨X, 3, none⟩ = some (.slice (some ⟨b0, o0, none⟩) cs.length c2) := hX2.cell 3
      have m4_2 : w2.cell? ⟨X, 4, none⟩ = some (.slice a3 ts.length c3) := hX2.cell 4
      have m5_2 : w2.cell? ⟨X, 5, none⟩ = some (.slice a4 es.length c4) := hX2.cell 5
      have HX2 := Lib.hid hX2; clear hX2
      have HK2 := Lib.hid hq2; clear hq2 hk2
      have HOLD2 := Lib.hid hold2; clear hold2
      have H2 := Lib.hid h2; clear h2
      have hle : (lnT d (askT ⟨#[105, 102, 32]⟩ (txtN cs[0]) ⟨#[32, 123]⟩)).length ≤ 1700000 := line_le _ _ (by omega) (ask_le _ _ _ (by decide) (by decide) (by omega))
      have HC2 := Lib.hid (HBR.out _ w2 HOLD2.out H2.out (by rw [List.length_append]; omega))
      clear m0 m3 HC g0 g1 g2 g3 hle
      go_wp2_with fail
      (with_reducible refine HC2.out.mono ?_)
      rintro e w3 ⟨rfl, h3, hk3⟩
      have H3 := Lib.hid h3; clear h3
      have HK3 := Lib.hid (HK2.out.trans hk3); clear hk3
      go_wp2_with fail
      go_end0
      refine ⟨rfl, ?_, HK3.out⟩
      have h := H3.out
      rw [st_3, fst_eq h0c]
      rw [List.append_assoc] at h
      exact h
    have t3 : (k == 3) = false := by simpa using q3
    by_cases q4 : k = 4
    · have hl4 := hc1 (by omega) (by omega)
      subst q4
      have h0c : 0 < cs.length := by omega
      obtain ⟨b0, o0, rfl, hrow⟩ := HRC.out.resolve_left (by omega)
      obtain ⟨ck, cn, ca2, cl2, cc2, ca, cl, cc, hnd, g0, g1, g2, g3⟩ := citem_at hrow HOLD.out 0 h0c
      simp only [Nat.zero_mul, Nat.add_zero] at g0 g1 g2 g3
      have hcz0 := HCZ.out 0 h0c
      have hci0 : (0 : Int) < cs.length := by omega
      have HC := Lib.hid (asked_any d (by omega) w0 B0 b hB0 cs[0] (HTC.out 0 h0c) (HWC.out 0 h0c) (HLC.out 0 h0c) ⟨#[119, 104, 105, 108, 101, 32]⟩ ⟨#[32, 123]⟩ (by decide) (by decide) _ l W1 hnd HOLD.out H1.out (by omega))
      have hla := HLC.out 0 h0c
      clear hrow hnd m1 m2 hl4 hc1 hx1 hx2 he1
      go_wp2_with fail
      (with_reducible refine HC.out.mono ?_)
      rintro e w2 ⟨rfl, h2, hk2⟩
      have hX2 := HX1.out.kp hk2 hXb (by decide)
      have hq2 := HK1.out.trans hk2
      have hold2 : Below w0.heap.size w0 w2 := hq2.old HW.out hB0
      have m0_2 : w2.cell? ⟨X, 0, none⟩ = some (.int .i64 4) := hX2.cell 0
      have m1_2 : w2.cell? ⟨X, 1, none⟩ = some (.string nm) := hX2.cell 1
      have m2_2 : w2.cell? ⟨X, 2, none⟩ = some (.slice a xs.length c) := hX2.cell 2
      have m3_2 : w2.cell? ⟨X, 3, none⟩ = some (.slice (some ⟨b0, o0, none⟩) cs.length c2) := hX2.cell 3
      have m4_2 : w2.cell? ⟨X, 4, none⟩ = some (.slice a3 ts.length c3) := hX2.cell 4
      have m5_2 : w2.cell? ⟨X, 5, none⟩ = some (.slice a4 es.length c4) := hX2.cell 5
      have HX2 := Lib.hid hX2; clear hX2
      have HK2 := Lib.hid hq2; clear hq2 hk2
      have HOLD2 := Lib.hid hold2; clear hold2
      have H2 := Lib.hid h2; clear h2
      have hle : (lnT d (askT ⟨#[119, 104, 105, 108, 101, 32]⟩ (txtN cs[0]) ⟨#[32, 123]⟩)).length ≤ 1700000 := line_le _ _ (by omega) (ask_le _ _ _ (by decide) (by decide) (by omega))
      have HC2 := Lib.hid (HBR.out _ w2 HOLD2.out H2.out (by rw [List.length_append]; omega))
      clear m0 m3 HC g0 g1 g2 g3 hle
      go_wp2_with fail
      (with_reducible refine HC2.out.mono ?_)
      rintro e w3 ⟨rfl, h3, hk3⟩
      have H3 := Lib.hid h3; clear h3
      have HK3 := Lib.hid (HK2.out.trans hk3); clear hk3
      go_wp2_with fail
      go_end0
      refine ⟨rfl, ?_, HK3.out⟩
      have h := H3.out
      rw [st_4, fst_eq h0c]
      rw [List.append_assoc] at h
      exact h
    have t4 : (k == 4) = false := by simpa using q4
    by_cases q5 : k = 5
    · have hl5 := hc1 (by omega) (by omega)
      subst q5
      have h0c : 0 < cs.length := by omega
      obtain ⟨b0, o0, rfl, hrow⟩ := HRC.out.resolve_left (by omega)
      obtain ⟨ck, cn, ca2, cl2, cc2, ca, cl, cc, hnd, g0, g1, g2, g3⟩ := citem_at hrow HOLD.out 0 h0c
      simp only [Nat.zero_mul, Nat.add_zero] at g0 g1 g2 g3
      have hcz0 := HCZ.out 0 h0c
      have hci0 : (0 : Int) < cs.length := by omega
      have HC := Lib.hid (asked_any d (by omega) w0 B0 b hB0 cs[0] (HTC.out 0 h0c) (HWC.out 0 h0c) (HLC.out 0 h0c) ⟨#[97, 115, 115, 101, 114, 116, 32]⟩ ⟨#[59]⟩ (by decide) (by decide) _ l W1 hnd HOLD.out H1.out (by omega))
      have hla := HLC.out 0 h0c
      clear hrow hnd m1 m2 hl5 hc1 hx1 hx2 he1
      go_wp2_with fail
      (with_reducible refine HC.out.mono ?_)
      rintro e w2 ⟨rfl, h2, hk2⟩
      have H2 := Lib.hid h2; clear h2
      have HK2 := Lib.hid (HK1.out.trans hk2); clear hk2
      go_wp2_with fail
      go_end0
      refine ⟨rfl, ?_, HK2.out⟩
      have h := H2.out
      rw [st_5, fst_eq h0c]
      exact h
    have t5 : (k == 5) = false := by simpa using q5
    by_cases q6 : k = 6
    · have hl6 := hc1 (by omega) (by omega)
      subst q6
      have h0c : 0 < cs.length := by omega
      obtain ⟨b0, o0, rfl, hrow⟩ := HRC.out.resolve_left (by omega)
      obtain ⟨ck, cn, ca2, cl2, cc2, ca, cl, cc, hnd, g0, g1, g2, g3⟩ := citem_at hrow HOLD.out 0 h0c
      simp only [Nat.zero_mul, Nat.add_zero] at g0 g1 g2 g3
      have hcz0 := HCZ.out 0 h0c
      have hci0 : (0 : Int) < cs.length := by omega
      have HC := Lib.hid (asked_any d (by omega) w0 B0 b hB0 cs[0] (HTC.out 0 h0c) (HWC.out 0 h0c) (HLC.out 0 h0c) ⟨#[97, 115, 115, 117, 109, 101, 32]⟩ ⟨#[59]⟩ (by decide) (by decide) _ l W1 hnd HOLD.out H1.out (by omega))
      have hla := HLC.out 0 h0c
      clear hrow hnd m1 m2 hl6 hc1 hx1 hx2 he1
      go_wp2_with fail
      (with_reducible refine HC.out.mono ?_)
      rintro e w2 ⟨rfl, h2, hk2⟩
      have H2 := Lib.hid h2; clear h2
      have HK2 := Lib.hid (HK1.out.trans hk2); clear hk2
      go_wp2_with fail
      go_end0
      refine ⟨rfl, ?_, HK2.out⟩
      have h := H2.out
      rw [st_6, fst_eq h0c]
      exact h
    have t6 : (k == 6) = false := by simpa using q6
    obtain rfl : k = 7 := by omega
    have HC := Lib.hid (line1_any ⟨#[115, 107, 105, 112, 59]⟩ B0 b d l W1 H1.out (by omega) (by rw [show (⟨#[115, 107, 105, 112, 59]⟩ : ByteArray).size = 5 from rfl]; omega))
    clear m1 m2 m3
    go_wp2_with fail
    (with_reducible refine HC.out.mono ?_)
    rintro e w2 ⟨rfl, h2, hk2⟩
    have H2 := Lib.hid h2; clear h2
    have HK2 := Lib.hid (HK1.out.trans hk2); clear hk2
    go_wp2_with fail
    go_end0
    refine ⟨rfl, ?_, HK2.out⟩
    rw [st_7]
    exact H2.out
end Go.Proofs.YtbchibmmkmldiaaGreatDoor

/-
  The document's Check and Size of a program (gnomonref3's): proved is what each answers, that Check's answer is the project's, and that neither turns anything that lay.
-/
namespace Go.Proofs.YtbchibmmkmldiaaGreatDoor
open Go Go.RowKit

/-- What the document's Check makes of the declarations. -/
def okD (n : Int) : Bool := decide (0 ≤ n) && decide (n ≤ 2147483647)
def declF : Nd → Fm → Fm | .mk _ _ n nm _ _ _ _, f => nameF nm true ⟨f.ok && okD n, f.names⟩
def declL : List Nd → Fm → Fm
  | [], f => f
  | x :: r, f => declL r (declF x f)
theorem declL_app : ∀ (l m : List Nd) (f : Fm), declL (l ++ m) f = declL m (declL l f)
  | [], m, f => by rw [List.nil_append]; rfl
  | y :: r, m, f => by rw [List.cons_append, declL, declL]; exact declL_app r m _
theorem declL_take {l : List Nd} {i : Nat} (hi : i < l.length) (f : Fm) : declL (l.take (i + 1)) f = declF l[i] (declL (l.take i) f) := by
  rw [← List.take_append_getElem hi, declL_app]; rfl
/-- What the document's Check answers. -/
def docP (ds ss : List Nd) : Int := if (progW ds ss).bad ≠ 0 then (progW ds ss).bad else toldF (formL ss (declL ds ⟨true, true⟩))

set_option maxRecDepth 100000 in
set_option maxHeartbeats 8000000 in
theorem rcheck_any (ds ss : List Nd) (v0 v1 : Value) (w : World) (hd : SlIn w .D ds v0) (hs : SlIn w .S ss v1) :
    Calls Tryz.prog 12 #[.agg #[v0, v1]] w (fun e w' => e = .returned (.int .i64 (docP ds ss)) ∧ Below w.heap.size w w') := by
  have hb0 : Below w.heap.size w (w.alloc (.cells #[v0, v1] 25)) := (Below.refl _ w).alloc (Nat.le_refl _) _
  have hC := walked_any ds ss v0 v1 (w.alloc (.cells #[v0, v1] 25)) (hd.keep (keeps_below hb0)) (hs.keep (keeps_below hb0))
  unfold docP
  obtain ⟨Q, hQ⟩ : ∃ Q, progW ds ss = Q := ⟨_, rfl⟩
  rw [hQ] at hC ⊢
  clear hQ
  unfold Wk.cells at hC
  obtain ⟨a0, c0, rfl, hlc0, hcm1, hrow0⟩ := hd
  obtain ⟨a1, c1, rfl, hlc1, hcm2, hrow1⟩ := hs
  have HROW1 := Lib.hid hrow0; clear hrow0
  have HROW2 := Lib.hid hrow1; clear hrow1
  have HC := Lib.hid hC; clear hC
  have HBW := Lib.hid hb0; clear hb0
  by_cases hz : Q.bad = 0
  · rw [if_neg (by simpa using hz)]
    have hz2 : (Q.bad != 0) = false := by simpa using hz
    clear hz
    obtain ⟨R, hR⟩ : ∃ R, toldF (formL ss (declL ds ⟨true, true⟩)) = R := ⟨_, rfl⟩
    rw [hR]
    have HR := Lib.hid hR; clear hR
    go_enter Tryz.func12, Tryz.ntmps12
    go_upto_block 0 with (first | (go_at_call 22; (with_reducible refine HC.out.mono ?_); rintro e w1 ⟨rfl, hb1⟩) | fail)
    clear hz2
    have hbw1 : Below w.heap.size w w1 := HBW.out.trans (hb1.mono HBW.out.size)
    have hs1 : w.heap.size < w1.heap.size := by have := hb1.size; simp at this; omega
    obtain ⟨W1, hW1⟩ : ∃ W1, (w1.alloc (.cells #[.int .i64 Q.n, .int .i64 Q.dep, .int .i64 Q.bad] 70)).alloc (.cells #[.bool true, .bool true] 73) = W1 := ⟨_, rfl⟩
    have hb : Below w.heap.size w W1 := by
      rw [← hW1]
      exact (hbw1.alloc hbw1.size _).alloc (by have := hbw1.size; simp; omega) _
    have hP1 : Blk W1 w.heap.size #[.slice a0 ds.length c0, .slice a1 ss.length c1] 25 := by
      rw [← hW1]
      have h := (Blk.new w #[.slice a0 ds.length c0, .slice a1 ss.length c1] 25).below hb1 (by simp)
      exact (h.alloc _).alloc _
    obtain ⟨B, hB⟩ : ∃ B, w1.heap.size + 1 = B := ⟨_, rfl⟩
    have hB1 : Blk W1 B (Fm.cells ⟨true, true⟩) 73 := by
      rw [← hW1, ← hB]
      have h := Blk.new (w1.alloc (.cells #[.int .i64 Q.n, .int .i64 Q.dep, .int .i64 Q.bad] 70)) #[.bool true, .bool true] 73
      rw [World.size_alloc] at h
      exact h
    rw [hB, hW1]
    have hne : w.heap.size ≠ B := by omega
    have hB0 : w.heap.size ≤ B := by omega
    have hb1' := Lib.hid hb; clear hb hb1 hbw1 hs1 hW1 hB HC HBW
    have HB1 := Lib.hid hB1; clear hB1
    have HX1 := Lib.hid hP1; clear hP1
    have HO1 := Lib.hid (Only.refl B W1)
    go_cut [5] (fun _ wx => Blk wx B (declL ds ⟨true, true⟩).cells 73 ∧ Blk wx w.heap.size #[.slice a0 ds.length c0, .slice a1 ss.length c1] 25 ∧ Only B W1 wx)
    case first =>
      go_wp2_with fail
      go_loopw [5] (fun x wr => ∃ i : Nat, x = .int .i64 i ∧ i ≤ ds.length ∧ Blk wr B (declL (ds.take i) ⟨true, true⟩).cells 73 ∧ Blk wr w.heap.size #[.slice a0 ds.length c0, .slice a1 ss.length c1] 25 ∧ Only B W1 wr) (fun x _ => ds.length - (intOf x).toNat)
      case atStart => exact ⟨0, rfl, by omega, by rw [List.take_zero, declL]; exact HB1.out, HX1.out, HO1.out⟩
      case round =>
        obtain ⟨i, rfl, hi, hBr, hXr, hOr⟩ := hrel
        clear HB1 HX1 HO1
        have e3 : wr.cell? ⟨w.heap.size, 0, none⟩ = some (.slice a0 ds.length c0) := hXr.cell 0
        have htk := fun h => declL_take (l := ds) (i := i) h ⟨true, true⟩
        have HX := Lib.hid hXr; clear hXr
        have HO := Lib.hid hOr; clear hOr
        by_cases hlt2 : i < ds.length
        · have hbi : (i : Int) + 1 ≤ 9223372036854775807 := by unfold maxLen at hcm1; omega
          have htk2 := htk hlt2
          clear htk
          obtain ⟨S, hS⟩ : ∃ S, declL (ds.take i) ⟨true, true⟩ = S := ⟨_, rfl⟩
          rw [hS] at hBr htk2
          clear hS
          have hxl : ¬ ds.length = 0 := by omega
          obtain ⟨b, o, rfl, hrow⟩ := HROW1.out.resolve_left hxl
          have hold : Below w.heap.size w wr := hb1'.out.trans (HO.out.old (by omega) hb1'.out.size)
          obtain ⟨hty, u0, u1, m0, m1, hnd⟩ := SlIn.item2 rfl hrow i hlt2
          have hbl : b < w.heap.size := World.block_lt_of_cell? w ⟨b, _, none⟩ m0
          have kk := keeps_below hold
          have k0 := kk _ _ _ m0
          have k1 := kk _ _ _ m1
          obtain ⟨X, hX⟩ : ∃ X, ds[i] = X := ⟨_, rfl⟩
          rw [hX] at hnd hty htk2
          clear hX m0 m1 kk hold hrow
          obtain ⟨ty, k, n, nm, xs, cs, ts, es⟩ := X
          simp only [Nd.ty] at hty
          subst hty
          unfold NdIn at hnd
          obtain ⟨hz, -, -, hnm, vx, vc, vt, ve, hvs, -⟩ := hnd
          simp only [lay, List.cons.injEq, and_true] at hvs
          obtain ⟨rfl, rfl⟩ := hvs
          clear hz
          simp only [declF] at htk2
          obtain ⟨ok, names⟩ := S
          have HTK := Lib.hid htk2; clear htk2
          have hb0 : wr.cell? ⟨B, 0, none⟩ = some (.bool ok) := hBr.cell 0
          have hf0 := hBr.free 0
          have HBr := Lib.hid hBr; clear hBr
          have HNM := Lib.hid hnm; clear hnm
          have hnb : b ≠ B := by omega
          go_upto_region 8 with fail
          go_cut [42] (fun _ wx => Blk wx B (Fm.cells ⟨ok && okD n, names⟩) 73 ∧ Blk wx w.heap.size #[.slice (some ⟨b, o, none⟩) ds.length c0, .slice a1 ss.length c1] 25 ∧ Only B W1 wx)
          case first =>
            cases ok with
            | false =>
              go_wp2_with fail
              go_meet
              exact ⟨by rw [Bool.false_and]; exact HBr.out.set 0 (.bool false), HX.out.only ((Only.refl B _).setCell (by rfl) _) hne, HO.out.setCell (by rfl) _⟩
            | true =>
            cases h1 : decide (0 ≤ n) with
            | false =>
              have e : okD n = false := by unfold okD; rw [h1]; rfl
              have E := Lib.hid e; clear e
              go_wp2_with fail
              go_meet
              exact ⟨by rw [E.out]; exact HBr.out.set 0 (.bool false), HX.out.only ((Only.refl B _).setCell (by rfl) _) hne, HO.out.setCell (by rfl) _⟩
            | true =>
              cases h2 : decide (n ≤ 2147483647) with
              | false =>
                have e : okD n = false := by unfold okD; rw [h1, h2]; rfl
                have E := Lib.hid e; clear e
                go_wp2_with fail
                go_meet
                exact ⟨by rw [E.out]; exact HBr.out.set 0 (.bool false), HX.out.only ((Only.refl B _).setCell (by rfl) _) hne, HO.out.setCell (by rfl) _⟩
              | true =>
                have e : okD n = true := by unfold okD; rw [h1, h2]; rfl
                have E := Lib.hid e; clear e
                go_wp2_with fail
                go_meet
                exact ⟨by rw [E.out]; exact HBr.out.set 0 (.bool true), HX.out.only ((Only.refl B _).setCell (by rfl) _) hne, HO.out.setCell (by rfl) _⟩
          case rest =>
            obtain ⟨hB2, hX2, hO2⟩ := hcut
            have k0 : wc.cell? ⟨b, o + i * 2, none⟩ = some (.string nm) := by
              have h := (HO.out.block b (by have := hb1'.out.size; omega) hnb)
              have h2 := (hO2.block b (by have := hb1'.out.size; omega) hnb)
              exact (World.cell?_of_block (a := ⟨b, o + i * 2, none⟩) (h2.trans h.symm)).trans k0
            have e3 : wc.cell? ⟨w.heap.size, 0, none⟩ = some (.slice (some ⟨b, o, none⟩) ds.length c0) := hX2.cell 0
            have HC := Lib.hid (fname_any nm true ⟨ok && okD n, names⟩ B wc HNM.out hB2)
            clear k1 hb0 hf0 HBr HX HO
            have HX := Lib.hid hX2; clear hX2
            have HO := Lib.hid hO2; clear hO2
            clear hB2
            go_wp2_with fail
            refine HC.out.mono ?_
            rintro e w2 ⟨rfl, hB3, hO3⟩
            rw [← HTK.out] at hB3
            have hX3 := HX.out.only hO3 hne
            have hO4 := HO.out.trans hO3
            have HB3 := Lib.hid hB3; clear hB3
            have HX3 := Lib.hid hX3; clear hX3
            clear hO3
            have HO4 := Lib.hid hO4; clear hO4
            go_wp2_with fail
            go_roundw
            case rel => exact ⟨i + 1, by go_num, by omega, HB3.out, HX3.out, HO4.out⟩
            case measure => simp [intOf]; omega
        · obtain rfl : i = ds.length := by omega
          rw [List.take_length] at hBr
          have HBr := Lib.hid hBr; clear hBr
          clear htk
          go_wp2_with fail
          go_meet
          exact ⟨HBr.out, HX.out, HO.out⟩
    case rest =>
      obtain ⟨hB2, hX2, hO2⟩ := hcut
      have HB2 := Lib.hid hB2; clear hB2
      have HX2 := Lib.hid hX2; clear hX2
      have HO2 := Lib.hid hO2; clear hO2
      clear HB1 HX1 HO1 HROW1
      obtain ⟨S1, hS1⟩ : ∃ S, declL ds ⟨true, true⟩ = S := ⟨_, rfl⟩
      rw [hS1] at HB2 HR
      clear hS1
      go_upto_block 2 with fail
      go_cut [6] (fun _ wx => Blk wx B (formL ss S1).cells 73 ∧ Blk wx w.heap.size #[.slice a0 ds.length c0, .slice a1 ss.length c1] 25 ∧ Only B W1 wx)
      case first =>
        go_wp2_with fail
        go_loopw [6] (fun x wr => ∃ i : Nat, x = .int .i64 i ∧ i ≤ ss.length ∧ Blk wr B (formL (ss.take i) S1).cells 73 ∧ Blk wr w.heap.size #[.slice a0 ds.length c0, .slice a1 ss.length c1] 25 ∧ Only B W1 wr) (fun x _ => ss.length - (intOf x).toNat)
        case atStart => exact ⟨0, rfl, by omega, by rw [List.take_zero, formL]; exact HB2.out, HX2.out, HO2.out⟩
        case round =>
          obtain ⟨i, rfl, hi, hBr, hXr, hOr⟩ := hrel
          clear HB2 HX2 HO2
          have e3 : wr.cell? ⟨w.heap.size, 1, none⟩ = some (.slice a1 ss.length c1) := hXr.cell 1
          have b2 : wr.cell? ⟨B, 0, none⟩ = some (.bool (formL (ss.take i) S1).ok) := hBr.cell 0
          have hstop := formL_stop (l := ss) (i := i) (f := S1)
          have htk := fun h => formL_take (l := ss) (i := i) h S1
          have HX := Lib.hid hXr; clear hXr
          have HO := Lib.hid hOr; clear hOr
          by_cases hlt2 : i < ss.length
          · have hbi : (i : Int) + 1 ≤ 9223372036854775807 := by unfold maxLen at hcm2; omega
            obtain ⟨S, hS⟩ : ∃ S, formL (ss.take i) S1 = S := ⟨_, rfl⟩
            rw [hS] at hBr b2 hstop htk
            clear hS
            have HBr := Lib.hid hBr; clear hBr
            have hxl : ¬ ss.length = 0 := by omega
            obtain ⟨b, o, rfl, hrow⟩ := HROW2.out.resolve_left hxl
            cases hb : S.ok with
            | true =>
              rw [hb] at b2
              have hold : Below w.heap.size w wr := hb1'.out.trans (HO.out.old (by omega) hb1'.out.size)
              obtain ⟨hty, u0, u1, u2, u3, u4, u5, m0, m1, m2, m3, m4, m5, hnd⟩ := SlIn.item6 rfl hrow i hlt2
              have kk := keeps_below hold
              have k0 := kk _ _ _ m0
              have k1 := kk _ _ _ m1
              have k2 := kk _ _ _ m2
              have k3 := kk _ _ _ m3
              have k4 := kk _ _ _ m4
              have k5 := kk _ _ _ m5
              have HC := Lib.hid (fstmt_any w B hB0 _ ss[i] u0 u1 u2 u3 u4 u5 S wr (Nat.le_refl _) hty hnd hold HBr.out)
              have HTK := Lib.hid (htk hlt2 hb)
              clear m0 m1 m2 m3 m4 m5 hnd hty hold kk hstop htk hrow hb
              go_wp2_with fail
              refine HC.out.mono ?_
              rintro e w2 ⟨rfl, hB2, hO2⟩
              rw [← HTK.out] at hB2
              have hX2 := HX.out.only hO2 hne
              have hO3 := HO.out.trans hO2
              have HB2 := Lib.hid hB2; clear hB2
              have HX2 := Lib.hid hX2; clear hX2
              clear hO2
              have HO3 := Lib.hid hO3; clear hO3
              go_wp2_with fail
              go_roundw
              case rel => exact ⟨i + 1, by go_num, by omega, HB2.out, HX2.out, HO3.out⟩
              case measure => simp [intOf]; omega
            | false =>
              rw [hb] at b2
              have HST := Lib.hid (hstop hb)
              clear hstop htk hb
              go_wp2_with fail
              go_meet
              exact ⟨by rw [HST.out]; exact HBr.out, HX.out, HO.out⟩
          · obtain rfl : i = ss.length := by omega
            rw [List.take_length] at hBr
            have HBr := Lib.hid hBr; clear hBr
            clear hstop htk b2
            go_wp2_with fail
            go_meet
            exact ⟨HBr.out, HX.out, HO.out⟩
      case rest =>
        obtain ⟨hB3, hX3, hO3⟩ := hcut
        clear HB2 HX2 HO2 HROW2 hX3
        obtain ⟨G, hG⟩ : ∃ G, formL ss S1 = G := ⟨_, rfl⟩
        rw [hG] at hB3 HR
        clear hG
        have l0 : wc.cell? ⟨B, 0, none⟩ = some (.bool G.ok) := hB3.cell 0
        have l1 : wc.cell? ⟨B, 1, none⟩ = some (.bool G.names) := hB3.cell 1
        have HO3 := Lib.hid hO3; clear hO3 hB3
        have HT := Lib.hid (told_any G wc)
        rw [HR.out] at HT
        go_wp2_with (first | (go_at_call 25; (with_reducible refine HT.out.mono ?_); rintro e w3 ⟨rfl, hb3⟩) | fail)
        go_ret
        have hb := hb1'.out.trans (HO3.out.old (by omega) hb1'.out.size)
        exact ⟨rfl, hb.trans (hb3.mono hb.size)⟩
  · rw [if_pos (by simpa using hz)]
    have hz2 : (Q.bad != 0) = true := by simpa using hz
    clear hz
    go_enter Tryz.func12, Tryz.ntmps12
    go_wp2_with (first | (go_at_call 22; (with_reducible refine HC.out.mono ?_); rintro e w1 ⟨rfl, hb1⟩) | fail)
    go_ret
    have hbw1 : Below w.heap.size w w1 := HBW.out.trans (hb1.mono HBW.out.size)
    exact ⟨rfl, hbw1.alloc hbw1.size _⟩

theorem formed_D : ∀ (ds : List Nd) (f : Fm), fitL .D ds → Formed (allL ds) f (declL ds f)
  | [], f, _ => by rw [allL, declL]; exact Formed.nil f
  | x :: r, f, h => by
    unfold fitL at h
    obtain ⟨hty, hx, hr⟩ := h
    rw [allL, declL]
    refine Formed.app ?_ (formed_D r _ hr)
    obtain ⟨ty, k, n, nm, xs, cs, ts, es⟩ := x
    simp only [Nd.ty] at hty
    subst hty
    unfold fitN at hx
    obtain ⟨⟨rfl, rfl, rfl, rfl, rfl⟩, -⟩ := hx
    have e : allN (.mk .D 0 n nm [] [] [] []) = [.mk .D 0 n nm [] [] [] []] := by
      unfold allN
      simp
    rw [e]
    refine Formed.one ?_ ?_
    · simp only [declF, nameF, if_true, wellN, wellD, okD]
      rw [Bool.not_or]
      congr 2
      · simp [← decide_not]
      · simp [← decide_not]
    · simp [declF, nameF, named, namelessB, mustN, ownNm]
theorem docP_same {ds ss : List Nd} (hd : fitL .D ds) (hs : ∀ y ∈ allL ss, y.ty ≠ .D) : docP ds ss = faultT (progT ds ss) := by
  unfold docP faultT
  rw [progW_T]
  by_cases hz : (progT ds ss).lim = 0
  · rw [if_neg (by simpa using hz), if_neg (by simpa using hz), progT_list hz, allL_app]
    obtain ⟨h1, h2⟩ := (formed_D ds ⟨true, true⟩ hd).app (formed_L ss (declL ds ⟨true, true⟩) hs)
    simp only [Bool.true_and] at h1 h2
    have ea : (allL ds ++ allL ss).any (fun x => !wellN x) = !(allL ds ++ allL ss).all wellN := by rw [List.not_all_eq_any_not]
    have eb : (allL ds ++ allL ss).any namelessB = !(allL ds ++ allL ss).all named := by
      rw [List.not_all_eq_any_not]
      congr 1
      funext y
      simp [named]
    rw [ea, eb]
    unfold toldF
    rw [h1] at h2 ⊢
    cases hw : (allL ds ++ allL ss).all wellN with
    | false => rfl
    | true =>
      rw [h2 hw]
      cases (allL ds ++ allL ss).all named <;> rfl
  · rw [if_pos (by simpa using hz), if_pos (by simpa using hz)]
theorem noD_list {w : World} {l : List Nd} {v : Value} (h : SlIn w .S l v) : ∀ y ∈ allL l, y.ty ≠ .D := noD_sl (ty := .S) (fun b o => noD_L w .S l (by decide) b o) h
theorem progW_match (ds ss : List Nd) : Match (progW ds ss) (progT ds ss) :=
  match_if (F := fun s => walkL ss 1 s) (fun s hs => walkL_bad ss 1 s hs) (match_L ds 1 ⟨0, 0, 0⟩ ⟨[], 0, 0⟩ ⟨rfl, rfl, rfl⟩ rfl) (fun hz => match_L ss 1 _ _ (match_L ds 1 ⟨0, 0, 0⟩ ⟨[], 0, 0⟩ ⟨rfl, rfl, rfl⟩ rfl) hz)

end Go.Proofs.YtbchibmmkmldiaaGreatDoor

/-
  From the checks of a program to what its text asks: proved is that a program without a fault has declarations and statements that have a text, and not too many.
-/
namespace Go.Proofs.YtbchibmmkmldiaaGreatDoor
open Go Go.RowKit

theorem goodSL_nil : goodSL [] := by unfold goodSL; trivial
theorem cntL_nil : cntL [] = 0 := by unfold cntL; rfl
theorem sl_good {w : World} {ty : Ty} (hty : ty = .E ∨ ty = .C) {l : List Nd} {v : Value} (h : SlOf l.length (fun b o => RowIn w ty l b o) v) (hall : ∀ y ∈ allL l, wellN y = true ∧ named y = true) : goodTL ty l ∧ cstL l ≤ 192 * (allL l).length :=
  sl_row h (fun b o hr => good_L w ty l b o hty hr hall) (fun h => by subst h; exact ⟨goodTL_nil _, by rw [cstL_nil]; omega⟩)
mutual
theorem good_S (w : World) : ∀ (x : Nd) (vs : List Value), x.ty = .S → NdIn w x vs → (allN x).length ≤ 4096 → (∀ y ∈ allN x, wellN y = true ∧ named y = true) → goodS x ∧ cntS x ≤ (allN x).length
  | .mk .S k n nm xs cs ts es, vs, _, hin, hlen, hall => by
    unfold NdIn at hin
    obtain ⟨-, -, -, -, vx, vc, vt, ve, -, hx, hc, ht, he⟩ := hin
    have e : allN (.mk .S k n nm xs cs ts es) = .mk .S k n nm xs cs ts es :: (allL cs ++ (allL xs ++ (allL ts ++ allL es))) := by unfold allN; rfl
    rw [e] at hall hlen ⊢
    simp only [List.length_cons, List.length_append] at hlen ⊢
    have hme := hall _ (List.mem_cons_self ..)
    have hX := sl_good (.inl rfl) hx (fun y hy => hall y (List.mem_cons_of_mem _ (List.mem_append_right _ (List.mem_append_left _ hy))))
    have hC := sl_good (.inr rfl) hc (fun y hy => hall y (List.mem_cons_of_mem _ (List.mem_append_left _ hy)))
    have hT : goodSL ts ∧ cntL ts ≤ (allL ts).length :=
      sl_row ht (fun b o hr => good_SL w ts b o hr (by omega) (fun y hy => hall y (List.mem_cons_of_mem _ (List.mem_append_right _ (List.mem_append_right _ (List.mem_append_left _ hy)))))) (fun h => by subst h; exact ⟨goodSL_nil, by rw [cntL_nil]; omega⟩)
    have hE : goodSL es ∧ cntL es ≤ (allL es).length :=
      sl_row he (fun b o hr => good_SL w es b o hr (by omega) (fun y hy => hall y (List.mem_cons_of_mem _ (List.mem_append_right _ (List.mem_append_right _ (List.mem_append_right _ hy)))))) (fun h => by subst h; exact ⟨goodSL_nil, by rw [cntL_nil]; omega⟩)
    have h1' : wellS k nm xs.length cs.length ts.length es.length = true := hme.1
    unfold wellS kindS ownS exprsS condsS at h1'
    simp only [Bool.and_eq_true, Bool.or_eq_true, decide_eq_true_eq, beq_iff_eq] at h1'
    obtain ⟨⟨hk, hnm⟩, hxl, hcl, -, hel⟩ := h1'
    have hsz : nm.size ≤ 128 := by
      by_cases hq : k = 1 ∨ k = 2
      · have h3 : (!(((k == 1) || (k == 2)) && !nameB nm)) = true := hme.2
        rw [show ((k == 1) || (k == 2)) = true by simpa using hq, Bool.true_and, Bool.not_not] at h3
        exact nm_small h3
      · have h3 := hnm.resolve_left hq
        have h4 : nm.size = 0 := by
          rw [← show nm.toList.length = nm.size by rw [Lib.toList_data]; rfl, h3]; rfl
        omega
    refine ⟨?_, ?_⟩
    · unfold goodS shS
      refine ⟨⟨hk.1, hk.2, fun h => ?_, fun h => ?_, fun h h2 => ?_, fun h => ?_⟩, hsz, hX.1, hC.1, by omega, by omega, hT.1, hE.1⟩
      · rw [if_pos h] at hxl; omega
      · rw [if_neg (by omega), if_pos h] at hxl; omega
      · rw [if_pos ⟨h, h2⟩] at hcl; omega
      · exact List.eq_nil_of_length_eq_zero (by omega)
    · unfold cntS
      omega
  | .mk .E k n nm xs cs ts es, _, h, _, _, _ => by simp [Nd.ty] at h
  | .mk .C k n nm xs cs ts es, _, h, _, _, _ => by simp [Nd.ty] at h
  | .mk .D k n nm xs cs ts es, _, h, _, _, _ => by simp [Nd.ty] at h
theorem good_SL (w : World) : ∀ (l : List Nd) (b o : Nat), RowIn w .S l b o → (allL l).length ≤ 4096 → (∀ y ∈ allL l, wellN y = true ∧ named y = true) → goodSL l ∧ cntL l ≤ (allL l).length
  | [], _, _, _, _, _ => ⟨goodSL_nil, by rw [cntL_nil]; omega⟩
  | x :: r, b, o, hrow, hlen, hall => by
    unfold RowIn at hrow
    obtain ⟨⟨hx, vs, -, hin⟩, hr⟩ := hrow
    have e : allL (x :: r) = allN x ++ allL r := by rw [allL]
    rw [e] at hall hlen ⊢
    rw [List.length_append] at hlen ⊢
    have h1 := good_S w x vs hx hin (by omega) (fun y hy => hall y (List.mem_append_left _ hy))
    have h2 := good_SL w r b _ hr (by omega) (fun y hy => hall y (List.mem_append_right _ hy))
    refine ⟨?_, ?_⟩
    · unfold goodSL
      exact ⟨hx, h1.1, h2.1⟩
    · unfold cntL
      omega
end
theorem good_DL (w : World) : ∀ (l : List Nd) (b o : Nat), RowIn w .D l b o → (∀ y ∈ allL l, wellN y = true ∧ named y = true) → (∀ y ∈ l, goodD y) ∧ l.length ≤ (allL l).length
  | [], _, _, _, _ => ⟨fun y hy => (List.not_mem_nil hy).elim, by simp⟩
  | x :: r, b, o, hrow, hall => by
    unfold RowIn at hrow
    obtain ⟨⟨hx, vs, -, hin⟩, hr⟩ := hrow
    have e : allL (x :: r) = allN x ++ allL r := by rw [allL]
    rw [e] at hall ⊢
    obtain ⟨h2, h3⟩ := good_DL w r b _ hr (fun y hy => hall y (List.mem_append_right _ hy))
    obtain ⟨ty, k, n, nm, xs, cs, ts, es⟩ := x
    simp only [Nd.ty] at hx
    subst hx
    have e2 : allN (.mk .D k n nm xs cs ts es) = [.mk .D k n nm xs cs ts es] := by unfold allN; rfl
    rw [e2] at hall ⊢
    have hme := hall _ (List.mem_append_left _ (List.mem_cons_self ..))
    refine ⟨fun y hy => ?_, by simp only [List.length_append, List.length_cons, List.length_nil]; omega⟩
    rcases List.mem_cons.1 hy with rfl | hy
    · have h1 : wellD n = true := hme.1
      unfold wellD at h1
      simp only [Bool.not_eq_true', Bool.or_eq_false_iff, decide_eq_false_iff_not] at h1
      have h4 : (!(true && !nameB nm)) = true := hme.2
      rw [Bool.true_and, Bool.not_not] at h4
      unfold goodD
      exact ⟨rfl, by omega, by omega, nm_small h4⟩
    · exact h2 y hy
theorem allL_app2 : ∀ (l m : List Nd), allL (l ++ m) = allL l ++ allL m
  | [], m => by simp [allL]
  | x :: r, m => by rw [List.cons_append, allL, allL, allL_app2 r m, List.append_assoc]
/-- A program without a fault has a text. -/
theorem prog_good {w : World} {ds ss : List Nd} {v0 v1 : Value} (hd : SlIn w .D ds v0) (hs : SlIn w .S ss v1) (hz : faultT (progT ds ss) = 0) : (∀ y ∈ ds, goodD y) ∧ ds.length ≤ 4096 ∧ goodSL ss ∧ cntL ss ≤ 4096 := by
  unfold faultT at hz
  have hok := (progT_ok ds ss).1
  by_cases h0 : (progT ds ss).lim = 0
  · rw [if_neg (by simpa using h0)] at hz
    rw [progT_list h0, allL_app2] at hz hok
    by_cases h1 : (allL ds ++ allL ss).any (fun x => !wellN x) = true
    · rw [if_pos h1] at hz; cases hz
    rw [if_neg h1] at hz
    by_cases h2 : (allL ds ++ allL ss).any namelessB = true
    · rw [if_pos h2] at hz; cases hz
    have hall : ∀ y ∈ allL ds ++ allL ss, wellN y = true ∧ named y = true := fun y hy => by
      refine ⟨?_, ?_⟩
      · cases hw : wellN y with
        | true => rfl
        | false => exact absurd (List.any_eq_true.2 ⟨y, hy, by simp [hw]⟩) h1
      · unfold named
        cases hw : namelessB y with
        | false => rfl
        | true => exact absurd (List.any_eq_true.2 ⟨y, hy, hw⟩) h2
    rw [List.length_append] at hok
    have hD : (∀ y ∈ ds, goodD y) ∧ ds.length ≤ (allL ds).length := sl_row hd (fun b o hr => good_DL w ds b o hr (fun y hy => hall y (List.mem_append_left _ hy))) (fun h => by subst h; exact ⟨fun y hy => (List.not_mem_nil hy).elim, by simp⟩)
    have hS : goodSL ss ∧ cntL ss ≤ (allL ss).length := sl_row hs (fun b o hr => good_SL w ss b o hr (by omega) (fun y hy => hall y (List.mem_append_right _ hy))) (fun h => by subst h; exact ⟨goodSL_nil, by rw [cntL_nil]; omega⟩)
    exact ⟨hD.1, by omega, hS.1, by omega⟩
  · rw [if_pos h0] at hz
    exact absurd hz h0
end Go.Proofs.YtbchibmmkmldiaaGreatDoor

/-
  The project's declarations and programs (print's decl, prog) and Print: proved is what they write, and what Print answers.
-/
namespace Go.Proofs.YtbchibmmkmldiaaGreatDoor
open Go Go.RowKit Go.Shelf

theorem itoa_any (n : Int) (h : i64ok n) (w : World) (htab : Lib.TabIs Tryz.prog w "internal/strconv.uint64pow10" .u64 Lib.pow10Tab) : Calls Tryz.prog 45 #[.int .i64 n] w (fun e w' => e = .returned (.string ⟨(Lib.itoa n).toArray⟩) ∧ Below w.heap.size w w') := by
  have h2 : -9223372036854775808 ≤ n ∧ n ≤ 9223372036854775807 := by
    unfold i64ok at h
    simp [Lit.wf] at h
    exact ⟨h.1, h.2⟩
  refine (Tryz.strconv_Itoa n h2.1 h2.2 w htab).mono ?_
  rintro e w' ⟨rfl, k, os, rfl⟩
  exact ⟨rfl, Lib.below_grow _ w (Nat.le_refl _) k os⟩
theorem i64_small {n : Int} (h0 : 0 ≤ n) (h1 : n ≤ 2147483647) : i64ok n := by
  unfold i64ok
  simp only [Lit.wf, Bool.and_eq_true, decide_eq_true_eq]
  rw [show IntKind.i64.min = -9223372036854775808 from rfl, show IntKind.i64.max = 9223372036854775807 from rfl]
  omega
theorem line3_any (s1 s2 s3 : ByteArray) (B0 b d : Nat) (l : List UInt8) (W : World) (h : Bd 45 [.int .i64 d] B0 b l W) (hd : d ≤ 8192) (hlen : l.length + 2 * d + (s1.size + s2.size + s3.size) + 1 ≤ 140737488355328) :
    Calls Tryz.prog 44 #[.pointer (some ⟨b, 0, none⟩), .slice (some ⟨W.heap.size, 0, none⟩) 3 3] (W.alloc (.cells #[.string s1, .string s2, .string s3] 9)) (Wrote 45 [.int .i64 d] B0 b (l ++ lnT d (lst s1 ++ (lst s2 ++ (lst s3)))) W) := by
  have ec : catT [s1, s2, s3] = lst s1 ++ (lst s2 ++ (lst s3)) := by simp [catT]
  have h := lineL_any [s1, s2, s3] B0 b d l W h hd (by simp) (by rw [ec]; simp only [List.length_append, lst_len]; omega)
  rw [ec] at h
  exact h
theorem line5_any (s1 s2 s3 s4 s5 : ByteArray) (B0 b d : Nat) (l : List UInt8) (W : World) (h : Bd 45 [.int .i64 d] B0 b l W) (hd : d ≤ 8192) (hlen : l.length + 2 * d + (s1.size + s2.size + s3.size + s4.size + s5.size) + 1 ≤ 140737488355328) :
    Calls Tryz.prog 44 #[.pointer (some ⟨b, 0, none⟩), .slice (some ⟨W.heap.size, 0, none⟩) 5 5] (W.alloc (.cells #[.string s1, .string s2, .string s3, .string s4, .string s5] 9)) (Wrote 45 [.int .i64 d] B0 b (l ++ lnT d (lst s1 ++ (lst s2 ++ (lst s3 ++ (lst s4 ++ (lst s5)))))) W) := by
  have ec : catT [s1, s2, s3, s4, s5] = lst s1 ++ (lst s2 ++ (lst s3 ++ (lst s4 ++ (lst s5)))) := by simp [catT]
  have h := lineL_any [s1, s2, s3, s4, s5] B0 b d l W h hd (by simp) (by rw [ec]; simp only [List.length_append, lst_len]; omega)
  rw [ec] at h
  exact h

set_option maxRecDepth 100000 in
set_option maxHeartbeats 8000000 in
theorem decl_any (w0 : World) (B0 b : Nat) (hB0 : w0.heap.size ≤ B0) (htab : Lib.TabIs Tryz.prog w0 "internal/strconv.uint64pow10" .u64 Lib.pow10Tab) (x : Nd) (hg : goodD x) (us : List Value) (l : List UInt8) (w : World) (hin : NdIn w0 x us) (hw : Below w0.heap.size w0 w) (h : Bd 45 [.int .i64 ((0 : Nat) : Int)] B0 b l w) (hlen : l.length + 1000 ≤ 137438953472) :
    Calls Tryz.prog 20 #[.pointer (some ⟨b, 0, none⟩), .agg us.toArray] w (Wrote 45 [.int .i64 ((0 : Nat) : Int)] B0 b (l ++ dcT x) w) := by
  have hBw : B0 ≤ w.heap.size := Nat.le_trans h.base (Nat.le_of_lt h.size)
  obtain ⟨ty, k, n, nm, xs, cs, ts, es⟩ := x
  unfold goodD at hg
  obtain ⟨rfl, h0, h1, hnm⟩ := hg
  unfold NdIn at hin
  obtain ⟨-, -, -, -, vx, vc, vt, ve, rfl, -⟩ := hin
  change Calls _ _ #[_, .agg #[.string nm, .int .i64 n]] w _
  have hi := i64_small h0 h1
  have hil := itoa_len hi
  obtain ⟨W1, hW1⟩ : ∃ W1, w.alloc (.cells #[.string nm, .int .i64 n] 54) = W1 := ⟨_, rfl⟩
  obtain ⟨X, hX⟩ : ∃ X, w.heap.size = X := ⟨_, rfl⟩
  have hX1 : Blk W1 X #[.string nm, .int .i64 n] 54 := by rw [← hW1, ← hX]; exact Blk.new w _ _
  have hb1 : Bd 45 [.int .i64 ((0 : Nat) : Int)] B0 b l W1 := by rw [← hW1]; exact h.alloc _
  have hk1 : Kp B0 b w W1 := by rw [← hW1]; exact (Kp.refl _ _ _).alloc hBw _
  have hXb : X ≠ b := by have := h.size; omega
  have hB1 : B0 ≤ W1.heap.size := Nat.le_trans hBw hk1.size
  have hold : Below w0.heap.size w0 W1 := hk1.old hw hB0
  have m0 : W1.cell? ⟨X, 0, none⟩ = some (.string nm) := hX1.cell 0
  have m1 : W1.cell? ⟨X, 1, none⟩ = some (.int .i64 n) := hX1.cell 1
  have HTAB := Lib.hid (tab_next htab hold); clear htab
  have HX1 := Lib.hid hX1; clear hX1
  have HK1 := Lib.hid hk1; clear hk1 h
  have H1 := Lib.hid hb1; clear hb1
  have HOLD := Lib.hid hold; clear hold
  have HW1 := Lib.hid hW1; clear hW1
  have HXX := Lib.hid hX; clear hX
  go_enter Tryz.func20, Tryz.ntmps20
  go_upto_region 1 with fail
  rw [HW1.out, HXX.out]
  clear HW1
  by_cases q0 : n = 0
  · have e0 : dcT (.mk .D k n nm xs cs ts es) = lnT 0 (lst tVar ++ (lst nm ++ lst tSemi)) := by unfold dcT; exact if_pos q0
    have E0 := Lib.hid e0; clear e0
    have HC := Lib.hid (line3_any ⟨#[118, 97, 114, 32]⟩ nm ⟨#[59]⟩ B0 b 0 l W1 H1.out (by omega) (by rw [show (⟨#[118, 97, 114, 32]⟩ : ByteArray).size = 4 from rfl, show (⟨#[59]⟩ : ByteArray).size = 1 from rfl]; omega))
    have qt : (n == 0) = true := by simpa using q0
    have Q0 := Lib.hid q0; clear q0 h0 h1 hi hil
    go_wp2_with fail
    (with_reducible refine HC.out.mono ?_)
    rintro e w2 ⟨rfl, h2, hk2⟩
    have H2 := Lib.hid h2; clear h2
    have HK2 := Lib.hid (HK1.out.trans hk2); clear hk2
    go_wp2_with fail
    go_end0
    refine ⟨rfl, ?_, HK2.out⟩
    rw [E0.out]
    exact H2.out
  · have e0 : dcT (.mk .D k n nm xs cs ts es) = lnT 0 (lst tArray ++ (lst nm ++ (lst tOpen ++ (Lib.itoa n ++ [93, 59])))) := by unfold dcT; exact if_neg q0
    have E0 := Lib.hid e0; clear e0
    have qt : (n == 0) = false := by simpa using q0
    have HF := Lib.hid (itoa_any n hi W1.drew HTAB.out)
    clear q0 h0 h1 hi
    go_upto_region 3 with fail
    go_region_with (first | (go_at_call 45; (with_reducible refine HF.out.mono ?_); rintro e w3 ⟨rfl, hb3⟩; (have n0 : w3.cell? ⟨X, 0, none⟩ = some (.string nm) := ((show Blk W1.drew X _ _ from HX1.out).below hb3 HX1.out.lt).cell 0); (have HC := Lib.hid (line5_any ⟨#[97, 114, 114, 97, 121, 32]⟩ nm ⟨#[91]⟩ ⟨(Lib.itoa n).toArray⟩ ⟨#[93, 59]⟩ B0 b 0 l w3 (H1.out.drew.below hb3) (by omega) (by rw [show (⟨#[97, 114, 114, 97, 121, 32]⟩ : ByteArray).size = 6 from rfl, show (⟨#[91]⟩ : ByteArray).size = 1 from rfl, show (⟨#[93, 59]⟩ : ByteArray).size = 2 from rfl, show (⟨(Lib.itoa n).toArray⟩ : ByteArray).size = (Lib.itoa n).length from rfl]; omega))); (have HK3 := Lib.hid (HK1.out.drew.trans (Kp.below hb3 hB1))); clear hb3) | (go_at_call 44; (with_reducible refine HC.out.mono ?_); rintro e w4 ⟨rfl, h4, hk4⟩; (have H4 := Lib.hid h4); (have HK4 := Lib.hid (HK3.out.trans hk4)); clear h4 hk4))
    all_goals
      go_wp2_with fail
      go_end0
      refine ⟨rfl, ?_, HK4.out⟩
      rw [E0.out]
      exact H4.out

set_option maxRecDepth 100000 in
set_option maxHeartbeats 8000000 in
theorem prog_any (w0 : World) (B0 b : Nat) (hB0 : w0.heap.size ≤ B0) (htab : Lib.TabIs Tryz.prog w0 "internal/strconv.uint64pow10" .u64 Lib.pow10Tab) (ds ss : List Nd) (hgd : ∀ x ∈ ds, goodD x) (hdn : ds.length ≤ 4096) (hgs : goodSL ss) (hsn : cntL ss ≤ 4096) (v0 v1 : Value) (l : List UInt8) (w : World) (hd : SlIn w0 .D ds v0) (hs : SlIn w0 .S ss v1) (hw : Below w0.heap.size w0 w) (h : Bd 45 [.int .i64 ((0 : Nat) : Int)] B0 b l w) (hlen : l.length ≤ 1000) :
    Calls Tryz.prog 9 #[.pointer (some ⟨b, 0, none⟩), .agg #[v0, v1]] w (Wrote 45 [.int .i64 ((0 : Nat) : Int)] B0 b (l ++ prT ds ss) w) := by
  have hBw : B0 ≤ w.heap.size := Nat.le_trans h.base (Nat.le_of_lt h.size)
  have hdl := dcL_le ds hgd
  have hS : WList w0 B0 b 0 ss := stmts_any w0 B0 b 0 hB0 ss (fun i hi => stmt_any w0 B0 b hB0 htab _ 0 ss[i] (Nat.le_refl _) (goodSL_at hgs i hi).1 (goodSL_at hgs i hi).2 (by have := cntL_at ss i hi; omega)) hgs (by omega)
  have hST := fun l w hw h hl => hS v1 l w hs hw h hl
  have HST := Lib.hid hST; clear hST hS
  have hDC := fun (i : Nat) (hi : i < ds.length) => decl_any w0 B0 b hB0 htab (ds[i]'hi) (hgd _ (List.getElem_mem hi))
  have HDC := Lib.hid hDC; clear hDC
  have hle := fun i => Nat.le_trans (dcL_le (ds.take i) (fun x hx => hgd x (List.mem_of_mem_take hx))) (Nat.mul_le_mul_left 256 (List.length_take_le' i ds))
  have HLE := Lib.hid hle; clear hle
  obtain ⟨a, c, rfl, -, hcm, hrow⟩ := hd
  obtain ⟨a1, c1, rfl, -⟩ := hs
  obtain ⟨W1, hW1⟩ : ∃ W1, w.alloc (.cells #[.slice a ds.length c, .slice a1 ss.length c1] 25) = W1 := ⟨_, rfl⟩
  obtain ⟨X, hX⟩ : ∃ X, w.heap.size = X := ⟨_, rfl⟩
  have hX1 : Blk W1 X #[.slice a ds.length c, .slice a1 ss.length c1] 25 := by rw [← hW1, ← hX]; exact Blk.new w _ _
  have h1 : Bd 45 [.int .i64 ((0 : Nat) : Int)] B0 b l W1 := by rw [← hW1]; exact h.alloc _
  have hk1 : Kp B0 b w W1 := by rw [← hW1]; exact (Kp.refl _ _ _).alloc hBw _
  have hXb : X ≠ b := by have := h.size; omega
  have m0 : W1.cell? ⟨X, 0, none⟩ = some (.slice a ds.length c) := hX1.cell 0
  have HROW := Lib.hid hrow; clear hrow
  have H0 := Lib.hid h1; clear h1 h
  have HW := Lib.hid hw; clear hw
  have HK0 := Lib.hid hk1; clear hk1
  have HX0 := Lib.hid hX1; clear hX1
  have HW1 := Lib.hid hW1; clear hW1
  have HXX := Lib.hid hX; clear hX
  go_enter Tryz.func9, Tryz.ntmps9
  go_upto_region 1 with fail
  rw [HW1.out, HXX.out]
  clear HW1
  go_upto_block 0 with fail
  go_cut [9] (fun _ wx => Bd 45 [.int .i64 ((0 : Nat) : Int)] B0 b (l ++ dcL ds) wx ∧ Kp B0 b w wx ∧ Blk wx X #[.slice a ds.length c, .slice a1 ss.length c1] 25)
  case first =>
    go_wp2_with fail
    go_loopw [9] (fun x wr => ∃ i : Nat, x = .int .i64 i ∧ i ≤ ds.length ∧ Bd 45 [.int .i64 ((0 : Nat) : Int)] B0 b (l ++ dcL (ds.take i)) wr ∧ Kp B0 b w wr ∧ Blk wr X #[.slice a ds.length c, .slice a1 ss.length c1] 25) (fun x _ => ds.length - (intOf x).toNat)
    case atStart => exact ⟨0, rfl, by omega, by rw [List.take_zero, dcL, List.append_nil]; exact H0.out, HK0.out, HX0.out⟩
    case round =>
      obtain ⟨i, rfl, hi, hBr, hKr, hXr⟩ := hrel
      clear m0
      have HBr := Lib.hid hBr; clear hBr
      have HKr := Lib.hid hKr; clear hKr
      have HXr := Lib.hid hXr; clear hXr
      by_cases hlt : i < ds.length
      · have hbi : (i : Int) + 1 ≤ 9223372036854775807 := by unfold maxLen at hcm; omega
        obtain ⟨g, o, rfl, hrow⟩ := HROW.out.resolve_left (by omega)
        obtain ⟨hty, u0, u1, n0, n1, hnd⟩ := SlIn.item2 rfl hrow i hlt
        obtain ⟨sn, sz, rfl, rfl⟩ := NdIn.formD hty hnd
        have hold : Below w0.heap.size w0 wr := HKr.out.old HW.out hB0
        have kk := keeps_below hold
        have k0 := kk _ _ _ n0
        have k1 := kk _ _ _ n1
        have hBr : B0 ≤ wr.heap.size := Nat.le_trans hBw HKr.out.size
        obtain ⟨W2, hW2⟩ : ∃ W2, wr.alloc (.cells #[.string sn, .int .i64 sz] 54) = W2 := ⟨_, rfl⟩
        have hk1 : Kp B0 b wr W2 := by rw [← hW2]; exact (Kp.refl _ _ _).alloc hBr _
        have h1 : Bd 45 [.int .i64 ((0 : Nat) : Int)] B0 b (l ++ dcL (ds.take i)) W2 := by rw [← hW2]; exact HBr.out.alloc _
        have hX2 : Blk W2 X #[.slice (some ⟨g, o, none⟩) ds.length c, .slice a1 ss.length c1] 25 := by rw [← hW2]; exact HXr.out.alloc _
        have hlt2 := HLE.out i
        have HC := Lib.hid (HDC.out i hlt _ _ W2 hnd ((HKr.out.trans hk1).old HW.out hB0) h1 (by rw [List.length_append]; omega))
        have HK1 := Lib.hid (HKr.out.trans hk1); clear hk1 h1 hlt2
        have HX2 := Lib.hid hX2; clear hX2
        have HW2 := Lib.hid hW2; clear hW2
        clear n0 n1 kk hrow hnd hty hold
        go_wp2_with fail
        rw [HW2.out]
        (with_reducible refine HC.out.mono ?_)
        rintro e w2 ⟨rfl, h2, hk2⟩
        have hX3 := HX2.out.kp hk2 hXb (by decide)
        have H2 := Lib.hid h2; clear h2
        have HK2 := Lib.hid (HK1.out.trans hk2); clear hk2
        have HX3 := Lib.hid hX3; clear hX3
        go_wp2_with fail
        go_roundw
        case rel =>
          refine ⟨i + 1, by go_num, by omega, ?_, HK2.out, HX3.out⟩
          have h := H2.out
          rw [List.append_assoc] at h
          rw [dcL_take hlt]
          exact h
        case measure => simp [intOf]; omega
      · obtain rfl : i = ds.length := by omega
        go_wp2_with fail
        go_meet
        refine ⟨?_, HKr.out, HXr.out⟩
        have h := HBr.out
        rw [List.take_length] at h
        exact h
  case rest =>
    obtain ⟨hB3, hK3, hX3⟩ := hcut
    clear m0
    have m1 : wc.cell? ⟨X, 1, none⟩ = some (.slice a1 ss.length c1) := hX3.cell 1
    have HC := Lib.hid (HST.out _ wc (hK3.old HW.out hB0) hB3 (by rw [List.length_append]; omega))
    have HK3 := Lib.hid hK3; clear hK3 hB3 hX3
    go_wp2_with fail
    (with_reducible refine HC.out.mono ?_)
    rintro e w2 ⟨rfl, h2, hk2⟩
    have H2 := Lib.hid h2; clear h2
    have HK2 := Lib.hid (HK3.out.trans hk2); clear hk2
    go_wp2_with fail
    go_end0
    refine ⟨rfl, ?_, HK2.out⟩
    have h := H2.out
    rw [List.append_assoc] at h
    exact h
end Go.Proofs.YtbchibmmkmldiaaGreatDoor
