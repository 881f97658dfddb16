/-
  Plain: two rows of all nodes of trees have the same labels just if the trees are the same.
-/
import Derived.Test.YtjpopelbdhgidaaGreatDoorQThru
import Derived.ChangeKeysEq
import Derived.Laws.StructEq
import Derived.Test.YtjpopelbdhgidaaGreatDoorQTwalkS
import Derived.BigQuiet
import Derived.Outline
import Derived.Deep.DeepCutAuto
import Derived.Deep.CutBlock
import Derived.Test.YtjpopelbdhgidaaGreatDoorQFault
/-
  The project's label of a node (tree's labelOf): proved is what it holds: the node's type as a letter, its two numbers, its name, how many nodes each of its lists has; and that nothing that lay is turned.
-/
namespace Go.Proofs.YtjpopelbdhgidaaGreatDoor
open Go Go.RowKit

end Go.Proofs.YtjpopelbdhgidaaGreatDoor

/-
  Two labels of nodes are compared part by part: proved is what the comparison of the struct (with its array) answers.
-/
namespace Go.Proofs.YtjpopelbdhgidaaGreatDoor
open Go Go.RowKit
end Go.Proofs.YtjpopelbdhgidaaGreatDoor

/-
  The document's sameness of expressions (gnomonref3's SameExpr): proved is that it answers whether two trees in memory are the same, and that it turns nothing that lay.
-/
namespace Go.Proofs.YtjpopelbdhgidaaGreatDoor
open Go Go.RowKit

end Go.Proofs.YtjpopelbdhgidaaGreatDoor

/-
  The project's Check, Depth and Nodes of a program (tree's): proved is what each answers, and that it turns nothing that lay.
-/
namespace Go.Proofs.YtjpopelbdhgidaaGreatDoor
open Go Go.RowKit

theorem fault_list (w0 w : World) (B : Nat) (t : Tr) (v : Value) (hB : Blk w B #[v, .int .i64 t.dep, .int .i64 t.lim] 202) (hl : ListOf w0 w t.l v) (hlm : t.l.length ≤ 4096) :
    Calls Tryz.prog 131 #[.pointer (some ⟨B, 0, none⟩)] w (fun e w' => e = .returned (.int .i64 (faultT t)) ∧ Below w.heap.size w w') := by
  obtain ⟨a, b, c, rfl, hl0⟩ := hl
  have hl : t.l.length = 0 ∨ (a = some ⟨b, 0, none⟩ ∧ CellsAre w0 w t.l b 0) := hl0.imp id (fun h => ⟨h.1, h.2.1⟩)
  clear hl0
  have c0 : w.cell? ⟨B, 0, none⟩ = some (.slice a t.l.length c) := hB.cell 0
  have c2 : w.cell? ⟨B, 2, none⟩ = some (.int .i64 t.lim) := hB.cell 2
  have hlt := hB.lt
  clear hB
  by_cases hz : t.lim = 0
  · have hz2 : (t.lim != 0) = false := by simpa using hz
    have hfa : faultT t = if t.l.any (fun x => !wellN x) then 30 else if t.l.any namelessB then 31 else 0 := by unfold faultT; rw [if_neg (by simpa using hz)]
    have h1 := contains_formless w0 t.l b 0 c a w hlm hl
    have h2 := fun w1 (hb : Below w.heap.size w w1) => contains_nameless w0 t.l b 0 c a w1 hlm (hl.imp id fun ⟨e, h⟩ => ⟨e, h.keep hb⟩)
    have H2 := Lib.hid h2; clear h2 hl
    obtain ⟨p, hp⟩ : ∃ p, t.l.any (fun x => !wellN x) = p := ⟨_, rfl⟩
    obtain ⟨q, hq⟩ : ∃ q, t.l.any namelessB = q := ⟨_, rfl⟩
    rw [hp, hq] at hfa
    rw [hp] at h1
    simp only [hq] at H2
    rw [hfa]
    clear hfa hp hq hz
    have H1 := Lib.hid h1; clear h1
    cases p with
    | true =>
      go_enter Tryz.func131, Tryz.ntmps131
      go_wp2_with (first | (go_at_call 168; (with_reducible refine H1.out.mono ?_); rintro e w1 ⟨rfl, hb⟩) | fail)
      go_ret
      exact ⟨rfl, hb⟩
    | false =>
      cases q with
      | true =>
        go_enter Tryz.func131, Tryz.ntmps131
        go_upto_if 13 with (first | (go_at_call 168; (with_reducible refine H1.out.mono ?_); rintro e w1 ⟨rfl, hb⟩) | fail)
        have k0 := (hb.cell (p := ⟨B, 0, none⟩) hlt).trans c0
        have hc := H2.out w1 hb
        have HC := Lib.hid hc; clear hc
        have HB := Lib.hid hb; clear hb
        go_wp2_with (first | (go_at_call 168; (with_reducible refine HC.out.mono ?_); rintro e w2 ⟨rfl, hb2⟩) | fail)
        go_ret
        exact ⟨rfl, HB.out.trans (hb2.mono HB.out.size)⟩
      | false =>
        go_enter Tryz.func131, Tryz.ntmps131
        go_upto_if 13 with (first | (go_at_call 168; (with_reducible refine H1.out.mono ?_); rintro e w1 ⟨rfl, hb⟩) | fail)
        have k0 := (hb.cell (p := ⟨B, 0, none⟩) hlt).trans c0
        have hc := H2.out w1 hb
        have HC := Lib.hid hc; clear hc
        have HB := Lib.hid hb; clear hb
        go_wp2_with (first | (go_at_call 168; (with_reducible refine HC.out.mono ?_); rintro e w2 ⟨rfl, hb2⟩) | fail)
        go_ret
        exact ⟨rfl, HB.out.trans (hb2.mono HB.out.size)⟩
  · have hz2 : (t.lim != 0) = true := by simpa using hz
    have hfa : faultT t = t.lim := by unfold faultT; rw [if_pos (by simpa using hz)]
    rw [hfa]
    clear hfa hz hl
    go_enter Tryz.func131, Tryz.ntmps131
    go_wp2
    go_ret
    exact ⟨rfl, Below.refl _ w⟩

set_option maxRecDepth 100000 in
set_option maxHeartbeats 4000000 in
theorem tcheck_any (ds ss : List Nd) (v0 v1 : Value) (w : World) (hd : SlIn w .D ds v0) (hs : SlIn w .S ss v1) :
    Calls Tryz.prog 83 #[.agg #[v0, v1]] w (fun e w' => e = .returned (.int .i64 (faultT (progT ds ss))) ∧ Below w.heap.size w w') := by
  have hlen := (progT_ok ds ss).1
  have hb0 : Below w.heap.size w (w.alloc (.cells #[v0, v1] 25)) := (Below.refl _ w).alloc (Nat.le_refl _) _
  have hT := through_any ds ss v0 v1 (w.alloc (.cells #[v0, v1] 25)) (hd.keep (keeps_below hb0)) (hs.keep (keeps_below hb0))
  obtain ⟨Q, hQ⟩ : ∃ Q, progT ds ss = Q := ⟨_, rfl⟩
  rw [hQ] at hT hlen ⊢
  clear hQ
  obtain ⟨FT, hFT⟩ : ∃ FT, faultT Q = FT := ⟨_, rfl⟩
  rw [hFT]
  have HFT := Lib.hid hFT; clear hFT
  obtain ⟨a0, c0, rfl, -⟩ := hd
  obtain ⟨a1, c1, rfl, -⟩ := hs
  obtain ⟨W0, hW0⟩ : ∃ W0, w.alloc (.cells #[.slice a0 ds.length c0, .slice a1 ss.length c1] 25) = W0 := ⟨_, rfl⟩
  rw [hW0] at hT hb0
  have e0 : W0.cell? ⟨w.heap.size, 0, none⟩ = some (.slice a0 ds.length c0) := by rw [← hW0]; exact (Blk.new w _ _).cell 0
  have e1 : W0.cell? ⟨w.heap.size, 1, none⟩ = some (.slice a1 ss.length c1) := by rw [← hW0]; exact (Blk.new w _ _).cell 1
  have HT := Lib.hid hT; clear hT
  have HB0 := Lib.hid hb0; clear hb0
  have HW0 := Lib.hid hW0; clear hW0
  go_enter Tryz.func83, Tryz.ntmps83
  go_upto_region 1 with fail
  rw [HW0.out]
  clear HW0
  go_upto_region 2 with (first | (go_at_call 130; (with_reducible refine HT.out.mono ?_); rintro e w1 ⟨v, rfl, hl, hb1⟩; obtain ⟨a, b, c, rfl, hl⟩ := hl; have HL := Lib.hid hl; clear hl; have HB1 := Lib.hid (HB0.out.trans (hb1.mono HB0.out.size)); clear hb1) | fail)
  have hX : Blk (w1.alloc (.cells #[.slice a Q.l.length c, .int .i64 Q.dep, .int .i64 Q.lim] 202)) w1.heap.size #[.slice a Q.l.length c, .int .i64 Q.dep, .int .i64 Q.lim] 202 := Blk.new w1 _ _
  have hb2 : Below w.heap.size w (w1.alloc (.cells #[.slice a Q.l.length c, .int .i64 Q.dep, .int .i64 Q.lim] 202)) := HB1.out.alloc HB1.out.size _
  have hl2 : ListOf W0 (w1.alloc (.cells #[.slice a Q.l.length c, .int .i64 Q.dep, .int .i64 Q.lim] 202)) Q.l (.slice a Q.l.length c) := ListOf.keep ⟨a, b, c, rfl, HL.out⟩ ((Below.refl _ w1).alloc (Nat.le_refl _) _)
  obtain ⟨W2, hW2⟩ : ∃ W2, w1.alloc (.cells #[.slice a Q.l.length c, .int .i64 Q.dep, .int .i64 Q.lim] 202) = W2 := ⟨_, rfl⟩
  rw [hW2] at hX hb2 hl2 ⊢
  have HF := Lib.hid (fault_list W0 W2 w1.heap.size Q _ hX hl2 hlen)
  rw [HFT.out] at HF
  clear HFT hl2 HL HB1 HT HB0 e0 e1 hW2
  have HB2 := Lib.hid hb2; clear hb2
  clear hX
  go_wp2_with (first | (go_at_call 131; (with_reducible refine HF.out.mono ?_); rintro e w3 ⟨rfl, hb3⟩) | fail)
  go_ret
  exact ⟨rfl, HB2.out.trans (hb3.mono HB2.out.size)⟩

end Go.Proofs.YtjpopelbdhgidaaGreatDoor

/-
  The project's answer for an expression and for a condition (tree's Expr, Cond): proved is what each answers, and that it turns nothing that lay.
-/
namespace Go.Proofs.YtjpopelbdhgidaaGreatDoor
open Go Go.RowKit

end Go.Proofs.YtjpopelbdhgidaaGreatDoor

/-
  Plain: the document's walk and the project's tour meet the same nodes: the same number, the same depth, the same limit.
-/
namespace Go.Proofs.YtjpopelbdhgidaaGreatDoor
open Go Go.RowKit

end Go.Proofs.YtjpopelbdhgidaaGreatDoor

/-
  Plain: the document's form of a tree says what the project asks of each of its nodes.
-/
namespace Go.Proofs.YtjpopelbdhgidaaGreatDoor
open Go Go.RowKit

mutual
/-- All nodes of a tree, in the nodes' order. -/
def allN : Nd → List Nd
  | .mk ty k n nm xs cs ts es => .mk ty k n nm xs cs ts es :: match ty with
    | .E => allL xs
    | .C => allL xs ++ allL cs
    | .S => allL cs ++ (allL xs ++ (allL ts ++ allL es))
    | .D => []
def allL : List Nd → List Nd
  | [] => []
  | x :: r => allN x ++ allL r
end
def named (y : Nd) : Bool := !namelessB y
/-- f' is f with what the nodes of l ask. -/
def Formed (l : List Nd) (f f' : Fm) : Prop := f'.ok = (f.ok && l.all wellN) ∧ (f'.ok = true → f'.names = (f.names && l.all named))
theorem Formed.nil (f : Fm) : Formed [] f f := ⟨by simp, fun _ => by simp⟩
theorem Formed.app {l m : List Nd} {f g h : Fm} (a : Formed l f g) (b : Formed m g h) : Formed (l ++ m) f h := by
  refine ⟨?_, fun hh => ?_⟩
  · rw [b.1, a.1, List.all_append, Bool.and_assoc]
  · have hg : g.ok = true := by
      have := b.1
      rw [hh] at this
      cases hgo : g.ok with
      | true => rfl
      | false => rw [hgo] at this; simp at this
    rw [b.2 hh, a.2 hg, List.all_append, Bool.and_assoc]
theorem Formed.one {x : Nd} {f g : Fm} (h1 : g.ok = (f.ok && wellN x)) (h2 : g.names = (f.names && named x)) : Formed [x] f g := ⟨by simp [h1], fun _ => by simp [h2]⟩
end Go.Proofs.YtjpopelbdhgidaaGreatDoor

/-
  Plain: the document's answer for an expression or a condition is the project's.
-/
namespace Go.Proofs.YtjpopelbdhgidaaGreatDoor
open Go Go.RowKit

theorem if_lim {a rest : Tr} (h : (if a.lim ≠ 0 then a else rest).lim = 0) : a.lim = 0 ∧ (if a.lim ≠ 0 then a else rest) = rest := by
  by_cases hz : a.lim = 0
  · exact ⟨hz, if_neg (by simpa using hz)⟩
  · rw [if_pos (by simpa using hz)] at h
    exact absurd h hz
theorem list_node {x : Nd} {d : Int} {t : Tr} (h : (nodeT x d t).lim = 0) : (nodeT x d t).l = t.l ++ [x] := by
  unfold nodeT at h ⊢
  by_cases hz : byd t.l.length d = 0
  · rw [if_neg (by simpa using hz)]
  · rw [if_pos (by simpa using hz)] at h
    exact absurd h hz
mutual
theorem list_N : ∀ (x : Nd) (d : Int) (t : Tr), (tourN x d t).lim = 0 → (tourN x d t).l = t.l ++ allN x
  | .mk ty k n nm xs cs ts es, d, t, h => by
    unfold tourN at h ⊢
    unfold allN
    obtain ⟨h1, e1⟩ := if_lim h
    rw [e1] at h ⊢
    have l1 := list_node h1
    cases ty with
    | E =>
      have h2 := list_L xs (d + 1) _ h
      rw [l1, List.append_assoc] at h2
      exact h2
    | C =>
      obtain ⟨h2, e2⟩ := if_lim h
      have l2 := list_L xs (d + 1) _ h2
      have e3 := congrArg Tr.lim e2
      have l3 := list_L cs (d + 1) _ (e3.symm.trans h)
      rw [l2, l1] at l3
      exact (congrArg Tr.l e2).trans (l3.trans (by simp))
    | S =>
      obtain ⟨h2, e2⟩ := if_lim h
      have l2 := list_L cs (d + 1) _ h2
      have g2 := (congrArg Tr.lim e2).symm.trans h
      obtain ⟨h3, e3⟩ := if_lim g2
      have l3 := list_L xs (d + 1) _ h3
      have g3 := (congrArg Tr.lim e3).symm.trans g2
      obtain ⟨h4, e4⟩ := if_lim g3
      have l4 := list_L ts (d + 1) _ h4
      have g4 := (congrArg Tr.lim e4).symm.trans g3
      have l5 := list_L es (d + 1) _ g4
      rw [l4, l3, l2, l1] at l5
      exact (congrArg Tr.l e2).trans ((congrArg Tr.l e3).trans ((congrArg Tr.l e4).trans (l5.trans (by simp))))
    | D => exact l1
theorem list_L : ∀ (l : List Nd) (d : Int) (t : Tr), (tourL l d t).lim = 0 → (tourL l d t).l = t.l ++ allL l
  | [], d, t, _ => by unfold tourL allL; simp
  | x :: r, d, t, h => by
    unfold tourL at h ⊢
    unfold allL
    obtain ⟨h1, e1⟩ := if_lim h
    rw [e1] at h ⊢
    rw [list_L r d _ h, list_N x d t h1, List.append_assoc]
end
end Go.Proofs.YtjpopelbdhgidaaGreatDoor

/-
  The project's alike, EqualFunc over two tours' nodes, and Equal of two programs (tree's): proved is what each answers, and that it turns nothing that lay.
-/
namespace Go.Proofs.YtjpopelbdhgidaaGreatDoor
open Go Go.RowKit

end Go.Proofs.YtjpopelbdhgidaaGreatDoor

/-
  The document's walk over a program (gnomonref3's walked, Few): proved is what it answers: the plain walk over the declarations and then the statements; and that it turns nothing that lay.
-/
namespace Go.Proofs.YtjpopelbdhgidaaGreatDoor
open Go Go.RowKit

end Go.Proofs.YtjpopelbdhgidaaGreatDoor

/-
  Plain: what each node of a type may have, all the way down; a program's nodes in their order.
-/
namespace Go.Proofs.YtjpopelbdhgidaaGreatDoor
open Go Go.RowKit

mutual
/-- A node has what its type may have, and so do all within it. -/
def fitN : Nd → Prop
  | .mk ty k n s xs cs ts es => fits ty k n s xs cs ts es ∧ fitL .E xs ∧ fitL .C cs ∧ fitL .S ts ∧ fitL .S es
def fitL : Ty → List Nd → Prop
  | _, [] => True
  | ty, x :: r => x.ty = ty ∧ fitN x ∧ fitL ty r
end
theorem fit_sl {w : World} {ty : Ty} {l : List Nd} {v : Value} (hL : ∀ b o, RowIn w ty l b o → fitL ty l) (h : SlOf l.length (fun b o => RowIn w ty l b o) v) : fitL ty l := by
  obtain ⟨a, c, _, _, _, h0 | ⟨b, o, _, hr⟩⟩ := h
  · obtain rfl := List.eq_nil_of_length_eq_zero h0
    unfold fitL
    trivial
  · exact hL b o hr
mutual
theorem fit_N (w : World) : ∀ (x : Nd) (vs : List Value), NdIn w x vs → fitN x
  | .mk ty k n nm xs cs ts es, vs, h => by
    unfold NdIn at h
    obtain ⟨hf, _, _, _, vx, vc, vt, ve, _, hx, hc, ht, he⟩ := h
    unfold fitN
    exact ⟨hf, fit_sl (fit_L w .E xs) hx, fit_sl (fit_L w .C cs) hc, fit_sl (fit_L w .S ts) ht, fit_sl (fit_L w .S es) he⟩
theorem fit_L (w : World) : ∀ (ty : Ty) (l : List Nd) (b o : Nat), RowIn w ty l b o → fitL ty l
  | _, [], _, _, _ => by unfold fitL; trivial
  | ty, x :: r, b, o, h => by
    unfold RowIn at h
    obtain ⟨⟨h1, vs, _, h2⟩, h3⟩ := h
    unfold fitL
    exact ⟨h1, fit_N w x vs h2, fit_L w ty r (b + 0) (o + ty.size) h3⟩
end
theorem fit_list {w : World} {ty : Ty} {l : List Nd} {v : Value} (h : SlIn w ty l v) : fitL ty l := fit_sl (fit_L w ty l) h
theorem allL_app (l m : List Nd) : allL (l ++ m) = allL l ++ allL m := by
  induction l with
  | nil => rw [List.nil_append, allL, List.nil_append]
  | cons x r ih => rw [List.cons_append, allL, allL, ih, List.append_assoc]
theorem progT_list {ds ss : List Nd} (h : (progT ds ss).lim = 0) : (progT ds ss).l = allL (ds ++ ss) := by
  unfold progT at h ⊢
  obtain ⟨h1, e1⟩ := if_lim h
  rw [e1] at h ⊢
  have l1 := list_L ds 1 ⟨[], 0, 0⟩ h1
  have l2 := list_L ss 1 _ h
  rw [l2, l1, allL_app]
  rfl
end Go.Proofs.YtjpopelbdhgidaaGreatDoor

/-
  Plain: two rows of all nodes of trees have the same labels just if the trees are the same.
-/
namespace Go.Proofs.YtjpopelbdhgidaaGreatDoor
open Go Go.RowKit

theorem ty_of {ty : Ty} : ∀ {l : List Nd}, fitL ty l → ∀ x ∈ l, x.ty = ty
  | [], _ => fun x hx => by cases hx
  | y :: r, h => fun x hx => by
    unfold fitL at h
    rcases List.mem_cons.1 hx with rfl | hx
    · exact h.1
    · exact ty_of h.2.2 x hx
end Go.Proofs.YtjpopelbdhgidaaGreatDoor
