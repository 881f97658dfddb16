/-
  Plain: what each node of a type may have, all the way down; a program's nodes in their order.
-/
import Derived.Test.YtbchibmmkmldiaaGreatDoorThru
import Derived.Test.YtbchibmmkmldiaaGreatDoorPlainC
import Derived.Test.YtbchibmmkmldiaaGreatDoorWalked
namespace Go.Proofs.YtbchibmmkmldiaaGreatDoor
open Go Go.RowKit

mutual
/-- A node has what its type may have, and so do all within it. -/
def fitN : Nd → Prop
  | .mk ty k n s xs cs ts es => fits ty k n s xs cs ts es ∧ fitL .E xs ∧ fitL .C cs ∧ fitL .S ts ∧ fitL .S es
def fitL : Ty → List Nd → Prop
  | _, [] => True
  | ty, x :: r => x.ty = ty ∧ fitN x ∧ fitL ty r
end
theorem fit_sl {w : World} {ty : Ty} {l : List Nd} {v : Value} (hL : ∀ b o, RowIn w ty l b o → fitL ty l) (h : SlOf l.length (fun b o => RowIn w ty l b o) v) : fitL ty l := by
  obtain ⟨a, c, _, _, _, h0 | ⟨b, o, _, hr⟩⟩ := h
  · obtain rfl := List.eq_nil_of_length_eq_zero h0
    unfold fitL
    trivial
  · exact hL b o hr
mutual
theorem fit_N (w : World) : ∀ (x : Nd) (vs : List Value), NdIn w x vs → fitN x
  | .mk ty k n nm xs cs ts es, vs, h => by
    unfold NdIn at h
    obtain ⟨hf, _, _, _, vx, vc, vt, ve, _, hx, hc, ht, he⟩ := h
    unfold fitN
    exact ⟨hf, fit_sl (fit_L w .E xs) hx, fit_sl (fit_L w .C cs) hc, fit_sl (fit_L w .S ts) ht, fit_sl (fit_L w .S es) he⟩
theorem fit_L (w : World) : ∀ (ty : Ty) (l : List Nd) (b o : Nat), RowIn w ty l b o → fitL ty l
  | _, [], _, _, _ => by unfold fitL; trivial
  | ty, x :: r, b, o, h => by
    unfold RowIn at h
    obtain ⟨⟨h1, vs, _, h2⟩, h3⟩ := h
    unfold fitL
    exact ⟨h1, fit_N w x vs h2, fit_L w ty r (b + 0) (o + ty.size) h3⟩
end
theorem fit_list {w : World} {ty : Ty} {l : List Nd} {v : Value} (h : SlIn w ty l v) : fitL ty l := fit_sl (fit_L w ty l) h
theorem allL_app (l m : List Nd) : allL (l ++ m) = allL l ++ allL m := by
  induction l with
  | nil => rw [List.nil_append, allL, List.nil_append]
  | cons x r ih => rw [List.cons_append, allL, allL, ih, List.append_assoc]
theorem progT_list {ds ss : List Nd} (h : (progT ds ss).lim = 0) : (progT ds ss).l = allL (ds ++ ss) := by
  unfold progT at h ⊢
  obtain ⟨h1, e1⟩ := if_lim h
  rw [e1] at h ⊢
  have l1 := list_L ds 1 ⟨[], 0, 0⟩ h1
  have l2 := list_L ss 1 _ h
  rw [l2, l1, allL_app]
  rfl
theorem progW_T (ds ss : List Nd) : (progW ds ss).bad = (progT ds ss).lim := by
  have h1 := match_L ds 1 ⟨0, 0, 0⟩ ⟨[], 0, 0⟩ ⟨rfl, rfl, rfl⟩ rfl
  have h2 := match_if (F := fun s => walkL ss 1 s) (fun s hs => walkL_bad ss 1 s hs) h1 (fun hz => match_L ss 1 _ _ h1 hz)
  exact h2.2.2
end Go.Proofs.YtbchibmmkmldiaaGreatDoor
