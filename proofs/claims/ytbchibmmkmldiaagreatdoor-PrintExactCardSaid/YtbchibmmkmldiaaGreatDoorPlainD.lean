/-
  Plain: no declaration is within an expression, a condition or a statement that lies in memory.
-/
import Derived.Test.YtbchibmmkmldiaaGreatDoorPlainC
namespace Go.Proofs.YtbchibmmkmldiaaGreatDoor
open Go Go.RowKit

theorem noD_sl {w : World} {ty : Ty} {l : List Nd} {v : Value} (hL : ∀ b o, RowIn w ty l b o → ∀ y ∈ allL l, y.ty ≠ .D) (h : SlOf l.length (fun b o => RowIn w ty l b o) v) : ∀ y ∈ allL l, y.ty ≠ .D := by
  obtain ⟨a, c, _, _, _, h0 | ⟨b, o, _, hr⟩⟩ := h
  · obtain rfl := List.eq_nil_of_length_eq_zero h0
    intro y hy
    unfold allL at hy
    cases hy
  · exact hL b o hr
mutual
theorem noD_N (w : World) : ∀ (x : Nd) (vs : List Value), NdIn w x vs → x.ty ≠ .D → ∀ y ∈ allN x, y.ty ≠ .D
  | .mk ty k n nm xs cs ts es, vs, h, hty => by
    unfold NdIn at h
    obtain ⟨_, _, _, _, vx, vc, vt, ve, _, hx, hc, ht, he⟩ := h
    have h1 := noD_sl (noD_L w .E xs (by decide)) hx
    have h2 := noD_sl (noD_L w .C cs (by decide)) hc
    have h3 := noD_sl (noD_L w .S ts (by decide)) ht
    have h4 := noD_sl (noD_L w .S es (by decide)) he
    intro y hy
    unfold allN at hy
    rcases List.mem_cons.1 hy with rfl | hy
    · exact hty
    · cases ty with
      | E => exact h1 y hy
      | C => exact (List.mem_append.1 hy).elim (h1 y) (h2 y)
      | S => exact (List.mem_append.1 hy).elim (h2 y) (fun hy => (List.mem_append.1 hy).elim (h1 y) (fun hy => (List.mem_append.1 hy).elim (h3 y) (h4 y)))
      | D => exact absurd rfl hty
theorem noD_L (w : World) : ∀ (ty : Ty) (l : List Nd), ty ≠ .D → ∀ b o, RowIn w ty l b o → ∀ y ∈ allL l, y.ty ≠ .D
  | _, [], _, _, _, _ => by intro y hy; unfold allL at hy; cases hy
  | ty, x :: r, hty, b, o, h => by
    unfold RowIn at h
    obtain ⟨⟨h1, vs, _, h2⟩, h3⟩ := h
    intro y hy
    unfold allL at hy
    exact (List.mem_append.1 hy).elim (noD_N w x vs h2 (by rw [h1]; exact hty) y) (noD_L w ty r hty b (o + ty.size) h3 y)
end
end Go.Proofs.YtbchibmmkmldiaaGreatDoor
