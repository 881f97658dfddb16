/-
  gnomonlaw2.same: proved is that it answers true where both lists hold the same tokens; nothing that lay is turned.
-/
import Derived.Test.YtifgmkenfmmelaaDoorLexC
import Derived.Test.YtifgmkenfmmelaaDoorLexN
import Derived.Deep.QuietTactic
import Derived.BigQuiet
namespace Go.Proofs.YtifgmkenfmmelaaDoor
open Go Go.RowKit

theorem cellsOf_get : ∀ (l : List Tk) (i : Nat) (h : i < l.length) (j : Nat), j < 5 → (cellsOf l)[i * 5 + j]? = (Tk.cells l[i])[j]?
  | [], i, h, j, hj => by simp at h
  | t :: l, 0, h, j, hj => by
    have e : cellsOf (t :: l) = t.cells ++ cellsOf l := rfl
    have hl : t.cells.length = 5 := rfl
    rw [e, Nat.zero_mul, Nat.zero_add, List.getElem?_append_left (by omega)]
    rfl
  | t :: l, i + 1, h, j, hj => by
    have e : cellsOf (t :: l) = t.cells ++ cellsOf l := rfl
    have hl : t.cells.length = 5 := rfl
    rw [e, List.getElem?_append_right (by omega), hl]
    have e2 : (i + 1) * 5 + j - 5 = i * 5 + j := by omega
    rw [e2]
    exact cellsOf_get l i (by simpa using h) j hj

/-- What stands at a token's cells. -/
structure TkAt (w : World) (g o : Nat) (t : Tk) : Prop where
  c0 : w.cell? ⟨g, o, none⟩ = some (.int .i64 t.kind)
  c1 : w.cell? ⟨g, o + 1, none⟩ = some (.string t.text)
  c2 : w.cell? ⟨g, o + 2, none⟩ = some (.int .i64 t.num)
  c3 : w.cell? ⟨g, o + 3, none⟩ = some (.int .i64 t.pl.1)
  c4 : w.cell? ⟨g, o + 4, none⟩ = some (.int .i64 t.pl.2)
theorem TkAt.of {w : World} {g : Nat} {l : List Tk} (hc : ∀ j u, (cellsOf l)[j]? = some u → w.cell? ⟨g, j, none⟩ = some u) {i : Nat} (h : i < l.length) : TkAt w g (i * 5) l[i] :=
  ⟨hc (i * 5) _ (by have := cellsOf_get l i h 0 (by omega); rw [Nat.add_zero] at this; rw [this]; rfl), hc _ _ (by rw [cellsOf_get l i h 1 (by omega)]; rfl), hc _ _ (by rw [cellsOf_get l i h 2 (by omega)]; rfl), hc _ _ (by rw [cellsOf_get l i h 3 (by omega)]; rfl), hc _ _ (by rw [cellsOf_get l i h 4 (by omega)]; rfl)⟩
theorem TkAt.mono {w w' : World} {g o : Nat} {t : Tk} (h : TkAt w g o t) (hc : ∀ j, w'.cell? ⟨g, j, none⟩ = w.cell? ⟨g, j, none⟩) : TkAt w' g o t :=
  ⟨by rw [hc]; exact h.c0, by rw [hc]; exact h.c1, by rw [hc]; exact h.c2, by rw [hc]; exact h.c3, by rw [hc]; exact h.c4⟩

set_option maxRecDepth 100000 in
set_option maxHeartbeats 4000000 in
theorem same_true (l : List Tk) (v1 v2 : Value) (b1 b2 : Nat) (w : World) (hl : l.length ≤ 40000) (h1 : w.ownsRow b1 33 5 v1 l.length (cellsOf l)) (h2 : w.ownsRow b2 33 5 v2 l.length (cellsOf l)) :
    Calls Tryd.prog 11 #[v1, v2] w fun e w' => e = .returned (.bool true) ∧ Below w.heap.size w w' := by
  by_cases h0 : l.length = 0
  · obtain ⟨a1, k1, rfl⟩ := ownsRow_shape h1
    obtain ⟨a2, k2, rfl⟩ := ownsRow_shape h2
    rw [h0]
    clear h0 hl h1 h2
    all_goals
      go_enter Tryd.func11, Tryd.ntmps11
      go_wp2
      go_loopw [5] (fun x wr => x = .int .i64 0 ∧ wr = w) (fun _ _ => 0)
      case atStart => exact ⟨rfl, rfl⟩
      case round =>
        obtain ⟨rfl, rfl⟩ := hrel
        go_wp2
        go_ret
        exact ⟨rfl, Below.refl _ _⟩
  · obtain ⟨g1, k1, rfl, hg1, hs1, hc1⟩ := owns_form h1 (by omega)
    obtain ⟨g2, k2, rfl, hg2, hs2, hc2⟩ := owns_form h2 (by omega)
    have HC1 := Lib.hid hc1; clear hc1
    have HC2 := Lib.hid hc2; clear hc2
    clear h1 h2
    go_enter Tryd.func11, Tryd.ntmps11
    go_wp2
    go_loopw [5] (fun x wr => ∃ i : Nat, x = .int .i64 i ∧ i ≤ l.length ∧ Below w.heap.size w wr) (fun x _ => l.length - (intOf x).toNat)
    case atStart => exact ⟨0, rfl, by omega, Below.refl _ _⟩
    case round =>
      obtain ⟨i, rfl, hi, hb⟩ := hrel
      by_cases hlt : i < l.length
      · have t1 := (TkAt.of HC1.out hlt).mono (w' := wr) (fun j => hb.cell (p := ⟨g1, j, none⟩) hs1)
        have t2 := (TkAt.of HC2.out hlt).mono (w' := wr) (fun j => hb.cell (p := ⟨g2, j, none⟩) hs2)
        obtain ⟨T, hT⟩ : ∃ T, l[i] = T := ⟨_, rfl⟩
        rw [hT] at t1 t2
        clear hT
        obtain ⟨p0, p1, p2, p3, p4⟩ := t1
        obtain ⟨q0, q1, q2, q3, q4⟩ := t2
        obtain ⟨tk, tt, tn, tp1, tp2⟩ := T
        simp only at p0 p1 p2 p3 p4 q0 q1 q2 q3 q4
        go_wp2_with fail
        go_quiet (fail)
        go_wp2
        go_roundw
        case rel => exact ⟨i + 1, by go_num, by omega, ⟨hb.os, hb.tape, hb.output, hb.size, hb.block⟩⟩
        case measure => simp [intOf]; omega
      · go_wp2
        go_ret
        exact ⟨rfl, hb⟩
end Go.Proofs.YtifgmkenfmmelaaDoor
