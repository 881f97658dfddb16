/-
  What the second layer's statements ask first ('known'): proved is that the call answers true and turns nothing that lay.
  Condition: Go's tables of package unicode/utf8 and the two errors of package strconv hold what their text lays ('Env').
-/
import Derived.Test.YtifgmkenfmmelaaDoorLexK
import Derived.Laws.OwnMore
namespace Go.Proofs.YtifgmkenfmmelaaDoor
open Go Go.RowKit

theorem known_a : lexV ⟨#[120, 49, 60, 61, 45, 53, 35, 99]⟩ = (0, (0, 0), [⟨1, ⟨#[120, 49]⟩, 0, (1, 1)⟩, ⟨4, ⟨#[60, 61]⟩, 0, (1, 3)⟩, ⟨4, ⟨#[45]⟩, 0, (1, 5)⟩, ⟨2, ⟨#[53]⟩, 5, (1, 6)⟩, ⟨5, ⟨#[]⟩, 0, (1, 9)⟩]) := by kernel_rfl
theorem known_b : lexV ⟨#[97, 32, 38, 32, 98]⟩ = (20, (1, 3), []) := by kernel_rfl

/-- A list of tokens, read off. -/
theorem owns_form {w : World} {base : Nat} {e : TypeId} {size n : Nat} {v : Value} {xs : List Value} (h : w.ownsRow base e size v n xs) (hn : 0 < n) :
    ∃ g cap, v = .slice (some ⟨g, 0, none⟩) n cap ∧ base ≤ g ∧ g < w.heap.size ∧ ∀ j u, xs[j]? = some u → w.cell? ⟨g, j, none⟩ = some u := by
  obtain ⟨_, ⟨h1, _⟩ | ⟨g, cap, cur, hv, hg, hh, hr⟩⟩ := id h
  · omega
  · refine ⟨g, cap, hv, hg, (Array.getElem?_eq_some_iff.1 hh).1, fun j u hu => ?_⟩
    have := h.cells (g := g) (by rw [hv]; rfl) j u hu
    by_cases h0 : j = 0
    · subst h0; simpa [Addr.add] using this
    · simpa [Addr.add, h0] using this

set_option maxRecDepth 100000 in
set_option maxHeartbeats 4000000 in
theorem known2_any (w : World) (hE : Env w) : Calls Tryd.prog 8 #[] w fun e w' => e = .returned (.bool true) ∧ Below w.heap.size w w' := by
  have h1 := fun w hE => tokens_any ⟨#[120, 49, 60, 61, 45, 53, 35, 99]⟩ w (by decide) hE
  rw [known_a] at h1
  have h2 := fun w hE => tokens_any ⟨#[97, 32, 38, 32, 98]⟩ w (by decide) hE
  rw [known_b] at h2
  have H1 := Lib.hid h1; clear h1
  have H2 := Lib.hid h2; clear h2
  have HE := Lib.hid hE; clear hE
  go_enter Tryd.func8, Tryd.ntmps8
  go_wp2_with fail
  refine (H1.out _ HE.out).mono ?_
  rintro e w1 ⟨v1, rfl, ho1, hb1⟩
  obtain ⟨g, cap, rfl, hg1, hg2, hcell⟩ := owns_form ho1 (by simp)
  have k6 : w1.cell? ⟨g, 6, none⟩ = some (.string ⟨#[60, 61]⟩) := hcell 6 _ rfl
  have k17 : w1.cell? ⟨g, 17, none⟩ = some (.int .i64 5) := hcell 17 _ rfl
  have k23 : w1.cell? ⟨g, 23, none⟩ = some (.int .i64 1) := hcell 23 _ rfl
  have k24 : w1.cell? ⟨g, 24, none⟩ = some (.int .i64 9) := hcell 24 _ rfl
  have E1 := Lib.hid (HE.out.later hb1)
  clear ho1 hcell
  go_wp2_with fail
  have E2 := Lib.hid (E1.out.later ((Below.refl _ w1).alloc (Nat.le_refl _) (.cells #[.int .i64 0, .int .i64 0] 25)))
  refine (H2.out _ E2.out).mono ?_
  rintro e w2 ⟨v2, rfl, ho2, hb2⟩
  have hg3 : g < (w1.alloc (.cells #[.int .i64 0, .int .i64 0] 25)).heap.size := by simp; omega
  have k6' : w2.cell? ⟨g, 6, none⟩ = some (.string ⟨#[60, 61]⟩) := (hb2.cell (p := ⟨g, 6, none⟩) hg3).trans (by simpa [go_sem] using (((Below.refl _ w1).alloc (Nat.le_refl _) (.cells #[.int .i64 0, .int .i64 0] 25)).cell (p := ⟨g, 6, none⟩) hg2).trans k6)
  have k17' : w2.cell? ⟨g, 17, none⟩ = some (.int .i64 5) := (hb2.cell (p := ⟨g, 17, none⟩) hg3).trans (by simpa [go_sem] using (((Below.refl _ w1).alloc (Nat.le_refl _) (.cells #[.int .i64 0, .int .i64 0] 25)).cell (p := ⟨g, 17, none⟩) hg2).trans k17)
  have k23' : w2.cell? ⟨g, 23, none⟩ = some (.int .i64 1) := (hb2.cell (p := ⟨g, 23, none⟩) hg3).trans (by simpa [go_sem] using (((Below.refl _ w1).alloc (Nat.le_refl _) (.cells #[.int .i64 0, .int .i64 0] 25)).cell (p := ⟨g, 23, none⟩) hg2).trans k23)
  have k24' : w2.cell? ⟨g, 24, none⟩ = some (.int .i64 9) := (hb2.cell (p := ⟨g, 24, none⟩) hg3).trans (by simpa [go_sem] using (((Below.refl _ w1).alloc (Nat.le_refl _) (.cells #[.int .i64 0, .int .i64 0] 25)).cell (p := ⟨g, 24, none⟩) hg2).trans k24)
  clear k6 k17 k23 k24 ho2
  have hg4 : g < w2.heap.size := Nat.lt_of_lt_of_le hg3 hb2.size
  have hg5 : w1.heap.size + 1 ≤ w2.heap.size := by have := hb2.size; simp at this; omega
  have gne : g ≠ w2.heap.size := by omega
  go_wp2
  go_ret
  have hz1 := hb1.size
  exact ⟨rfl, ((hb1.alloc (by omega) _).trans (hb2.mono (by simp; omega))).alloc (by omega) _⟩
end Go.Proofs.YtifgmkenfmmelaaDoor
