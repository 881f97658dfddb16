/-
  The project's answer for a tour (tree's fault): proved is that it answers the limit that ended the tour, else whether a node hasn't its form, else whether a name is none.
-/
import Derived.Test.YtbchibmmkmldiaaGreatDoorContains
namespace Go.Proofs.YtbchibmmkmldiaaGreatDoor
open Go Go.RowKit

theorem CellsAre.keep {w0 w w' : World} {l : List Nd} {b o : Nat} (h : CellsAre w0 w l b o) (hb : Below w.heap.size w w') : CellsAre w0 w' l b o := fun i hi => by
  obtain ⟨vs, h1, h2⟩ := h i hi
  have lt := World.block_lt_of_cell? w ⟨b, o + i, none⟩ h1
  exact ⟨vs, (hb.cell (p := ⟨b, o + i, none⟩) lt).trans h1, h2⟩
/-- The tour's list, as a slice of nodes. -/
theorem TourIn.list {w0 w : World} {B : Nat} {t : Tr} {v : Value} (h : TourIn w0 w B t v) : ∃ (a : Option Addr) (b c : Nat), v = .slice a t.l.length c ∧ (t.l.length = 0 ∨ (a = some ⟨b, 0, none⟩ ∧ CellsAre w0 w t.l b 0)) := by
  obtain ⟨_, xs, ⟨hlen, h2⟩, hn⟩ := h
  rcases h2 with ⟨h3, h4⟩ | ⟨g, cap, cur, hv, _, hh, hcap, _, hsz, htk⟩
  · exact ⟨none, 0, 0, by rw [h3, h4], .inl h4⟩
  · refine ⟨some ⟨g, 0, none⟩, g, cap, hv, .inr ⟨rfl, fun i hi => ?_⟩⟩
    obtain ⟨vs, h5, h6⟩ := hn i hi
    refine ⟨vs, ?_, h6⟩
    have e : cur[i]? = some (nodeV (t.l[i]).ty vs) := by
      rw [← h5, ← htk, List.getElem?_take_of_lt (by omega), Array.getElem?_toList]
    simp [World.cell?, hh, e]

theorem contains_formless (w0 : World) (l : List Nd) (b o c : Nat) (a : Option Addr) (w : World) (hlm : l.length ≤ 4096) (ha : l.length = 0 ∨ (a = some ⟨b, o, none⟩ ∧ CellsAre w0 w l b o)) :
    Calls Tryz.prog 41 #[.slice a l.length c, .func (.func 42) #[] #[]] w (fun e w' => e = .returned (.bool (l.any (fun x => !wellN x))) ∧ Below w.heap.size w w') := by
  have hi := index_formless w0 l b o c a w hlm ha
  obtain ⟨ANY, hANY⟩ : ∃ A, l.any (fun x => !wellN x) = A := ⟨_, rfl⟩
  rw [hANY] at hi ⊢
  clear hANY
  have HI := Lib.hid hi; clear hi ha
  go_enter Tryz.func41, Tryz.ntmps41
  go_wp2_with (first | (go_at_call 62; (with_reducible refine HI.out.mono ?_); rintro e w1 ⟨r, rfl, hr, hb⟩; have HR := Lib.hid hr; clear hr; have HB := Lib.hid hb; clear hb) | fail)
  go_ret
  exact ⟨by rw [← HR.out]; rfl, HB.out⟩

theorem contains_nameless (w0 : World) (l : List Nd) (b o c : Nat) (a : Option Addr) (w : World) (hlm : l.length ≤ 4096) (ha : l.length = 0 ∨ (a = some ⟨b, o, none⟩ ∧ CellsAre w0 w l b o)) :
    Calls Tryz.prog 41 #[.slice a l.length c, .func (.func 43) #[] #[]] w (fun e w' => e = .returned (.bool (l.any namelessB)) ∧ Below w.heap.size w w') := by
  have hi := index_nameless w0 l b o c a w hlm ha
  obtain ⟨ANY, hANY⟩ : ∃ A, l.any namelessB = A := ⟨_, rfl⟩
  rw [hANY] at hi ⊢
  clear hANY
  have HI := Lib.hid hi; clear hi ha
  go_enter Tryz.func41, Tryz.ntmps41
  go_wp2_with (first | (go_at_call 62; (with_reducible refine HI.out.mono ?_); rintro e w1 ⟨r, rfl, hr, hb⟩; have HR := Lib.hid hr; clear hr; have HB := Lib.hid hb; clear hb) | fail)
  go_ret
  exact ⟨by rw [← HR.out]; rfl, HB.out⟩

/-- What the project answers for a tour. -/
def faultT (t : Tr) : Int := if t.lim ≠ 0 then t.lim else if t.l.any (fun x => !wellN x) then 30 else if t.l.any namelessB then 31 else 0
theorem fault_any (w0 w : World) (B : Nat) (t : Tr) (v : Value) (h : TourIn w0 w B t v) (hlm : t.l.length ≤ 4096) :
    Calls Tryz.prog 19 #[.pointer (some ⟨B, 0, none⟩)] w (fun e w' => e = .returned (.int .i64 (faultT t)) ∧ Below w.heap.size w w') := by
  obtain ⟨a, b, c, rfl, hl⟩ := h.list
  have c0 : w.cell? ⟨B, 0, none⟩ = some (.slice a t.l.length c) := h.blk.cell 0
  have c2 : w.cell? ⟨B, 2, none⟩ = some (.int .i64 t.lim) := h.blk.cell 2
  have hlt := h.blk.lt
  clear h
  by_cases hz : t.lim = 0
  · have hz2 : (t.lim != 0) = false := by simpa using hz
    have hfa : faultT t = if t.l.any (fun x => !wellN x) then 30 else if t.l.any namelessB then 31 else 0 := by unfold faultT; rw [if_neg (by simpa using hz)]
    have h1 := contains_formless w0 t.l b 0 c a w hlm hl
    have h2 := fun w1 (hb : Below w.heap.size w w1) => contains_nameless w0 t.l b 0 c a w1 hlm (hl.imp id fun ⟨e, h⟩ => ⟨e, h.keep hb⟩)
    have H2 := Lib.hid h2; clear h2 hl
    obtain ⟨p, hp⟩ : ∃ p, t.l.any (fun x => !wellN x) = p := ⟨_, rfl⟩
    obtain ⟨q, hq⟩ : ∃ q, t.l.any namelessB = q := ⟨_, rfl⟩
    rw [hp, hq] at hfa
    rw [hp] at h1
    simp only [hq] at H2
    rw [hfa]
    clear hfa hp hq hz
    have H1 := Lib.hid h1; clear h1
    cases p with
    | true =>
      go_enter Tryz.func19, Tryz.ntmps19
      go_wp2_with (first | (go_at_call 41; (with_reducible refine H1.out.mono ?_); rintro e w1 ⟨rfl, hb⟩) | fail)
      go_ret
      exact ⟨rfl, hb⟩
    | false =>
      cases q with
      | true =>
        go_enter Tryz.func19, Tryz.ntmps19
        go_upto_if 13 with (first | (go_at_call 41; (with_reducible refine H1.out.mono ?_); rintro e w1 ⟨rfl, hb⟩) | fail)
        have k0 := (hb.cell (p := ⟨B, 0, none⟩) hlt).trans c0
        have hc := H2.out w1 hb
        have HC := Lib.hid hc; clear hc
        have HB := Lib.hid hb; clear hb
        go_wp2_with (first | (go_at_call 41; (with_reducible refine HC.out.mono ?_); rintro e w2 ⟨rfl, hb2⟩) | fail)
        go_ret
        exact ⟨rfl, HB.out.trans (hb2.mono HB.out.size)⟩
      | false =>
        go_enter Tryz.func19, Tryz.ntmps19
        go_upto_if 13 with (first | (go_at_call 41; (with_reducible refine H1.out.mono ?_); rintro e w1 ⟨rfl, hb⟩) | fail)
        have k0 := (hb.cell (p := ⟨B, 0, none⟩) hlt).trans c0
        have hc := H2.out w1 hb
        have HC := Lib.hid hc; clear hc
        have HB := Lib.hid hb; clear hb
        go_wp2_with (first | (go_at_call 41; (with_reducible refine HC.out.mono ?_); rintro e w2 ⟨rfl, hb2⟩) | fail)
        go_ret
        exact ⟨rfl, HB.out.trans (hb2.mono HB.out.size)⟩
  · have hz2 : (t.lim != 0) = true := by simpa using hz
    have hfa : faultT t = t.lim := by unfold faultT; rw [if_pos (by simpa using hz)]
    rw [hfa]
    clear hfa hz hl
    go_enter Tryz.func19, Tryz.ntmps19
    go_wp2
    go_ret
    exact ⟨rfl, Below.refl _ w⟩
end Go.Proofs.YtbchibmmkmldiaaGreatDoor
