/-
  The project's answer for a tour (tree's fault): proved is that it answers the limit that ended the tour, else whether a node hasn't its form, else whether a name is none.
-/
import Derived.Test.YtjpopelbdhgidaaGreatDoorQOwnM
/-
  slices.IndexFunc and slices.ContainsFunc over a tour's nodes, with the project's formless and nameless: proved is that ContainsFunc answers whether one of the nodes is so.
-/
namespace Go.Proofs.YtjpopelbdhgidaaGreatDoor
open Go Go.RowKit

/-- A row's cells are nodes. -/
def CellsAre (w0 w : World) (l : List Nd) (b o : Nat) : Prop := ∀ i (h : i < l.length), ∃ vs, w.cell? ⟨b, o + i, none⟩ = some (nodeV (l[i]).ty vs) ∧ NdIn w0 l[i] vs
/-- None of the first i is so. -/
def NoneYet (l : List Nd) (p : Nd → Bool) (i : Nat) : Prop := ∀ x ∈ l.take i, p x = false
theorem NoneYet.next {l : List Nd} {p : Nd → Bool} {i : Nat} (h : NoneYet l p i) (hi : i < l.length) (hp : p l[i] = false) : NoneYet l p (i + 1) := fun x hx => by
  rw [List.take_succ_eq_append_getElem hi, List.mem_append] at hx
  rcases hx with hx | hx
  · exact h x hx
  · rw [List.mem_singleton.1 hx]; exact hp
theorem NoneYet.all {l : List Nd} {p : Nd → Bool} (h : NoneYet l p l.length) : l.any p = false := by
  rw [NoneYet, List.take_length] at h
  rw [List.any_eq_false]
  intro x hx
  rw [h x hx]
  exact Bool.false_ne_true
theorem any_at {l : List Nd} {p : Nd → Bool} {i : Nat} (hi : i < l.length) (hp : p l[i] = true) : l.any p = true := List.any_eq_true.2 ⟨_, List.getElem_mem hi, hp⟩

set_option maxRecDepth 100000 in
set_option maxHeartbeats 4000000 in
theorem index_formless (w0 : World) (l : List Nd) (b o c : Nat) (a : Option Addr) (w : World) (hlm : l.length ≤ 4096) (ha : l.length = 0 ∨ (a = some ⟨b, o, none⟩ ∧ CellsAre w0 w l b o)) :
    Calls Tryz.prog 198 #[.slice a l.length c, .func (.func 169) #[] #[]] w (fun e w' => ∃ r : Int, e = .returned (.int .i64 r) ∧ decide (0 ≤ r) = l.any (fun x => !wellN x) ∧ Below w.heap.size w w') := by
  have HA := Lib.hid ha; clear ha
  have HNO := Lib.hid (fun h => NoneYet.all (l := l) (p := (fun x => !wellN x)) h)
  have HYES := Lib.hid (fun i hi h => any_at (l := l) (p := (fun x => !wellN x)) (i := i) hi h)
  obtain ⟨ANY, hANY⟩ : ∃ A, l.any (fun x => !wellN x) = A := ⟨_, rfl⟩
  rw [hANY] at HNO HYES ⊢
  clear hANY
  go_enter Tryz.func198, Tryz.ntmps198
  go_wp2
  go_loopw [8] (fun x wr => ∃ i : Nat, x = .int .i64 i ∧ i ≤ l.length ∧ Hid (NoneYet l (fun x => !wellN x) i) ∧ Below w.heap.size w wr) (fun x _ => l.length - (intOf x).toNat)
  case atStart => exact ⟨0, rfl, by omega, Lib.hid (fun x hx => by simp at hx), Below.refl _ _⟩
  case round =>
    obtain ⟨i, rfl, hi, hno, hbr⟩ := hrel
    have HBR := Lib.hid hbr; clear hbr
    by_cases hlt : i < l.length
    · have hbi : (i : Int) + 1 ≤ 9223372036854775807 := by omega
      have hxl : ¬ l.length = 0 := by omega
      obtain ⟨rfl, hcells⟩ := HA.out.resolve_left hxl
      obtain ⟨vs, hc, hnd⟩ := hcells i hlt
      have hbk := World.block_lt_of_cell? w ⟨b, o + i, none⟩ hc
      have hcr : wr.cell? ⟨b, o + i, none⟩ = some (nodeV l[i].ty vs) := (HBR.out.cell (p := ⟨b, o + i, none⟩) hbk).trans hc
      have hf := formless_any l[i] vs w0 wr hnd
      have HY := Lib.hid (HYES.out i hlt)
      have HN := Lib.hid (fun h => NoneYet.next (p := (fun x => !wellN x)) hno.out hlt h)
      obtain ⟨V, hV⟩ : ∃ V, nodeV l[i].ty vs = V := ⟨_, rfl⟩
      rw [hV] at hcr hf
      obtain ⟨q, hq⟩ : ∃ q, (!wellN l[i]) = q := ⟨_, rfl⟩
      rw [hq] at hf
      have HQ := Lib.hid hq; clear hq
      have HF := Lib.hid hf; clear hf
      clear hc hcells hnd hV
      cases q with
      | true =>
        go_wp2_with (first | (go_at_call 169; (with_reducible refine HF.out.mono ?_); rintro e w2 ⟨rfl, hb2⟩) | fail)
        go_ret
        exact ⟨i, rfl, by rw [HY.out HQ.out]; simp, HBR.out.trans (hb2.mono HBR.out.size)⟩
      | false =>
        go_wp2_with (first | (go_at_call 169; (with_reducible refine HF.out.mono ?_); rintro e w2 ⟨rfl, hb2⟩) | fail)
        go_roundw
        case rel => exact ⟨i + 1, by go_num, by omega, Lib.hid (HN.out HQ.out), HBR.out.trans (hb2.mono HBR.out.size)⟩
        case measure => simp [intOf]; omega
    · obtain rfl : i = l.length := by omega
      go_wp2
      go_ret
      exact ⟨-1, rfl, by rw [HNO.out hno.out]; rfl, HBR.out⟩

set_option maxRecDepth 100000 in
set_option maxHeartbeats 4000000 in
theorem index_nameless (w0 : World) (l : List Nd) (b o c : Nat) (a : Option Addr) (w : World) (hlm : l.length ≤ 4096) (ha : l.length = 0 ∨ (a = some ⟨b, o, none⟩ ∧ CellsAre w0 w l b o)) :
    Calls Tryz.prog 198 #[.slice a l.length c, .func (.func 170) #[] #[]] w (fun e w' => ∃ r : Int, e = .returned (.int .i64 r) ∧ decide (0 ≤ r) = l.any namelessB ∧ Below w.heap.size w w') := by
  have HA := Lib.hid ha; clear ha
  have HNO := Lib.hid (fun h => NoneYet.all (l := l) (p := namelessB) h)
  have HYES := Lib.hid (fun i hi h => any_at (l := l) (p := namelessB) (i := i) hi h)
  obtain ⟨ANY, hANY⟩ : ∃ A, l.any namelessB = A := ⟨_, rfl⟩
  rw [hANY] at HNO HYES ⊢
  clear hANY
  go_enter Tryz.func198, Tryz.ntmps198
  go_wp2
  go_loopw [8] (fun x wr => ∃ i : Nat, x = .int .i64 i ∧ i ≤ l.length ∧ Hid (NoneYet l namelessB i) ∧ Below w.heap.size w wr) (fun x _ => l.length - (intOf x).toNat)
  case atStart => exact ⟨0, rfl, by omega, Lib.hid (fun x hx => by simp at hx), Below.refl _ _⟩
  case round =>
    obtain ⟨i, rfl, hi, hno, hbr⟩ := hrel
    have HBR := Lib.hid hbr; clear hbr
    by_cases hlt : i < l.length
    · have hbi : (i : Int) + 1 ≤ 9223372036854775807 := by omega
      have hxl : ¬ l.length = 0 := by omega
      obtain ⟨rfl, hcells⟩ := HA.out.resolve_left hxl
      obtain ⟨vs, hc, hnd⟩ := hcells i hlt
      have hbk := World.block_lt_of_cell? w ⟨b, o + i, none⟩ hc
      have hcr : wr.cell? ⟨b, o + i, none⟩ = some (nodeV l[i].ty vs) := (HBR.out.cell (p := ⟨b, o + i, none⟩) hbk).trans hc
      have hf := nameless_any l[i] vs w0 wr hnd
      have HY := Lib.hid (HYES.out i hlt)
      have HN := Lib.hid (fun h => NoneYet.next (p := namelessB) hno.out hlt h)
      obtain ⟨V, hV⟩ : ∃ V, nodeV l[i].ty vs = V := ⟨_, rfl⟩
      rw [hV] at hcr hf
      obtain ⟨q, hq⟩ : ∃ q, namelessB l[i] = q := ⟨_, rfl⟩
      rw [hq] at hf
      have HQ := Lib.hid hq; clear hq
      have HF := Lib.hid hf; clear hf
      clear hc hcells hnd hV
      cases q with
      | true =>
        go_wp2_with (first | (go_at_call 170; (with_reducible refine HF.out.mono ?_); rintro e w2 ⟨rfl, hb2⟩) | fail)
        go_ret
        exact ⟨i, rfl, by rw [HY.out HQ.out]; simp, HBR.out.trans (hb2.mono HBR.out.size)⟩
      | false =>
        go_wp2_with (first | (go_at_call 170; (with_reducible refine HF.out.mono ?_); rintro e w2 ⟨rfl, hb2⟩) | fail)
        go_roundw
        case rel => exact ⟨i + 1, by go_num, by omega, Lib.hid (HN.out HQ.out), HBR.out.trans (hb2.mono HBR.out.size)⟩
        case measure => simp [intOf]; omega
    · obtain rfl : i = l.length := by omega
      go_wp2
      go_ret
      exact ⟨-1, rfl, by rw [HNO.out hno.out]; rfl, HBR.out⟩
end Go.Proofs.YtjpopelbdhgidaaGreatDoor

/-
  The project's answer for a tour (tree's fault): proved is that it answers the limit that ended the tour, else whether a node hasn't its form, else whether a name is none.
-/
namespace Go.Proofs.YtjpopelbdhgidaaGreatDoor
open Go Go.RowKit

theorem CellsAre.keep {w0 w w' : World} {l : List Nd} {b o : Nat} (h : CellsAre w0 w l b o) (hb : Below w.heap.size w w') : CellsAre w0 w' l b o := fun i hi => by
  obtain ⟨vs, h1, h2⟩ := h i hi
  have lt := World.block_lt_of_cell? w ⟨b, o + i, none⟩ h1
  exact ⟨vs, (hb.cell (p := ⟨b, o + i, none⟩) lt).trans h1, h2⟩
/-- The tour's list, as a slice of nodes. -/
theorem TourIn.list {w0 w : World} {B : Nat} {t : Tr} {v : Value} (h : TourIn w0 w B t v) : ∃ (a : Option Addr) (b c : Nat), v = .slice a t.l.length c ∧ (t.l.length = 0 ∨ (a = some ⟨b, 0, none⟩ ∧ CellsAre w0 w t.l b 0)) := by
  obtain ⟨_, xs, ⟨hlen, h2⟩, hn⟩ := h
  rcases h2 with ⟨h3, h4⟩ | ⟨g, cap, cur, hv, _, hh, hcap, _, hsz, htk⟩
  · exact ⟨none, 0, 0, by rw [h3, h4], .inl h4⟩
  · refine ⟨some ⟨g, 0, none⟩, g, cap, hv, .inr ⟨rfl, fun i hi => ?_⟩⟩
    obtain ⟨vs, h5, h6⟩ := hn i hi
    refine ⟨vs, ?_, h6⟩
    have e : cur[i]? = some (nodeV (t.l[i]).ty vs) := by
      rw [← h5, ← htk, List.getElem?_take_of_lt (by omega), Array.getElem?_toList]
    simp [World.cell?, hh, e]

theorem contains_formless (w0 : World) (l : List Nd) (b o c : Nat) (a : Option Addr) (w : World) (hlm : l.length ≤ 4096) (ha : l.length = 0 ∨ (a = some ⟨b, o, none⟩ ∧ CellsAre w0 w l b o)) :
    Calls Tryz.prog 168 #[.slice a l.length c, .func (.func 169) #[] #[]] w (fun e w' => e = .returned (.bool (l.any (fun x => !wellN x))) ∧ Below w.heap.size w w') := by
  have hi := index_formless w0 l b o c a w hlm ha
  obtain ⟨ANY, hANY⟩ : ∃ A, l.any (fun x => !wellN x) = A := ⟨_, rfl⟩
  rw [hANY] at hi ⊢
  clear hANY
  have HI := Lib.hid hi; clear hi ha
  go_enter Tryz.func168, Tryz.ntmps168
  go_wp2_with (first | (go_at_call 198; (with_reducible refine HI.out.mono ?_); rintro e w1 ⟨r, rfl, hr, hb⟩; have HR := Lib.hid hr; clear hr; have HB := Lib.hid hb; clear hb) | fail)
  go_ret
  exact ⟨by rw [← HR.out]; rfl, HB.out⟩

theorem contains_nameless (w0 : World) (l : List Nd) (b o c : Nat) (a : Option Addr) (w : World) (hlm : l.length ≤ 4096) (ha : l.length = 0 ∨ (a = some ⟨b, o, none⟩ ∧ CellsAre w0 w l b o)) :
    Calls Tryz.prog 168 #[.slice a l.length c, .func (.func 170) #[] #[]] w (fun e w' => e = .returned (.bool (l.any namelessB)) ∧ Below w.heap.size w w') := by
  have hi := index_nameless w0 l b o c a w hlm ha
  obtain ⟨ANY, hANY⟩ : ∃ A, l.any namelessB = A := ⟨_, rfl⟩
  rw [hANY] at hi ⊢
  clear hANY
  have HI := Lib.hid hi; clear hi ha
  go_enter Tryz.func168, Tryz.ntmps168
  go_wp2_with (first | (go_at_call 198; (with_reducible refine HI.out.mono ?_); rintro e w1 ⟨r, rfl, hr, hb⟩; have HR := Lib.hid hr; clear hr; have HB := Lib.hid hb; clear hb) | fail)
  go_ret
  exact ⟨by rw [← HR.out]; rfl, HB.out⟩

/-- What the project answers for a tour. -/
def faultT (t : Tr) : Int := if t.lim ≠ 0 then t.lim else if t.l.any (fun x => !wellN x) then 30 else if t.l.any namelessB then 31 else 0
end Go.Proofs.YtjpopelbdhgidaaGreatDoor
