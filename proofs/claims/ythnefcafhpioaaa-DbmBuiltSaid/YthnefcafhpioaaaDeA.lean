/-
  Rows of rows of numbers; Points' test of the points' lengths; how points are laid into a row of cells.
-/
import Derived.Test.YthnefcafhpioaaaDbL
namespace Go.Proofs.Ythnefcafhpioaaa
open Go Go.RowKit Go.Shelf

/-- A slice of slices of numbers. -/
def RsAt (w : World) (l : List (List Int)) (a : Option Addr) : Prop := l.length = 0 ∨ ∃ b o, ∃ hs : List (Option Addr × Nat), a = some ⟨b, o, none⟩ ∧ hs.length = l.length ∧ ∀ i r h, l[i]? = some r → hs[i]? = some h → w.cell? ⟨b, o + i, none⟩ = some (.slice h.1 r.length h.2) ∧ MAt w r h.1
theorem RsAt.next {w w' : World} {l : List (List Int)} {a : Option Addr} (h : RsAt w l a) (hb : Below w.heap.size w w') : RsAt w' l a := by
  rcases h with h | ⟨b, o, hs, e, hl, hc⟩
  · exact .inl h
  · exact .inr ⟨b, o, hs, e, hl, fun i r h hr hh => ⟨(hb.cell (p := ⟨b, o + i, none⟩) (World.block_lt_of_cell? w _ (hc i r h hr hh).1)).trans (hc i r h hr hh).1, (hc i r h hr hh).2.next hb⟩⟩
theorem RsAt.at {w : World} {l : List (List Int)} {a : Option Addr} (h : RsAt w l a) {k : Nat} {r : List Int} (hr : l[k]? = some r) : ∃ b o a1 c1, a = some ⟨b, o, none⟩ ∧ w.cell? ⟨b, o + k, none⟩ = some (.slice a1 r.length c1) ∧ MAt w r a1 := by
  have hk := (List.getElem?_eq_some_iff.1 hr).1
  rcases h with h | ⟨b, o, hs, e, hl, hc⟩
  · omega
  · obtain ⟨h1, h2⟩ := hc k r hs[k] hr (List.getElem?_eq_getElem (by omega))
    exact ⟨b, o, _, _, e, h1, h2⟩
set_option maxRecDepth 100000 in
theorem unlike_any (X : Nat) (n : Int) (a : Option Addr) (L c : Nat) (w : World) (h : w.cell? ⟨X, 0, none⟩ = some (.int .i64 n)) :
    Calls Try.prog 53 #[.slice a L c, .pointer (some ⟨X, 0, none⟩)] w fun e w' => e = .returned (.bool ((L : Int) != n)) ∧ w' = w := by
  go_enter Try.func53, Try.ntmps53
  go_wp2_with fail
  go_ret
  exact ⟨rfl, rfl⟩
/-- A point of l hasn't n numbers. -/
def unl (n : Int) (l : List (List Int)) : Bool := l.any fun r => (r.length : Int) != n
set_option maxRecDepth 100000 in
theorem contains_any (X : Nat) (n : Int) (l : List (List Int)) (a : Option Addr) (c : Nat) (w : World) (h : w.cell? ⟨X, 0, none⟩ = some (.int .i64 n)) (hl : RsAt w l a) (hll : l.length ≤ maxLen) :
    Calls Try.prog 54 #[.slice a l.length c, .func (.func 53) #[] #[.pointer (some ⟨X, 0, none⟩)]] w fun e w' => e = .returned (.bool (unl n l)) ∧ Below w.heap.size w w' := by
  have hX := World.block_lt_of_cell? w _ h
  rcases hl with h0 | ⟨b, o, hs, rfl, hlen, hc⟩
  · have : l = [] := List.eq_nil_of_length_eq_zero h0
    subst this
    exact (Try.slices_ContainsFunc_empty (α := Nat) a c _ w).mono fun e w' ⟨he, hw⟩ => ⟨he, hw ▸ Below.refl _ _⟩
  · refine (Try.slices_ContainsFunc (α := Option Addr × Nat × Nat) (fun z => .slice z.1 z.2.1 z.2.2) (fun z => (z.2.1 : Int) != n) 53 #[.pointer (some ⟨X, 0, none⟩)] (enters_of Try.func53 (by kernel_rfl) rfl) b o l.length c ((hs.zip l).map fun z => (z.1.1, z.2.length, z.1.2)) w (fun W x hb => ?_) (by simp [hlen]) (by unfold maxLen at hll; omega) (fun j hj => ?_)).mono ?_
    · exact (unlike_any X n x.1 x.2.1 x.2.2 W ((hb.cell (p := ⟨X, 0, none⟩) hX).trans h)).mono fun e w' ⟨he, hw⟩ => ⟨he, 0, hw⟩
    · have hj1 : j < hs.length := by simp at hj; omega
      have hj2 : j < l.length := by simp at hj; omega
      rw [(hc j l[j] hs[j] (List.getElem?_eq_getElem hj2) (List.getElem?_eq_getElem hj1)).1]
      have e3 : (hs.zip l)[j]? = some (hs[j], l[j]) := by rw [List.getElem?_eq_getElem (by simp; omega)]; simp
      simp [e3]
    · rintro e w' ⟨rfl, q, rfl⟩
      refine ⟨?_, below_drewN' (Below.refl _ w) q⟩
      have e1 : (((hs.zip l).map fun z => (z.1.1, z.2.length, z.1.2)).take l.length) = (hs.zip l).map fun z => (z.1.1, z.2.length, z.1.2) := List.take_of_length_le (by simp [hlen])
      rw [e1, List.any_map]
      have e2 : (hs.zip l).any ((fun z : Option Addr × Nat × Nat => (z.2.1 : Int) != n) ∘ fun z => (z.1.1, z.2.length, z.1.2)) = ((hs.zip l).map Prod.snd).any fun r => (r.length : Int) != n := by rw [List.any_map]; rfl
      rw [e2, List.map_snd_zip (by omega)]
      rfl
/-- One cell of one point. -/
def stM (n : Nat) (p : List Int) (m : List Int) (x : Nat × Nat) : List Int := sM n m x.1 x.2 (max (gM n m x.1 x.2) (apV p x.1 x.2))
def layM (n : Nat) (m : List Int) (p : List Int) : List Int := (allP n).foldl (stM n p) m
def ptsM (n : Nat) (l : List (List Int)) : List Int := l.foldl (layM n) (List.replicate (n * n) (-4611686018427387904))
theorem stM_len (n : Nat) (p m : List Int) (x : Nat × Nat) : (stM n p m x).length = m.length := by unfold stM; rw [sM_len]
theorem foldl_len {α : Type} (f : List Int → α → List Int) (h : ∀ m x, (f m x).length = m.length) : ∀ (l : List α) (m : List Int), (l.foldl f m).length = m.length
  | [], _ => rfl
  | x :: l, m => by rw [List.foldl_cons, foldl_len f h l, h]
theorem layM_len (n : Nat) (m p : List Int) : (layM n m p).length = m.length := foldl_len _ (stM_len n p) _ _
theorem ptsM_len (n : Nat) (l : List (List Int)) : (ptsM n l).length = n * n := by unfold ptsM; rw [foldl_len _ (layM_len n), List.length_replicate]
/-- What Points answers. -/
def ptsO (n : Int) (l : List (List Int)) : Oc × Int := if numB n = false ∨ unl n l = true then (zeroOc, 120) else if l.length = 0 then (emptyOc n, 0) else (⟨n, false, ptsM (2 * n.toNat) l⟩, 0)
end Go.Proofs.Ythnefcafhpioaaa
