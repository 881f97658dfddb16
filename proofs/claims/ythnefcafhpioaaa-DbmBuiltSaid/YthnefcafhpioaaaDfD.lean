/-
  What both Cells give, for every octagon.
-/
import Derived.Test.YthnefcafhpioaaaDfC
import Derived.Test.YthnefcafhpioaaaDbL
namespace Go.Proofs.Ythnefcafhpioaaa
open Go Go.RowKit Go.Shelf

/-- Where a list of cells lies. -/
def CsAt (w : World) (xs : List ((Nat × Nat) × Int)) (a : Option Addr) : Prop := xs.length = 0 ∨ ∃ g, a = some ⟨g, 0, none⟩ ∧ ∀ k x, xs[k]? = some x → w.cell? ⟨g, k * 3, none⟩ = some (.int .i64 x.1.1) ∧ w.cell? ⟨g, k * 3 + 1, none⟩ = some (.int .i64 x.1.2) ∧ w.cell? ⟨g, k * 3 + 2, none⟩ = some (.int .i64 x.2)
theorem CsAt.next {w w' : World} {xs : List ((Nat × Nat) × Int)} {a : Option Addr} (h : CsAt w xs a) (hb : Below w.heap.size w w') : CsAt w' xs a := by
  refine h.imp id ?_
  rintro ⟨g, e, hc⟩
  refine ⟨g, e, fun k x hx => ?_⟩
  obtain ⟨h1, h2, h3⟩ := hc k x hx
  exact ⟨(hb.cell (p := ⟨g, k * 3, none⟩) (World.block_lt_of_cell? w _ h1)).trans h1, (hb.cell (p := ⟨g, k * 3 + 1, none⟩) (World.block_lt_of_cell? w _ h2)).trans h2, (hb.cell (p := ⟨g, k * 3 + 2, none⟩) (World.block_lt_of_cell? w _ h3)).trans h3⟩
theorem flC_at : ∀ (l : List ((Nat × Nat) × Int)) (k : Nat) (x : (Nat × Nat) × Int), l[k]? = some x → (flC l)[k * 3]? = some (.int .i64 x.1.1) ∧ (flC l)[k * 3 + 1]? = some (.int .i64 x.1.2) ∧ (flC l)[k * 3 + 2]? = some (.int .i64 x.2)
  | [], k, x, h => by simp at h
  | y :: l, 0, x, h => by
    simp at h
    subst h
    exact ⟨rfl, rfl, rfl⟩
  | y :: l, k + 1, x, h => by
    have ih := flC_at l k x (by simpa using h)
    have e : flC (y :: l) = [.int .i64 y.1.1, .int .i64 y.1.2, .int .i64 y.2] ++ flC l := by unfold flC; simp
    rw [e, show (k + 1) * 3 = 3 + k * 3 by omega]
    refine ⟨?_, ?_, ?_⟩
    · rw [List.getElem?_append_right (by simp)]; simpa using ih.1
    · rw [List.getElem?_append_right (by simp; omega)]; simp only [List.length_cons, List.length_nil]; rw [show 3 + k * 3 + 1 - (0 + 1 + 1 + 1) = k * 3 + 1 by omega]; exact ih.2.1
    · rw [List.getElem?_append_right (by simp; omega)]; simp only [List.length_cons, List.length_nil]; rw [show 3 + k * 3 + 2 - (0 + 1 + 1 + 1) = k * 3 + 2 by omega]; exact ih.2.2
theorem flC_len (l : List ((Nat × Nat) × Int)) : (flC l).length = l.length * 3 := by
  unfold flC
  induction l with
  | nil => rfl
  | cons x l ih => rw [List.flatMap_cons, List.length_append, ih, List.length_cons]; simp; omega
theorem own_cs {w : World} {B : Nat} {v : Value} {xs : List ((Nat × Nat) × Int)} (h : w.ownsRow B 56 3 v xs.length (flC xs)) : ∃ a c, v = .slice a xs.length c ∧ CsAt w xs a := by
  obtain ⟨hl, h2⟩ := h
  rcases h2 with ⟨rfl, h0⟩ | ⟨g, cap, cur, rfl, h3, h4, h5, h6, h7, h8⟩
  · exact ⟨none, 0, by rw [h0], .inl h0⟩
  · refine ⟨_, cap, rfl, .inr ⟨g, rfl, fun k x hx => ?_⟩⟩
    have hb : Blk w g cur 56 := h4
    obtain ⟨e1, e2, e3⟩ := flC_at xs k x hx
    have hk := (List.getElem?_eq_some_iff.1 hx).1
    have kk := fun (j : Nat) (hj : j < xs.length * 3) => show cur[j]? = (flC xs)[j]? by
      rw [← h8, List.getElem?_take_of_lt hj]; simp
    rw [hb.cell, hb.cell, hb.cell, kk _ (by omega), kk _ (by omega), kk _ (by omega)]
    exact ⟨e1, e2, e3⟩
/-- The cells that an octagon gives. -/
def cellsO (x : Oc) : List ((Nat × Nat) × Int) := if chkO x = 0 ∧ x.em = false then celL (2 * x.n.toNat) x.m (allP (2 * x.n.toNat)) else []
theorem cellsO_le (x : Oc) : (cellsO x).length ≤ 16384 := by
  unfold cellsO
  split
  · rename_i h
    obtain ⟨N, hN, hn, -⟩ := chk_zero h.1
    have h1 := celL_le (2 * x.n.toNat) x.m (allP (2 * x.n.toNat))
    rw [← preP_all, preP_len] at h1
    have h2 : x.n.toNat = N := by rw [hn]; simp
    rw [← preP_all]
    refine Nat.le_trans h1 ?_
    rw [h2]
    exact Nat.mul_le_mul (show 2 * N ≤ 128 by omega) (show 2 * N ≤ 128 by omega)
  · simp
def RcTo (w : World) (xs : List ((Nat × Nat) × Int)) : Ending → World → Prop := fun e w' => ∃ a c, e = .returned (.slice a xs.length c) ∧ CsAt w' xs a ∧ Below w.heap.size w w'
theorem rcells_to (x : Oc) (a : Option Addr) (c : Nat) (w : World) (hm : MAt w x.m a) : Calls Try.prog 29 #[ocV x a c] w (RcTo w (cellsO x)) := by
  by_cases h : chkO x = 0 ∧ x.em = false
  · obtain ⟨h1, h2⟩ := h
    have e : cellsO x = celL (2 * x.n.toNat) x.m (allP (2 * x.n.toNat)) := by unfold cellsO; rw [if_pos ⟨h1, h2⟩]
    obtain ⟨N, hN, hn, -⟩ := chk_zero h1
    obtain ⟨n, em, m⟩ := x
    simp only at h2 hn hm
    subst h2 hn
    rw [e]
    refine (rcells_yes N m a c w hm h1).mono ?_
    rintro e w' ⟨v, rfl, ho, hb⟩
    obtain ⟨a', c', rfl, hc⟩ := own_cs ho
    exact ⟨a', c', rfl, hc, hb⟩
  · have e : cellsO x = [] := by unfold cellsO; rw [if_neg h]
    rw [e]
    refine (rcells_no x a c w hm ?_).mono fun e w' ⟨he, hb⟩ => ⟨none, 0, he, .inl rfl, hb⟩
    by_cases h1 : chkO x = 0
    · refine .inr ?_
      cases h2 : x.em with
      | true => rfl
      | false => exact absurd ⟨h1, h2⟩ h
    · exact .inl h1
theorem Above.cell {B : Nat} {W W' : World} (h : Above B W W') {p : Addr} {v : Value} (hc : W.cell? p = some v) (hB : B ≤ p.block) : W'.cell? p = some v := (World.cell?_of_block (w := W) (h.block p.block hB (World.block_lt_of_cell? W _ hc))).trans hc
theorem Above.of {B k : Nat} {W W' : World} (h : Below k W W') (hk : k = W.heap.size) : Above B W W' := by subst hk; exact (Above.refl _ _).below h
theorem MOwn.mat_above {B : Nat} {w w' : World} {m : List Int} {a : Option Addr} {c : Nat} (h : MOwn B w m a c) (ha : Above B w w') : MAt w' m a := by
  rcases h.2.2 with h0 | ⟨g, cs, e, hg, hB, hc⟩
  · exact .inl h0
  · refine .inr ⟨g, 0, e, fun i hi => ?_⟩
    have h1 := ha.cell (p := ⟨g, 0 + i, none⟩) (v := .int .i64 m[i]) (by rw [hB.cell, Nat.zero_add]; exact hc i hi) hg
    exact h1
def DcTo (w : World) (xs : List ((Nat × Nat) × Int)) : Ending → World → Prop := fun e w' => Below w.heap.size w w' ∧ ∃ (gf : Nat) (lb : Array Value) (K : World → Prop), e = .returned (.func (.func gf) #[] lb) ∧ (∀ args w, (callFunc gf args).run Try.prog w = .ok (.enter gf args) w) ∧ SeqK Try.prog gf lb encC xs K w' ∧ ∀ A, Above w.heap.size w' A → K A
theorem dcells_to (x : Oc) (a : Option Addr) (c : Nat) (w : World) (hm : MAt w x.m a) : Calls Try.prog 30 #[ocV x a c] w (DcTo w (cellsO x)) := by
  by_cases h : chkO x = 0 ∧ x.em = false
  · obtain ⟨h1, h2⟩ := h
    have e : cellsO x = celL (2 * x.n.toNat) x.m (allP (2 * x.n.toNat)) := by unfold cellsO; rw [if_pos ⟨h1, h2⟩]
    obtain ⟨N, hN, hn, -, hok⟩ := chk_zero h1
    obtain ⟨n, em, m⟩ := x
    simp only at h2 hn hm hok
    subst h2 hn
    rw [e]
    refine (dcells_yes N m a c w hm h1).mono ?_
    rintro e w' ⟨hb, X, Y, a', c', rfl, h3, h4, h5, h6, h7⟩
    refine ⟨hb, _, _, CAt X Y N m a' m.length c', rfl, enters_of Try.func57 (by kernel_rfl) rfl, cells2_seq N X Y hN m a' m.length c' (hok rfl).1 rfl w', fun A hA => ?_⟩
    exact ⟨hA.cell (p := ⟨X, 0, none⟩) h3 h6, hA.cell (p := ⟨Y, 0, none⟩) h4 h7, h5.mat_above hA⟩
  · have e : cellsO x = [] := by unfold cellsO; rw [if_neg h]
    rw [e]
    refine (dcells_no x a c w hm ?_).mono fun e w' ⟨he, hb⟩ => ⟨hb, _, _, fun _ => True, he, enters_of Try.func56 (by kernel_rfl) rfl, cells1_seq _ _, fun _ _ => trivial⟩
    by_cases h1 : chkO x = 0
    · refine .inr ?_
      cases h2 : x.em with
      | true => rfl
      | false => exact absurd ⟨h1, h2⟩ h
    · exact .inl h1
end Go.Proofs.Ythnefcafhpioaaa
