/-
  slices.Clone of numbers, whatever they are; package dbm's Cells.
-/
import Derived.Test.YthnefcafhpioaaaDfA
import Derived.Test.YthnefcafhpioaaaDcA
import Derived.Test.YthnefcafhpioaaaRegQ
import Derived.Lib.SliceRun
namespace Go.Proofs.Ythnefcafhpioaaa
open Go Go.RowKit Go.Shelf

theorem app_i64e (a0 b0 : Addr) (c0 : Nat) (ty : TypeId) (w : World) : (Builtin.append_ #[22, 22] ty #[.slice (some b0) 0 0, .slice (some a0) 0 c0]).run Try.prog w = .ok (.slice (some b0) 0 0) w := by
  simp [Builtin.append_, go_sem]
set_option maxRecDepth 100000 in
theorem clone_empty (a : Addr) (c : Nat) (w : World) : Calls Try.prog 45 #[.slice (some a) 0 c] w fun e w' => ∃ a' c', e = .returned (.slice a' 0 c') ∧ MOwn w.heap.size w' [] a' c' ∧ Below w.heap.size w w' := by
  have hnil : ∀ w, (binOp .eql 22 (.slice (some a) 0 c) (.slice none 0 0)).run Try.prog w = .ok (.bool false) w := fun w => Lib.run_eql_slice_nil w _ _ (some a) 0 c 0 0 Try.underlying22
  have happ := fun (b0 : Addr) (ty : TypeId) (w : World) => app_i64e a b0 c ty w
  go_enter Try.func45, Try.ntmps45
  go_wp2_with fail
  go_ret
  exact ⟨_, _, rfl, ⟨Nat.zero_le _, Nat.zero_le _, .inl rfl⟩, (Below.refl _ _).alloc (Nat.le_refl _) _⟩
set_option maxRecDepth 100000 in
theorem clone_i64 (m : List Int) (a : Option Addr) (c : Nat) (w : World) (hm : MAt w m a) (hl : m.length ≤ 16384) : Calls Try.prog 45 #[.slice a m.length c] w fun e w' => ∃ a' c', e = .returned (.slice a' m.length c') ∧ MOwn w.heap.size w' m a' c' ∧ Below w.heap.size w w' := by
  rcases Nat.eq_zero_or_pos m.length with h0 | h0
  · have : m = [] := List.eq_nil_of_length_eq_zero h0
    subst this
    cases a with
    | none => exact (Try.slices_Clone_nil 0 c w).mono fun e w' ⟨he, hw⟩ => ⟨none, 0, he, mown_nil _ _, hw ▸ Below.refl _ _⟩
    | some a => exact clone_empty a c w
  · obtain ⟨b, ob, rfl, -⟩ := mat_at hm (i := 0) h0
    obtain ⟨i0, hi0', hz0, hz1, hz2⟩ := info_parts info_i64
    refine (Try.slices_Clone i0 _ 1 8 hi0' hz0 hz1 hz2 rfl (by decide) Try.sizeOf2 b ob m.length c (cvI m) w (by rw [cvI_len]; omega) (by unfold maxLen; omega) (by omega) (fun k u hk => ?_) (cvI_one m)).mono ?_
    · have hkl : k < m.length := by
        rcases Nat.lt_or_ge k m.length with h' | h'
        · exact h'
        · rw [List.getElem?_eq_none (by rw [cvI_len]; exact h')] at hk; cases hk
      rw [cvI_at m k hkl] at hk
      rw [← Option.some.inj hk]
      obtain ⟨b', o', e', hcc⟩ := hm.resolve_left (by omega)
      cases e'
      exact hcc k hkl
    · rintro e w' ⟨v', rfl, hown, -, hb⟩
      obtain ⟨a', c', rfl, ho⟩ := own_mown hown
      exact ⟨a', c', rfl, ho, hb⟩

set_option maxRecDepth 100000 in
theorem cells1_seq (K : World → Prop) (w : World) : SeqK Try.prog 56 #[] encC [] K w := fun l J Jx W hW hJ hJx hK hY h0 => by
  have H0 := Lib.hid h0
  clear hW hJ hJx hK hY h0
  go_enter Try.func56, Try.ntmps56
  go_wp2_with fail
  go_end0
  exact ⟨⟨_, rfl⟩, .inl H0.out⟩

/-- What becomes known late while Cells makes its function. -/
structure ClR where
  c : Value
  p : Value
  q : Value
structure ClJ (W3 : World) (N : Nat) (m : List Int) (L : Nat) (b4 b5 b6 b7 b8 : Bool) (R : ClR) (w' : World) : Prop where
  low : Below W3.heap.size W3 w'
  c : b4 = true → ∃ a' c', R.c = .slice a' L c' ∧ MOwn W3.heap.size w' m a' c'
  p : b5 = true → ∃ g v, R.p = .pointer (some ⟨g, 0, none⟩) ∧ W3.heap.size ≤ g ∧ Blk w' g #[v] 3 ∧ (b7 = true → v = .int .i64 N)
  q : b6 = true → ∃ g v, R.q = .pointer (some ⟨g, 0, none⟩) ∧ W3.heap.size ≤ g ∧ Blk w' g #[v] 22 ∧ (b8 = true → v = R.c)
theorem blk_apart {w : World} {g k : Nat} {cs ds : Array Value} {t u : TypeId} (h : Blk w g cs t) (h2 : Blk w k ds u) (ht : t ≠ u) : g ≠ k := fun e => by
  subst e
  have := h.symm.trans h2
  injection this with this
  injection this with e1 e2 e3
  exact ht e2
theorem mown_apart {B : Nat} {w : World} {m : List Int} {a : Option Addr} {c g : Nat} {cs : Array Value} {t : TypeId} (h : MOwn B w m a c) (hb : Blk w g cs t) (ht : t ≠ 2) (u : Value) : MOwn B (w.setCell ⟨g, 0, none⟩ u) m a c := by
  refine ⟨h.1, h.2.1, h.2.2.imp id ?_⟩
  rintro ⟨g', cs', e, hg', hB, hc⟩
  exact ⟨g', cs', e, hg', hB.other (a := ⟨g, 0, none⟩) (fun e => blk_apart hb hB ht e.symm) u, hc⟩
section
variable {W3 w' w2 : World} {N : Nat} {m : List Int} {L : Nat} {l : Array Bool} {R : ClR}
theorem cl_keep {i : Nat} (h : ClJ W3 N m L (l.getD 4 false) (l.getD 5 false) (l.getD 6 false) (l.getD 7 false) (l.getD 8 false) R w') (hi : i < 4) : ClJ W3 N m L ((l.setIfInBounds i true).getD 4 false) ((l.setIfInBounds i true).getD 5 false) ((l.setIfInBounds i true).getD 6 false) ((l.setIfInBounds i true).getD 7 false) ((l.setIfInBounds i true).getD 8 false) R w' := by
  rw [getD_set_ne false (show i ≠ 4 by omega), getD_set_ne false (show i ≠ 5 by omega), getD_set_ne false (show i ≠ 6 by omega), getD_set_ne false (show i ≠ 7 by omega), getD_set_ne false (show i ≠ 8 by omega)]
  exact h
theorem cl_clone {a' : Option Addr} {c' : Nat} (h : ClJ W3 N m L (l.getD 4 false) (l.getD 5 false) (l.getD 6 false) (l.getD 7 false) (l.getD 8 false) R w') (hn : l.getD 8 false = false) (hm : MOwn w'.heap.size w2 m a' c') (hb : Below w'.heap.size w' w2) : ClJ W3 N m L ((l.setIfInBounds 4 true).getD 4 false) ((l.setIfInBounds 4 true).getD 5 false) ((l.setIfInBounds 4 true).getD 6 false) ((l.setIfInBounds 4 true).getD 7 false) ((l.setIfInBounds 4 true).getD 8 false) ⟨.slice a' L c', R.p, R.q⟩ w2 := by
  rw [getD_set_ne false (show 4 ≠ 5 by decide), getD_set_ne false (show 4 ≠ 6 by decide), getD_set_ne false (show 4 ≠ 7 by decide), getD_set_ne false (show 4 ≠ 8 by decide)]
  refine ⟨h.low.trans (hb.mono h.low.size), fun _ => ⟨a', c', rfl, hm.lower h.low.size⟩, fun h5 => ?_, fun h6 => ?_⟩
  · obtain ⟨g, v, e, hg, hB, hv⟩ := h.p h5
    exact ⟨g, v, e, hg, hB.below hb hB.lt, hv⟩
  · obtain ⟨g, v, e, hg, hB, -⟩ := h.q h6
    exact ⟨g, v, e, hg, hB.below hb hB.lt, fun h8 => by rw [hn] at h8; cases h8⟩
theorem cl_new {u : Value} (h : ClJ W3 N m L (l.getD 4 false) (l.getD 5 false) (l.getD 6 false) (l.getD 7 false) (l.getD 8 false) R w') (hn : l.getD 7 false = false) : ClJ W3 N m L ((l.setIfInBounds 5 true).getD 4 false) ((l.setIfInBounds 5 true).getD 5 false) ((l.setIfInBounds 5 true).getD 6 false) ((l.setIfInBounds 5 true).getD 7 false) ((l.setIfInBounds 5 true).getD 8 false) ⟨R.c, .pointer (some ⟨w'.heap.size, 0, none⟩), R.q⟩ (w'.alloc (.cells #[u] 3)) := by
  rw [getD_set_ne false (show 5 ≠ 4 by decide), getD_set_ne false (show 5 ≠ 6 by decide), getD_set_ne false (show 5 ≠ 7 by decide), getD_set_ne false (show 5 ≠ 8 by decide)]
  have hb : Below w'.heap.size w' (w'.alloc (.cells #[u] 3)) := (Below.refl _ _).alloc (Nat.le_refl _) _
  refine ⟨h.low.trans (hb.mono h.low.size), fun h4 => ?_, fun _ => ⟨_, _, rfl, h.low.size, Blk.new _ _ _, fun h7 => by rw [hn] at h7; cases h7⟩, fun h6 => ?_⟩
  · obtain ⟨a', c', e, hm⟩ := h.c h4
    exact ⟨a', c', e, hm.next hb rfl⟩
  · obtain ⟨g, v, e, hg, hB, hv⟩ := h.q h6
    exact ⟨g, v, e, hg, hB.below hb hB.lt, hv⟩
theorem cl_new2 {u : Value} (h : ClJ W3 N m L (l.getD 4 false) (l.getD 5 false) (l.getD 6 false) (l.getD 7 false) (l.getD 8 false) R w') (hn : l.getD 8 false = false) : ClJ W3 N m L ((l.setIfInBounds 6 true).getD 4 false) ((l.setIfInBounds 6 true).getD 5 false) ((l.setIfInBounds 6 true).getD 6 false) ((l.setIfInBounds 6 true).getD 7 false) ((l.setIfInBounds 6 true).getD 8 false) ⟨R.c, R.p, .pointer (some ⟨w'.heap.size, 0, none⟩)⟩ (w'.alloc (.cells #[u] 22)) := by
  rw [getD_set_ne false (show 6 ≠ 4 by decide), getD_set_ne false (show 6 ≠ 5 by decide), getD_set_ne false (show 6 ≠ 7 by decide), getD_set_ne false (show 6 ≠ 8 by decide)]
  have hb : Below w'.heap.size w' (w'.alloc (.cells #[u] 22)) := (Below.refl _ _).alloc (Nat.le_refl _) _
  refine ⟨h.low.trans (hb.mono h.low.size), fun h4 => ?_, fun h5 => ?_, fun _ => ⟨_, _, rfl, h.low.size, Blk.new _ _ _, fun h8 => by rw [hn] at h8; cases h8⟩⟩
  · obtain ⟨a', c', e, hm⟩ := h.c h4
    exact ⟨a', c', e, hm.next hb rfl⟩
  · obtain ⟨g, v, e, hg, hB, hv⟩ := h.p h5
    exact ⟨g, v, e, hg, hB.below hb hB.lt, hv⟩
theorem cl_store {g : Nat} {u : Value} (h : ClJ W3 N m L (l.getD 4 false) (l.getD 5 false) (l.getD 6 false) (l.getD 7 false) (l.getD 8 false) R w') (hgA : W3.heap.size ≤ g) (hBg : Blk w' g #[u] 3) (hR : R.p = .pointer (some ⟨g, 0, none⟩)) : ClJ W3 N m L ((l.setIfInBounds 7 true).getD 4 false) ((l.setIfInBounds 7 true).getD 5 false) ((l.setIfInBounds 7 true).getD 6 false) ((l.setIfInBounds 7 true).getD 7 false) ((l.setIfInBounds 7 true).getD 8 false) R (w'.setCell ⟨g, 0, none⟩ (.int .i64 N)) := by
  rw [getD_set_ne false (show 7 ≠ 4 by decide), getD_set_ne false (show 7 ≠ 5 by decide), getD_set_ne false (show 7 ≠ 6 by decide), getD_set_ne false (show 7 ≠ 8 by decide)]
  refine ⟨h.low.setCell (p := ⟨g, 0, none⟩) hgA _, fun h4 => ?_, fun _ => ⟨g, _, hR, hgA, hBg.set 0 _, fun _ => rfl⟩, fun h6 => ?_⟩
  · obtain ⟨a', c', e, hm⟩ := h.c h4
    exact ⟨a', c', e, mown_apart hm hBg (by decide) _⟩
  · obtain ⟨k, v, e, hg, hB, hv⟩ := h.q h6
    exact ⟨k, v, e, hg, hB.other (a := ⟨g, 0, none⟩) (fun e => blk_apart hBg hB (by decide) e.symm) _, hv⟩
theorem cl_store2 {g : Nat} {u : Value} {a' : Option Addr} {c' : Nat} (h : ClJ W3 N m L (l.getD 4 false) (l.getD 5 false) (l.getD 6 false) (l.getD 7 false) (l.getD 8 false) R w') (hgA : W3.heap.size ≤ g) (hBg : Blk w' g #[u] 22) (hR : R.q = .pointer (some ⟨g, 0, none⟩)) (hC : R.c = .slice a' L c') : ClJ W3 N m L ((l.setIfInBounds 8 true).getD 4 false) ((l.setIfInBounds 8 true).getD 5 false) ((l.setIfInBounds 8 true).getD 6 false) ((l.setIfInBounds 8 true).getD 7 false) ((l.setIfInBounds 8 true).getD 8 false) R (w'.setCell ⟨g, 0, none⟩ (.slice a' L c')) := by
  rw [getD_set_ne false (show 8 ≠ 4 by decide), getD_set_ne false (show 8 ≠ 5 by decide), getD_set_ne false (show 8 ≠ 6 by decide), getD_set_ne false (show 8 ≠ 7 by decide)]
  refine ⟨h.low.setCell (p := ⟨g, 0, none⟩) hgA _, fun h4 => ?_, fun h5 => ?_, fun _ => ⟨g, _, hR, hgA, hBg.set 0 _, fun _ => hC.symm⟩⟩
  · obtain ⟨a', c', e, hm⟩ := h.c h4
    exact ⟨a', c', e, mown_apart hm hBg (by decide) _⟩
  · obtain ⟨k, v, e, hg, hB, hv⟩ := h.p h5
    exact ⟨k, v, e, hg, hB.other (a := ⟨g, 0, none⟩) (fun e => blk_apart hBg hB (by decide) e.symm) _, hv⟩
end
/-- What Cells answers of an octagon that may be and isn't Empty. -/
def CellsTo (w : World) (N : Nat) (m : List Int) (L : Nat) : Ending → World → Prop := fun e w' => Below w.heap.size w w' ∧ ∃ X Y a' c', e = .returned (.func (.func 57) #[] #[.pointer (some ⟨X, 0, none⟩), .pointer (some ⟨Y, 0, none⟩)]) ∧ w'.cell? ⟨X, 0, none⟩ = some (.int .i64 N) ∧ w'.cell? ⟨Y, 0, none⟩ = some (.slice a' L c') ∧ MOwn w.heap.size w' m a' c' ∧ w.heap.size ≤ X ∧ w.heap.size ≤ Y
set_option maxRecDepth 100000 in
set_option maxHeartbeats 8000000 in
theorem dcells_no (x : Oc) (a : Option Addr) (c : Nat) (w : World) (hm : MAt w x.m a) (h : chkO x ≠ 0 ∨ x.em = true) :
    Calls Try.prog 30 #[ocV x a c] w fun e w' => e = .returned (.func (.func 56) #[] #[]) ∧ Below w.heap.size w w' := by
  obtain ⟨n, em, m⟩ := x
  simp only at hm
  show Calls Try.prog 30 #[.agg #[.int .i64 n, .bool em, .slice a m.length c]] w _
  obtain ⟨X, hX⟩ : ∃ X, w.heap.size = X := ⟨_, rfl⟩
  obtain ⟨W1, hW1⟩ : ∃ W, w.alloc (.cells #[.int .i64 n, .bool em, .slice a m.length c] 24) = W := ⟨_, rfl⟩
  have hx1 : Blk W1 X #[.int .i64 n, .bool em, .slice a m.length c] 24 := by rw [← hW1, ← hX]; exact Blk.new w _ _
  have hb1 : Below w.heap.size w W1 := by rw [← hW1]; exact (Below.refl _ w).alloc (Nat.le_refl _) _
  have HC : Hid (Calls Try.prog 10 #[.agg #[.int .i64 n, .bool em, .slice a m.length c]] W1 fun e w' => e = .returned (.int .i64 (chkO ⟨n, em, m⟩)) ∧ Below W1.heap.size W1 w') := Lib.hid (check_any ⟨n, em, m⟩ a c W1 (hm.next hb1))
  have HW := Lib.hid (And.intro hX hW1)
  have HB := Lib.hid (And.intro hx1 hb1)
  have x0 : W1.cell? ⟨X, 0, none⟩ = some (.int .i64 n) := hx1.cell 0
  have x1 : W1.cell? ⟨X, 1, none⟩ = some (.bool em) := hx1.cell 1
  have x2 : W1.cell? ⟨X, 2, none⟩ = some (.slice a m.length c) := hx1.cell 2
  obtain ⟨L, hL⟩ : ∃ L, m.length = L := ⟨_, rfl⟩
  obtain ⟨F, hF⟩ : ∃ F, chkO ⟨n, em, m⟩ = F := ⟨_, rfl⟩
  simp only at h
  rw [hF] at HC h
  rw [hL] at x2 HW HC HB ⊢
  clear hX hW1 hx1 hb1 hm hL hF
  by_cases h0 : F = 0
  · have he : em = true := h.resolve_left (by simp [h0])
    subst he
    have k0 : (F != 0) = false := by simp [h0]
    clear h h0
    go_enter Try.func30, Try.ntmps30
    go_upto_region 1 with fail
    rw [HW.out.1, HW.out.2]
    go_wp2_with (first | (go_at_call 10; ((with_reducible refine HC.out.mono ?_); rintro e w2 ⟨rfl, hb2⟩; have H2 := Lib.hid (And.intro (HB.out.1.below hb2 HB.out.1.lt) hb2); have y1 := H2.out.1.cell 1)) | fail)
    go_ret
    exact ⟨rfl, HB.out.2.trans (H2.out.2.mono HB.out.2.size)⟩
  · have k0 : (F != 0) = true := by simp [h0]
    clear h h0
    go_enter Try.func30, Try.ntmps30
    go_upto_region 1 with fail
    rw [HW.out.1, HW.out.2]
    go_wp2_with (first | (go_at_call 10; ((with_reducible refine HC.out.mono ?_); rintro e w2 ⟨rfl, hb2⟩; have H2 := Lib.hid (And.intro (HB.out.1.below hb2 HB.out.1.lt) hb2); have y1 := H2.out.1.cell 1)) | fail)
    go_ret
    exact ⟨rfl, HB.out.2.trans (H2.out.2.mono HB.out.2.size)⟩
set_option maxRecDepth 100000 in
set_option maxHeartbeats 8000000 in
theorem dcells_yes (N : Nat) (m : List Int) (a : Option Addr) (c : Nat) (w : World) (hm : MAt w m a) (h : chkO ⟨N, false, m⟩ = 0) :
    Calls Try.prog 30 #[ocV ⟨N, false, m⟩ a c] w (CellsTo w N m m.length) := by
  show Calls Try.prog 30 #[.agg #[.int .i64 N, .bool false, .slice a m.length c]] w _
  obtain ⟨N', hN, hn, hem, hok⟩ := chk_zero h
  have hl : m.length ≤ 16384 := by
    rw [(hok rfl).1]
    exact Nat.mul_le_mul (show 2 * N' ≤ 128 by omega) (show 2 * N' ≤ 128 by omega)
  have HCL : Hid (∀ ww, MAt ww m a → Calls Try.prog 45 #[.slice a m.length c] ww fun e w' => ∃ a' c', e = .returned (.slice a' m.length c') ∧ MOwn ww.heap.size w' m a' c' ∧ Below ww.heap.size ww w') := Lib.hid fun ww hmw => clone_i64 m a c ww hmw hl
  obtain ⟨X, hX⟩ : ∃ X, w.heap.size = X := ⟨_, rfl⟩
  obtain ⟨W1, hW1⟩ : ∃ W, w.alloc (.cells #[.int .i64 N, .bool false, .slice a m.length c] 24) = W := ⟨_, rfl⟩
  have hx1 : Blk W1 X #[.int .i64 N, .bool false, .slice a m.length c] 24 := by rw [← hW1, ← hX]; exact Blk.new w _ _
  have hb1 : Below w.heap.size w W1 := by rw [← hW1]; exact (Below.refl _ w).alloc (Nat.le_refl _) _
  have HC : Hid (Calls Try.prog 10 #[.agg #[.int .i64 N, .bool false, .slice a m.length c]] W1 fun e w' => e = .returned (.int .i64 0) ∧ Below W1.heap.size W1 w') := Lib.hid (by have h2 := check_any ⟨N, false, m⟩ a c W1 (hm.next hb1); rw [h] at h2; exact h2)
  have HW := Lib.hid (And.intro hX hW1)
  have HB := Lib.hid (And.intro hx1 (And.intro hb1 (hm.next hb1)))
  have x0 : W1.cell? ⟨X, 0, none⟩ = some (.int .i64 N) := hx1.cell 0
  have x1 : W1.cell? ⟨X, 1, none⟩ = some (.bool false) := hx1.cell 1
  have x2 : W1.cell? ⟨X, 2, none⟩ = some (.slice a m.length c) := hx1.cell 2
  obtain ⟨L, hL⟩ : ∃ L, m.length = L := ⟨_, rfl⟩
  rw [hL] at x2 HW HC HB HCL ⊢
  clear hX hW1 hx1 hb1 hm hL h hN hn hem hok hl
  go_enter Try.func30, Try.ntmps30
  go_upto_region 1 with fail
  rw [HW.out.1, HW.out.2]
  go_upto_region 3 with (first | (go_at_call 10; ((with_reducible refine HC.out.mono ?_); rintro e W3 ⟨rfl, hb2⟩; have H2 := Lib.hid (And.intro (HB.out.1.below hb2 HB.out.1.lt) hb2); have y1 := H2.out.1.cell 1)) | fail)
  have HX : Hid (Blk W3 X #[.int .i64 N, .bool false, .slice a L c] 24 ∧ MAt W3 m a ∧ Below w.heap.size w W3) := Lib.hid ⟨H2.out.1, HB.out.2.2.next H2.out.2, HB.out.2.1.trans (H2.out.2.mono HB.out.2.1.size)⟩
  clear y1 x0 x1 x2 hb2 HC H2 HB
  refine wp_region_any (by kernel_rfl) ?_
  refine wpAny_st [some 12, some 13, some 14, some 15, some 16, some 3, some 4, none, none] (fun R => valsAt [.pointer (some ⟨X, 0, none⟩), .int .i64 (N : Int), .pointer (some ⟨X, 2, none⟩), .slice a L c, R.c, R.p, R.q, undef, undef]) (fun l R w' => ClJ W3 N m L (l.getD 4 false) (l.getD 5 false) (l.getD 6 false) (l.getD 7 false) (l.getD 8 false) R w') ⟨undef, undef, undef⟩ rfl (by kernel_rfl) (by kernel_rfl) (by kernel_rfl) ?hs ?he ?hj
  case hj => exact ⟨(Below.refl _ _).drew, (fun h => by cases h), (fun h => by cases h), (fun h => by cases h)⟩
  case hs =>
    intro qi qo ho hi lz Rz fr0 hl hl0 hup hv hx hcl w' hJ
    have HH := Lib.hid (And.intro hl hJ)
    clear hl hJ
    have hi : qi < 9 := (Array.getElem?_eq_some_iff.1 ho).1
    have hcase : qi = 0 ∨ qi = 1 ∨ qi = 2 ∨ qi = 3 ∨ qi = 4 ∨ qi = 5 ∨ qi = 6 ∨ qi = 7 ∨ qi = 8 := by omega
    clear hi
    rcases hcase with rfl | rfl | rfl | rfl | rfl | rfl | rfl | rfl | rfl
    · obtain rfl := Option.some.inj ho.symm
      clear ho
      have x1 : fr0.tmps[(1 : Nat)]? = some (.pointer (some ⟨X, 0, none⟩)) := hx 1 (not_up (by decide))
      have c0 : w'.cell? ⟨X, 0, none⟩ = some (.int .i64 N) := (HH.out.2.low.cell (p := ⟨X, 0, none⟩) HX.out.1.lt).trans (HX.out.1.cell 0)
      have c2 : w'.cell? ⟨X, 2, none⟩ = some (.slice a L c) := (HH.out.2.low.cell (p := ⟨X, 2, none⟩) HX.out.1.lt).trans (HX.out.1.cell 2)
      clear hv hx hcl hl0 hup
      refine wpOp_step rfl (fun K hK => ?_)
      go_simp
      exact hK _ _ ⟨Rz, fun _ _ _ => rfl, rfl, cl_keep HH.out.2 (by decide)⟩
    · obtain rfl := Option.some.inj ho.symm
      clear ho
      have d0 : fr0.tmps[(12 : Nat)]? = some (.pointer (some ⟨X, 0, none⟩)) := hv ⟨0, .data⟩ (by simp) rfl _ rfl
      have c0 : w'.cell? ⟨X, 0, none⟩ = some (.int .i64 N) := (HH.out.2.low.cell (p := ⟨X, 0, none⟩) HX.out.1.lt).trans (HX.out.1.cell 0)
      have c2 : w'.cell? ⟨X, 2, none⟩ = some (.slice a L c) := (HH.out.2.low.cell (p := ⟨X, 2, none⟩) HX.out.1.lt).trans (HX.out.1.cell 2)
      clear hv hx hcl hl0 hup
      refine wpOp_step rfl (fun K hK => ?_)
      go_simp
      exact hK _ _ ⟨Rz, fun _ _ _ => rfl, rfl, cl_keep HH.out.2 (by decide)⟩
    · obtain rfl := Option.some.inj ho.symm
      clear ho
      have x1 : fr0.tmps[(1 : Nat)]? = some (.pointer (some ⟨X, 0, none⟩)) := hx 1 (not_up (by decide))
      have c0 : w'.cell? ⟨X, 0, none⟩ = some (.int .i64 N) := (HH.out.2.low.cell (p := ⟨X, 0, none⟩) HX.out.1.lt).trans (HX.out.1.cell 0)
      have c2 : w'.cell? ⟨X, 2, none⟩ = some (.slice a L c) := (HH.out.2.low.cell (p := ⟨X, 2, none⟩) HX.out.1.lt).trans (HX.out.1.cell 2)
      clear hv hx hcl hl0 hup
      refine wpOp_step rfl (fun K hK => ?_)
      go_simp
      exact hK _ _ ⟨Rz, fun _ _ _ => rfl, rfl, cl_keep HH.out.2 (by decide)⟩
    · obtain rfl := Option.some.inj ho.symm
      clear ho
      have d2 : fr0.tmps[(14 : Nat)]? = some (.pointer (some ⟨X, 2, none⟩)) := hv ⟨2, .data⟩ (by simp) rfl _ rfl
      have c0 : w'.cell? ⟨X, 0, none⟩ = some (.int .i64 N) := (HH.out.2.low.cell (p := ⟨X, 0, none⟩) HX.out.1.lt).trans (HX.out.1.cell 0)
      have c2 : w'.cell? ⟨X, 2, none⟩ = some (.slice a L c) := (HH.out.2.low.cell (p := ⟨X, 2, none⟩) HX.out.1.lt).trans (HX.out.1.cell 2)
      clear hv hx hcl hl0 hup
      refine wpOp_step rfl (fun K hK => ?_)
      go_simp
      exact hK _ _ ⟨Rz, fun _ _ _ => rfl, rfl, cl_keep HH.out.2 (by decide)⟩
    · obtain rfl := Option.some.inj ho.symm
      clear ho
      have d3 : fr0.tmps[(15 : Nat)]? = some (.slice a L c) := hv ⟨3, .data⟩ (by simp) rfl _ rfl
      have HL0 := Lib.hid hl0
      have hn : lz.getD 8 false = false := not_behind hcl hl0 40 8 (by kernel_rfl)
      clear hv hx hcl hup
      refine wpOp_step rfl (fun K hK => ?_)
      go_simp
      go_at_call 45
      refine (HCL.out _ (HX.out.2.1.next HH.out.2.low)).mono ?_
      rintro e w2 ⟨a', c', rfl, hm', hb2⟩
      have hl0 := HL0.out
      exact hK _ _ ⟨⟨.slice a' L c', Rz.p, Rz.q⟩, (fun j hj hu => by rcases j with _ | _ | _ | _ | _ | _ | _ | _ | _ | j <;> first | rfl | (exact absurd hu (by rw [up_not hl0]; decide)) | (exfalso; simp at hj; omega)), rfl, cl_clone HH.out.2 hn hm' hb2⟩
    · obtain rfl := Option.some.inj ho.symm
      clear ho
      have hn : lz.getD 7 false = false := not_behind hcl hl0 40 7 (by kernel_rfl)
      have HL0 := Lib.hid hl0
      clear hv hx hcl hup
      refine wpOp_step rfl (fun K hK => ?_)
      go_simp
      have hl0 := HL0.out
      exact hK _ _ ⟨⟨Rz.c, .pointer (some ⟨w'.heap.size, 0, none⟩), Rz.q⟩, (fun j hj hu => by rcases j with _ | _ | _ | _ | _ | _ | _ | _ | _ | j <;> first | rfl | (exact absurd hu (by rw [up_not hl0]; decide)) | (exfalso; simp at hj; omega)), rfl, cl_new HH.out.2 hn⟩
    · obtain rfl := Option.some.inj ho.symm
      clear ho
      have hn : lz.getD 8 false = false := not_behind hcl hl0 40 8 (by kernel_rfl)
      have HL0 := Lib.hid hl0
      clear hv hx hcl hup
      refine wpOp_step rfl (fun K hK => ?_)
      go_simp
      have hl0 := HL0.out
      exact hK _ _ ⟨⟨Rz.c, Rz.p, .pointer (some ⟨w'.heap.size, 0, none⟩)⟩, (fun j hj hu => by rcases j with _ | _ | _ | _ | _ | _ | _ | _ | _ | j <;> first | rfl | (exact absurd hu (by rw [up_not hl0]; decide)) | (exfalso; simp at hj; omega)), rfl, cl_new2 HH.out.2 hn⟩
    · obtain rfl := Option.some.inj ho.symm
      clear ho
      have d5 : fr0.tmps[(3 : Nat)]? = some (Rz.p) := hv ⟨5, .data⟩ (by simp) rfl _ rfl
      have d1 : fr0.tmps[(13 : Nat)]? = some (.int .i64 (N : Int)) := hv ⟨1, .data⟩ (by simp) rfl _ rfl
      have h5 : lz.getD 5 false = true := hup ⟨5, .data⟩ (by simp) rfl
      obtain ⟨g, v, hR, hgA, hBg, -⟩ := HH.out.2.p h5
      have d5' : fr0.tmps[(3 : Nat)]? = some (.pointer (some ⟨g, 0, none⟩)) := d5.trans (by rw [hR])
      clear d5
      have z0 := hBg.cell 0
      have g0 := hBg.free 0
      have HBG := Lib.hid (And.intro hgA (And.intro hBg hR))
      clear hgA hBg hR hv hx hcl hup hl0 h5
      refine wpOp_step rfl (fun K hK => ?_)
      go_simp
      exact hK _ _ ⟨Rz, fun _ _ _ => rfl, rfl, cl_store HH.out.2 HBG.out.1 HBG.out.2.1 HBG.out.2.2⟩
    · obtain rfl := Option.some.inj ho.symm
      clear ho
      have d6 : fr0.tmps[(4 : Nat)]? = some (Rz.q) := hv ⟨6, .data⟩ (by simp) rfl _ rfl
      have d4 : fr0.tmps[(16 : Nat)]? = some (Rz.c) := hv ⟨4, .data⟩ (by simp) rfl _ rfl
      have h6 : lz.getD 6 false = true := hup ⟨6, .data⟩ (by simp) rfl
      have h4 : lz.getD 4 false = true := hup ⟨4, .data⟩ (by simp) rfl
      obtain ⟨g, v, hR, hgA, hBg, -⟩ := HH.out.2.q h6
      obtain ⟨a', c', hC, hm'⟩ := HH.out.2.c h4
      have d6' : fr0.tmps[(4 : Nat)]? = some (.pointer (some ⟨g, 0, none⟩)) := d6.trans (by rw [hR])
      have d4' : fr0.tmps[(16 : Nat)]? = some (.slice a' L c') := d4.trans (by rw [hC])
      clear d6 d4
      have z0 := hBg.cell 0
      have g0 := hBg.free 0
      have HBG := Lib.hid (And.intro hgA (And.intro hBg (And.intro hR hC)))
      clear hgA hBg hR hC hm' hv hx hcl hup hl0 h6 h4
      refine wpOp_step rfl (fun K hK => ?_)
      go_simp
      exact hK _ _ ⟨Rz, fun _ _ _ => rfl, rfl, cl_store2 HH.out.2 HBG.out.1 HBG.out.2.1 HBG.out.2.2.1 HBG.out.2.2.2⟩
  case he =>
    intro lz Rz w' hall hJ
    simp only [putM, valsAt, Nat.reduceAdd, Nat.zero_add, List.getD_cons_zero, List.getD_cons_succ, Act.put, List.setIfInBounds_toArray, List.set_cons_succ, List.set_cons_zero]
    obtain ⟨g1, v1, hP, hg1, hB1, hv1⟩ := hJ.p (hall 5 (by decide))
    obtain ⟨g2, v2, hQ, hg2, hB2, hv2⟩ := hJ.q (hall 6 (by decide))
    obtain ⟨a', c', hC, hm'⟩ := hJ.c (hall 4 (by decide))
    obtain rfl := hv1 (hall 7 (by decide))
    obtain rfl := hv2 (hall 8 (by decide))
    rw [hP, hQ, hC]
    rw [hC] at hB2
    have HE := Lib.hid (And.intro hJ.low (And.intro hm' (And.intro (hB1.cell 0) (And.intro (hB2.cell 0) (And.intro hg1 hg2)))))
    clear hJ hP hQ hC hB1 hB2 hm' hv1 hv2 hall hg1 hg2
    go_wp2_with fail
    go_ret
    exact ⟨HX.out.2.2.trans (HE.out.1.mono HX.out.2.2.size), g1, g2, a', c', rfl, HE.out.2.2.1, HE.out.2.2.2.1, HE.out.2.1.lower HX.out.2.2.size, Nat.le_trans HX.out.2.2.size HE.out.2.2.2.2.1, Nat.le_trans HX.out.2.2.size HE.out.2.2.2.2.2⟩
end Go.Proofs.Ythnefcafhpioaaa
