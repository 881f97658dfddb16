/-
  What the laws of layer 12 know first.
-/
import Derived.Test.YthnefcafhpioaaaDbK
namespace Go.Proofs.Ythnefcafhpioaaa
open Go Go.RowKit Go.Shelf

theorem known_facts : topO ((1 : Nat) : Int) = ⟨1, false, [0, inf, inf, 0]⟩ ∧ withO ⟨1, false, [0, inf, inf, 0]⟩ 0 1 6 = (⟨1, false, [0, 6, inf, 0]⟩, 0) ∧ hasV ⟨1, false, [0, 6, inf, 0]⟩ [3] = true ∧ hasV ⟨1, false, [0, 6, inf, 0]⟩ [4] = false := by
  refine ⟨by rfl, by rfl, by rfl, by rfl⟩
theorem kn_next {w : World} {m : List Int} {a : Option Addr} (h : MAt w m a) (o : Obj) : MAt (w.alloc o) m a := h.next ((Below.refl _ w).alloc (Nat.le_refl _) _)
theorem kn_new (w : World) (m : List Int) (t : TypeId) : MAt (w.alloc (.cells (cvI m).toArray t)) m (some ⟨w.heap.size, 0, none⟩) := .inr ⟨_, 0, rfl, fun i hi => by
  rw [(Blk.new w (cvI m).toArray t).cell, Nat.zero_add, List.getElem?_toArray, cvI_at m i hi]⟩
theorem kn_step {w W W' : World} {Y : Nat} {cs : Array Value} {t : TypeId} {m : List Int} {a : Option Addr} {o : Obj} (h : Blk W Y cs t) (hm : MAt W m a) (hb : Below w.heap.size w W) (hs : Below (W.alloc o).heap.size (W.alloc o) W') : Blk W' Y cs t ∧ MAt W' m a ∧ Below w.heap.size w W' :=
  ⟨(h.alloc o).below hs (by have := h.lt; simp; omega), (kn_next hm o).next hs, (hb.alloc hb.size o).trans (hs.mono (by have := hb.size; simp; omega))⟩
set_option maxRecDepth 100000 in
set_option maxHeartbeats 4000000 in
theorem known12_any (w : World) : Calls Try.prog 9 #[] w fun e w' => e = .returned (.bool true) ∧ Below w.heap.size w w' := by
  obtain ⟨f1, f2, f3, f4⟩ := known_facts
  have HT : Hid (∀ w : World, Calls Try.prog 14 #[.int .i64 1] w fun e w' => ∃ a c, e = .returned (.tuple #[.agg #[.int .i64 1, .bool false, .slice a 4 c], .int .i64 0]) ∧ MAt w' [0, inf, inf, 0] a ∧ Below w.heap.size w w') := Lib.hid fun w => by
    have h := top_any 1 w (by decide)
    rw [f1] at h
    exact h.mono fun e w' ⟨a, c, he, hm, hb⟩ => ⟨a, c, he, hm.mat, hb⟩
  have HWI : Hid (∀ (a : Option Addr) (c : Nat) (w : World), MAt w [0, inf, inf, 0] a → Calls Try.prog 22 #[.agg #[.int .i64 1, .bool false, .slice a 4 c], .int .i64 0, .int .i64 1, .int .i64 6] w fun e w' => ∃ a c, e = .returned (.tuple #[.agg #[.int .i64 1, .bool false, .slice a 4 c], .int .i64 0]) ∧ MAt w' [0, 6, inf, 0] a ∧ Below w.heap.size w w') := Lib.hid fun a c w hm => by
    have h := with_any ⟨1, false, [0, inf, inf, 0]⟩ a c 0 1 6 w hm (by simp [maxLen])
    rw [f2] at h
    exact h.mono fun e w' ⟨a, c, he, hm, hb⟩ => ⟨a, c, he, hm.mat, hb⟩
  have HL : Hid (∀ (a b : Option Addr) (c d : Nat) (w : World), MAt w [0, 6, inf, 0] a → MAt w [0, 6, inf, 0] b → Calls Try.prog 32 #[.slice a 4 c, .slice b 4 d] w fun e w' => e = .returned (.bool true) ∧ Below w.heap.size w w') := Lib.hid fun a b c d w h1 h2 => by
    have h := longs_any [0, 6, inf, 0] [0, 6, inf, 0] a b c d w h1 h2 (by simp [maxLen])
    rw [decide_eq_true rfl] at h
    exact h
  have HH3 : Hid (∀ (a b : Option Addr) (c d : Nat) (w : World), MAt w [0, 6, inf, 0] a → MAt w [3] b → Calls Try.prog 25 #[.agg #[.int .i64 1, .bool false, .slice a 4 c], .slice b 1 d] w fun e w' => e = .returned (.bool true) ∧ Below w.heap.size w w') := Lib.hid fun a b c d w h1 h2 => by
    have h := has_any ⟨1, false, [0, 6, inf, 0]⟩ a c [3] b d w h1 h2 (by intro v hv; simp at hv; subst hv; unfold isI; decide)
    rw [f3] at h
    exact h
  have HH4 : Hid (∀ (a b : Option Addr) (c d : Nat) (w : World), MAt w [0, 6, inf, 0] a → MAt w [4] b → Calls Try.prog 25 #[.agg #[.int .i64 1, .bool false, .slice a 4 c], .slice b 1 d] w fun e w' => e = .returned (.bool false) ∧ Below w.heap.size w w') := Lib.hid fun a b c d w h1 h2 => by
    have h := has_any ⟨1, false, [0, 6, inf, 0]⟩ a c [4] b d w h1 h2 (by intro v hv; simp at hv; subst hv; unfold isI; decide)
    rw [f4] at h
    exact h
  clear f1 f2 f3 f4
  go_enter Try.func9, Try.ntmps9
  go_upto_region 2 with (go_at_call 14; (with_reducible refine (HT.out _).mono ?_); rintro e w1 ⟨a, c, rfl, hm1, hb1⟩)
  have hma : MAt (w1.alloc (.cells #[.int .i64 1, .bool false, .slice a 4 c] 24)) [0, inf, inf, 0] a := hm1.next ((Below.refl _ w1).alloc (Nat.le_refl _) _)
  have hba : Below w.heap.size w (w1.alloc (.cells #[.int .i64 1, .bool false, .slice a 4 c] 24)) := hb1.alloc hb1.size _
  have hcw := HWI.out a c _ hma
  go_upto_region 3 with (go_at_call 22; (with_reducible refine hcw.mono ?_); rintro e w2 ⟨a2, c2, rfl, hm2, hb2⟩)
  obtain ⟨Y, hY⟩ : ∃ Y, w2.heap.size = Y := ⟨_, rfl⟩
  obtain ⟨W3, hW3⟩ : ∃ W, w2.alloc (.cells #[.int .i64 1, .bool false, .slice a2 4 c2] 24) = W := ⟨_, rfl⟩
  have hp3 : Blk W3 Y #[.int .i64 1, .bool false, .slice a2 4 c2] 24 := by rw [← hW3, ← hY]; exact Blk.new w2 _ _
  have hm3 : MAt W3 [0, 6, inf, 0] a2 := by rw [← hW3]; exact hm2.next ((Below.refl _ w2).alloc (Nat.le_refl _) _)
  have hb3 : Below w.heap.size w W3 := by rw [← hW3]; exact (hba.trans (hb2.mono hba.size)).alloc (Nat.le_trans hba.size hb2.size) _
  rw [hW3, hY]
  have q0 : W3.cell? ⟨Y, 0, none⟩ = some (.int .i64 1) := hp3.cell 0
  have q1 : W3.cell? ⟨Y, 1, none⟩ = some (.bool false) := hp3.cell 1
  have q2 : W3.cell? ⟨Y, 2, none⟩ = some (.slice a2 4 c2) := hp3.cell 2
  have HG := Lib.hid (And.intro hp3 (And.intro hm3 hb3))
  clear hW3 hY hp3 hm3 hb3 hcw hma hba hm1 hb1 hm2 hb2 HT HWI
  go_wp2_with (first | (go_at_call 32; refine (HL.out a2 _ c2 4 _ (kn_next HG.out.2.1 _) (kn_new W3 [0, 6, inf, 0] _)).mono ?_; rintro e w5 ⟨rfl, hb5⟩; have H5 := Lib.hid (kn_step HG.out.1 HG.out.2.1 HG.out.2.2 hb5); have p0 := H5.out.1.cell 0; have p1 := H5.out.1.cell 1; have p2 := H5.out.1.cell 2; clear hb5) | (go_at_call 25; first | (refine (HH3.out a2 _ c2 1 _ (kn_next H5.out.2.1 _) (kn_new w5 [3] _)).mono ?_; clear HH3; rintro e w6 ⟨rfl, hb6⟩; have H6 := Lib.hid (kn_step H5.out.1 H5.out.2.1 H5.out.2.2 hb6); have p0 := H6.out.1.cell 0; have p1 := H6.out.1.cell 1; have p2 := H6.out.1.cell 2; clear hb6) | (refine (HH4.out a2 _ c2 1 _ (kn_next H6.out.2.1 _) (kn_new w6 [4] _)).mono ?_; rintro e w7 ⟨rfl, hb7⟩; have H7 := Lib.hid (kn_step H6.out.1 H6.out.2.1 H6.out.2.2 hb7))) | fail)
  go_ret
  exact ⟨rfl, H7.out.2.2⟩
end Go.Proofs.Ythnefcafhpioaaa
