/-
  The project's answer for an expression and for a condition (tree's Expr, Cond): proved is what each answers, and that it turns nothing that lay.
-/
import Derived.Test.YtbchibmmkmldiaaGreatDoorFault
namespace Go.Proofs.YtbchibmmkmldiaaGreatDoor
open Go Go.RowKit

/-- What the project answers for an expression or a condition. -/
def prjChk (x : Nd) : Int := faultT (tourN x 1 ⟨[], 0, 0⟩)

set_option maxRecDepth 100000 in
set_option maxHeartbeats 4000000 in
theorem treeExpr_any (x : Nd) (v0 v1 v2 v3 : Value) (w : World) (hty : x.ty = .E) (hin : NdIn w x [v0, v1, v2, v3]) :
    Calls Tryz.prog 16 #[.agg #[v0, v1, v2, v3]] w (fun e w' => e = .returned (.int .i64 (prjChk x)) ∧ Below w.heap.size w w') := by
  obtain ⟨W1, hW1⟩ : ∃ W1, (w.alloc (.cells #[v0, v1, v2, v3] 36)).alloc (.cells #[.slice none 0 0, .int .i64 0, .int .i64 0] 62) = W1 := ⟨_, rfl⟩
  have hb : Below w.heap.size w W1 := by
    rw [← hW1]
    exact ((Below.refl _ w).alloc (Nat.le_refl _) _).alloc (by simp) _
  have hB1 : Blk W1 (w.heap.size + 1) #[.slice none 0 0, .int .i64 0, .int .i64 0] 62 := by
    have h := Blk.new (w.alloc (.cells #[v0, v1, v2, v3] 36)) #[.slice none 0 0, .int .i64 0, .int .i64 0] 62
    rw [hW1, World.size_alloc] at h
    exact h
  have hT : TourIn w W1 (w.heap.size + 1) ⟨[], 0, 0⟩ (.slice none 0 0) := ⟨hB1, [], ⟨rfl, .inl ⟨rfl, rfl⟩⟩, NodesAre.nil w⟩
  have hE1 : Blk W1 w.heap.size #[v0, v1, v2, v3] 36 := by rw [← hW1]; exact (Blk.new w _ _).alloc _
  have h0 : Tr.ok ⟨[], 0, 0⟩ := by unfold Tr.ok; simp
  have hC := walkOf_all w (w.heap.size + 1) _ x (Nat.le_refl _) [v0, v1, v2, v3] 1 ⟨[], 0, 0⟩ (.slice none 0 0) W1 hin hb (by omega) (by omega) (by omega) h0 rfl hT
  have hok := (tourN_ok x 1 ⟨[], 0, 0⟩ h0 (by omega)).1
  have hp : prjChk x = faultT (tourN x 1 ⟨[], 0, 0⟩) := rfl
  rw [hp]
  clear hp
  obtain ⟨T, hTr⟩ : ∃ T, tourN x 1 ⟨[], 0, 0⟩ = T := ⟨_, rfl⟩
  rw [hTr] at hC hok ⊢
  rw [hty] at hC
  change Calls _ _ #[_, .iface 84 (.agg #[v0, v1, v2, v3]), _] _ _ at hC
  clear hTr h0 hT hB1 hty hin
  have HC := Lib.hid hC; clear hC
  have HB := Lib.hid hb; clear hb
  have HW1 := Lib.hid hW1; clear hW1
  have e0 : W1.cell? ⟨w.heap.size, 0, none⟩ = some v0 := hE1.cell 0
  have e1 : W1.cell? ⟨w.heap.size, 1, none⟩ = some v1 := hE1.cell 1
  have e2 : W1.cell? ⟨w.heap.size, 2, none⟩ = some v2 := hE1.cell 2
  have e3 : W1.cell? ⟨w.heap.size, 3, none⟩ = some v3 := hE1.cell 3
  clear hE1
  go_enter Tryz.func16, Tryz.ntmps16
  go_upto_region 2 with fail
  rw [HW1.out]
  clear HW1
  go_wp2_with (first | (go_at_call 28; (with_reducible refine HC.out.mono ?_); rintro e w2 ⟨v', rfl, ht, hf⟩; have HT := Lib.hid ht; clear ht; have HF := Lib.hid hf; clear hf) | (go_at_call 19; (with_reducible refine (fault_any w w2 _ T v' HT.out hok).mono ?_); rintro e w3 ⟨rfl, hb3⟩) | fail)
  go_ret
  have hw2 := HB.out.trans (HF.out.old (by omega) HB.out.size (fun g hg => by cases hg))
  exact ⟨rfl, hw2.trans (hb3.mono hw2.size)⟩

end Go.Proofs.YtbchibmmkmldiaaGreatDoor
