/-
  (*lex.reader).move: proved is that the reader's rest begins n bytes later, and its place is that byte's.
-/
import Derived.Test.YtifgmkenfmmelaaDoorLexP
import Derived.Test.YtifgmkenfmmelaaDoorAt
namespace Go.Proofs.YtifgmkenfmmelaaDoor
open Go Go.RowKit

/-- The reader's block: byte a of s comes next, at the place P; its list is v. -/
def Rd (w : World) (B : Nat) (s : ByteArray) (a : Nat) (P : Int × Int) (v : Value) : Prop :=
  Blk w B #[.string (s.extract a s.size), .int .i64 P.1, .int .i64 P.2, v] 43
/-- What a call has left that wrote the reader's block alone. -/
def Rdd (w : World) (B : Nat) (s : ByteArray) (n : Nat) (Q : Int × Int) (v : Value) (e : Ending) (w' : World) : Prop :=
  e = .returned (.tuple #[]) ∧ Rd w' B s n Q v ∧ Below B w w' ∧ Above (B + 1) w w'

theorem rest_ext (s : ByteArray) (a n : Nat) (ha : a ≤ n) (_hn : n ≤ s.size) : (s.extract a s.size).extract (n - a) (s.size - a) = s.extract n s.size := by
  rw [ByteArray.extract_extract]
  congr 1 <;> omega

set_option maxHeartbeats 4000000 in
theorem move_any (s : ByteArray) (a n B : Nat) (P : Int × Int) (v : Value) (w : World) (hs : s.size ≤ 65536) (ha : a ≤ n) (hn : n ≤ s.size)
    (h1 : 1 ≤ P.1) (h2 : 1 ≤ P.2) (h3 : P.1 ≤ a + 1) (h4 : P.2 ≤ a + 1) (hR : Rd w B s a P v) :
    Calls Tryd.prog 35 #[.pointer (some ⟨B, 0, none⟩), .int .i64 (n - a : Nat)] w (Rdd w B s n (mvE s n s.size a P) v) := by
  have hat := fun w => at_any (s.extract a s.size) ((n - a : Nat) : Int) w (by simp; omega)
  have hab := atV_bounds (s.extract a s.size) (n - a)
  have hmv := moved_place s a n ha hn P
  obtain ⟨q, hq⟩ : ∃ q, atV (s.extract a s.size) ((n - a : Nat) : Int) = q := ⟨_, rfl⟩
  rw [hq] at hat hab hmv
  clear hq
  have HM := Lib.hid hmv; clear hmv
  obtain ⟨q1, q2⟩ := q
  obtain ⟨P1, P2⟩ := P
  have HA := Lib.hid hat; clear hat
  simp only at hab h1 h2 h3 h4
  have c0 := hR.cell 0
  have c1 := hR.cell 1
  have c2 := hR.cell 2
  have c3 := hR.cell 3
  simp at c0 c1 c2 c3
  have hlt := hR.lt
  have HR := Lib.hid hR; clear hR
  by_cases hl : q1 = 1
  · subst hl
    go_enter Tryd.func35, Tryd.ntmps35
    go_wp2_with (go_at_call 18; refine (HA.out _).mono ?_; rintro e w1 ⟨rfl, hb1⟩; have d := Lib.hid (HR.out.below hb1 hlt); have d0 := d.out.cell 0; have d1 := d.out.cell 1; have d2 := d.out.cell 2; have d3 := d.out.cell 3; simp at d0 d1 d2 d3)
    have bR := d.out.alloc (.cells #[.int .i64 1, .int .i64 q2] 25)
    have bp := Blk.new w1 #[.int .i64 1, .int .i64 q2] 25
    have hW1 : Below B w (w1.alloc (.cells #[.int .i64 1, .int .i64 q2] 25)) := (hb1.mono (by omega)).alloc (by have := hb1.size; omega) _
    have hW2 : Above (B + 1) w (w1.alloc (.cells #[.int .i64 1, .int .i64 q2] 25)) := ((Above.refl _ _).below hb1).alloc _
    have hz : B < w1.heap.size := by have := hb1.size; omega
    have hzw : w.heap.size ≤ w1.heap.size := hb1.size
    clear d0 d1 d2 d3 d c0 c1 c2 c3
    obtain ⟨W, hW⟩ : ∃ W, w1.alloc (.cells #[.int .i64 1, .int .i64 q2] 25) = W := ⟨_, rfl⟩
    rw [hW] at bR bp hW1 hW2 ⊢
    clear hW hb1
    obtain ⟨b, hbq⟩ : ∃ b, w1.heap.size = b := ⟨_, rfl⟩
    rw [hbq] at bp hz hzw ⊢
    clear hbq w1
    have c0 : W.cell? ⟨B, 0, none⟩ = some (.string (s.extract a s.size)) := bR.cell 0
    have c1 : W.cell? ⟨B, 1, none⟩ = some (.int .i64 P1) := bR.cell 1
    have c2 : W.cell? ⟨B, 2, none⟩ = some (.int .i64 P2) := bR.cell 2
    have d0 : W.cell? ⟨b, 0, none⟩ = some (.int .i64 1) := bp.cell 0
    have d1 : W.cell? ⟨b, 1, none⟩ = some (.int .i64 q2) := bp.cell 1
    have f0 := bp.free 0
    have f1 := bp.free 1
    have g0 := bR.free 0
    have g1 := bR.free 1
    have g2 := bR.free 2
    have hBb : B ≠ b := by omega
    have hbB : b ≠ B := by omega
    have BR := Lib.hid bR; have BP := Lib.hid bp; clear bR bp
    go_region
    go_wp2
    go_region
    go_wp2
    go_region
    go_end0
    rw [rest_ext s a n ha hn]
    refine ⟨rfl, ?_, (((((hW1.setCell (by simp; omega) _).setCell (by simp; omega) _).setCell (by simp) _).setCell (by simp) _).setCell (by simp) _).drew.drew.drew, (((((hW2.setNew (by simp; omega) _).setNew (by simp; omega) _).setCell (by simp) _).setCell (by simp) _).setCell (by simp) _).drew.drew.drew⟩
    have h := ((((BR.out.other (a := ⟨b, 1, none⟩) hBb (.int .i64 (q2 + (P2 - 1)))).other (a := ⟨b, 0, none⟩) hBb (.int .i64 (1 + (P1 - 1)))).set 1 (.int .i64 (1 + (P1 - 1)))).set 2 (.int .i64 (q2 + (P2 - 1)))).set 0 (.string (s.extract n s.size))
    have e := HM.out
    unfold comb at e
    simp only [if_true] at e
    unfold Rd
    rw [← e]
    exact h
  · go_enter Tryd.func35, Tryd.ntmps35
    go_wp2_with (go_at_call 18; refine (HA.out _).mono ?_; rintro e w1 ⟨rfl, hb1⟩; have d := Lib.hid (HR.out.below hb1 hlt); have d0 := d.out.cell 0; have d1 := d.out.cell 1; have d2 := d.out.cell 2; have d3 := d.out.cell 3; simp at d0 d1 d2 d3)
    have bR := d.out.alloc (.cells #[.int .i64 q1, .int .i64 q2] 25)
    have bp := Blk.new w1 #[.int .i64 q1, .int .i64 q2] 25
    have hW1 : Below B w (w1.alloc (.cells #[.int .i64 q1, .int .i64 q2] 25)) := (hb1.mono (by omega)).alloc (by have := hb1.size; omega) _
    have hW2 : Above (B + 1) w (w1.alloc (.cells #[.int .i64 q1, .int .i64 q2] 25)) := ((Above.refl _ _).below hb1).alloc _
    have hz : B < w1.heap.size := by have := hb1.size; omega
    have hzw : w.heap.size ≤ w1.heap.size := hb1.size
    clear d0 d1 d2 d3 d c0 c1 c2 c3
    obtain ⟨W, hW⟩ : ∃ W, w1.alloc (.cells #[.int .i64 q1, .int .i64 q2] 25) = W := ⟨_, rfl⟩
    rw [hW] at bR bp hW1 hW2 ⊢
    clear hW hb1
    obtain ⟨b, hbq⟩ : ∃ b, w1.heap.size = b := ⟨_, rfl⟩
    rw [hbq] at bp hz hzw ⊢
    clear hbq w1
    have c0 : W.cell? ⟨B, 0, none⟩ = some (.string (s.extract a s.size)) := bR.cell 0
    have c1 : W.cell? ⟨B, 1, none⟩ = some (.int .i64 P1) := bR.cell 1
    have c2 : W.cell? ⟨B, 2, none⟩ = some (.int .i64 P2) := bR.cell 2
    have d0 : W.cell? ⟨b, 0, none⟩ = some (.int .i64 q1) := bp.cell 0
    have d1 : W.cell? ⟨b, 1, none⟩ = some (.int .i64 q2) := bp.cell 1
    have f0 := bp.free 0
    have f1 := bp.free 1
    have g0 := bR.free 0
    have g1 := bR.free 1
    have g2 := bR.free 2
    have hBb : B ≠ b := by omega
    have hbB : b ≠ B := by omega
    have BR := Lib.hid bR; have BP := Lib.hid bp; clear bR bp
    go_region
    go_wp2
    go_region
    go_end0
    rw [rest_ext s a n ha hn]
    refine ⟨rfl, ?_, ((((hW1.setCell (by simp; omega) _).setCell (by simp) _).setCell (by simp) _).setCell (by simp) _).drew.drew, ((((hW2.setNew (by simp; omega) _).setCell (by simp) _).setCell (by simp) _).setCell (by simp) _).drew.drew⟩
    have h := (((BR.out.other (a := ⟨b, 0, none⟩) hBb (.int .i64 (q1 + (P1 - 1)))).set 1 (.int .i64 (q1 + (P1 - 1)))).set 2 (.int .i64 q2)).set 0 (.string (s.extract n s.size))
    have e := HM.out
    unfold comb at e
    simp only [hl, if_false] at e
    unfold Rd
    rw [← e]
    exact h
end Go.Proofs.YtifgmkenfmmelaaDoor
