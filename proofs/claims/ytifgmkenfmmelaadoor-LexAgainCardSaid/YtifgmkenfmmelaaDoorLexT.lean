/-
  (*lex.reader).take: proved is that the token stands behind the list, and the reader has moved.
-/
import Derived.Test.YtifgmkenfmmelaaDoorLexV
import Derived.Test.YtifgmkenfmmelaaDoorShelf
import Derived.Deep.RegionHeld3
import Derived.Deep.RegionLaw
import Derived.Deep.AppendLies
import Derived.OwnWalk
import Derived.KernelRfl
namespace Go.Proofs.YtifgmkenfmmelaaDoor
open Go Go.RowKit

theorem clone_any (s : ByteArray) (w : World) (hs : s.size ≤ 65536) : Calls Tryd.prog 39 #[.string s] w fun e w' => e = .returned (.string s) ∧ Below w.heap.size w w' := by
  go_enter Tryd.func39, Tryd.ntmps39
  go_wp2_with (go_at_call 53; refine (Tryd.stringslite_Clone _ _ (by omega)).mono ?_; rintro e w' ⟨rfl, hb⟩)
  go_ret
  exact ⟨rfl, hb⟩

theorem ownsRow_above {w w' : World} {B base : Nat} {e : TypeId} {size n : Nat} {v : Value} {xs : List Value} (h : w.ownsRow base e size v n xs) (ha : Above B w w') (hB : B ≤ base) : w'.ownsRow base e size v n xs := by
  obtain ⟨h1, h2⟩ := h
  refine ⟨h1, ?_⟩
  rcases h2 with h2 | ⟨g, cap, cur, hv, hg, hh, hr⟩
  · exact .inl h2
  · exact .inr ⟨g, cap, cur, hv, hg, (ha.block g (by omega) (Array.getElem?_eq_some_iff.1 hh).1).trans hh, hr⟩
theorem above_of_below {w w' : World} (h : Below w.heap.size w w') (B : Nat) : Above B w w' := (Above.refl B w).below h

theorem info_tok : (Tryd.prog.info? 33).map (fun i => (i.zero, i.size, i.bytes)) = some (some (.agg #[.int .i64 0, .string ⟨#[]⟩, .int .i64 0, .int .i64 0, .int .i64 0]), 5, 48) := by kernel_rfl

/-- The cells of a token. -/
def tokC (kind : Int) (t : ByteArray) (num : Int) (P : Int × Int) : List Value := [.int .i64 kind, .string t, .int .i64 num, .int .i64 P.1, .int .i64 P.2]
/-- What a reader's call has left that has put a token behind the list. -/
def Taken (w : World) (B : Nat) (s : ByteArray) (n : Nat) (Q : Int × Int) (k : Nat) (ys : List Value) (e : Ending) (w' : World) : Prop :=
  ∃ v, e = .returned (.int .i64 0) ∧ Rd w' B s n Q v ∧ w'.ownsRow (B + 1) 33 5 v k ys ∧ Below B w w'
theorem text_ext (s : ByteArray) (a n : Nat) (ha : a ≤ n) (hn : n ≤ s.size) : (s.extract a s.size).extract 0 (n - a) = s.extract a n := by
  rw [ByteArray.extract_extract]
  congr 1; omega

theorem rdS {w' : World} {B : Nat} {x y z v : Value} {T : TypeId} (h : Blk w' B #[x, y, z, v] T) : w'.cell? ⟨B, 0, none⟩ = some x ∧ w'.cell? ⟨B, 1, none⟩ = some y ∧ w'.cell? ⟨B, 2, none⟩ = some z := ⟨h.cell 0, h.cell 1, h.cell 2⟩
theorem blk_grown {w w' : World} {b : Nat} {cs : Array Value} {t : TypeId} {row : Option Nat} (h : Blk w b cs t) (hg : w.grownBy w' row) (hr : row ≠ some b) : Blk w' b cs t :=
  (hg.block b h.lt (fun e => hr e.symm)).trans h

set_option maxRecDepth 100000 in
set_option maxHeartbeats 4000000 in
theorem take_any (s : ByteArray) (a n B k : Nat) (kind num : Int) (P : Int × Int) (v : Value) (xs : List Value) (w : World) (hs : s.size ≤ 65536) (ha : a ≤ n) (hn : n ≤ s.size)
    (h1 : 1 ≤ P.1) (h2 : 1 ≤ P.2) (h3 : P.1 ≤ a + 1) (h4 : P.2 ≤ a + 1) (hR : Rd w B s a P v) (hown : w.ownsRow (B + 1) 33 5 v k xs) (hk : k ≤ 70000) :
    Calls Tryd.prog 21 #[.pointer (some ⟨B, 0, none⟩), .int .i64 kind, .int .i64 (n - a : Nat), .int .i64 num] w
      (Taken w B s n (mvE s n s.size a P) (k + 1) (xs ++ tokC kind (s.extract a n) num P)) := by
  obtain ⟨i0, hi0, hz0, hz1, hz2⟩ := info_parts info_tok
  obtain ⟨P1, P2⟩ := P
  have c0 : w.cell? ⟨B, 0, none⟩ = some (.string (s.extract a s.size)) := hR.cell 0
  have c1 : w.cell? ⟨B, 1, none⟩ = some (.int .i64 P1) := hR.cell 1
  have c2 : w.cell? ⟨B, 2, none⟩ = some (.int .i64 P2) := hR.cell 2
  have c3 : w.cell? ⟨B, 3, none⟩ = some v := hR.cell 3
  have g3 := hR.free 3
  have hlt := hR.lt
  have HR := Lib.hid hR; clear hR
  have HO := Lib.hid hown; clear hown
  have hx := text_ext s a n ha hn
  have HX := Lib.hid hx; clear hx
  have HD := Lib.hid (show Blk w.drew B #[.string (s.extract a s.size), .int .i64 P1, .int .i64 P2, v] 43 from HR.out)
  have hna : n ≤ s.size - a + a := by omega
  have hn0 : (0 : Int) ≤ ((n - a : Nat) : Int) := Int.natCast_nonneg _
  have hn1 : ((n - a : Nat) : Int) ≤ (((s.extract a s.size).size : Nat) : Int) := by simp; omega
  have ag : v.ownBlock ≠ some B := fun h => by have := (HO.out.lt B h).1; omega
  have hsz : ((s.extract a s.size).extract 0 (n - a)).size ≤ 65536 := by simp; omega
  go_enter Tryd.func21, Tryd.ntmps21
  go_wp2_with fail
  go_region_law
    (first
      | (refine step_append_lies _ (by rfl) _ _ _ (by rfl) (B + 1) 33 i0 _ 5 48 Tryd.underlying23 hi0 hz0 hz1 hz2 rfl (by omega) v k xs (by rfl) ((ownsRow_above HO.out.drew (above_of_below hb1 (B + 1)) (Nat.le_refl _)).alloc _) ⟨w1.heap.size, 0, none⟩ 1 1 (tokC kind ((s.extract a s.size).extract 0 (n - a)) num (P1, P2)) (by rfl) (by rfl) (World.news_of_block (cs := #[.int .i64 kind, .string ((s.extract a s.size).extract 0 (n - a)), .int .i64 num, .int .i64 P1, .int .i64 P2]) (t := 33) (fr := (0, 0)) (heap_alloc_new w1 _)) (by simp [tokC, Value.oneCell']) (by omega) (by unfold maxLen; omega) (by omega) (by have := hb1.size; simp at this ⊢; omega) (w1.heap.size + 1) (by simp) ?_; intro gg cap w2 hown1 hgrow hat hlt2; have q4 := (blk_grown ((HD.out.below hb1 hlt).alloc _) hgrow ag).cell 3; have q5 := (blk_grown ((HD.out.below hb1 hlt).alloc _) hgrow ag).free 3)
      | (go_simp; go_at_call 39; (with_reducible refine (clone_any _ _ hsz).mono ?_); rintro e w1 ⟨rfl, hb1⟩; have q0 : w1.cell? ⟨B, 0, none⟩ = some (.string (s.extract a s.size)) := (HD.out.below hb1 hlt).cell 0; have q1 : w1.cell? ⟨B, 1, none⟩ = some (.int .i64 P1) := (HD.out.below hb1 hlt).cell 1; have q2 : w1.cell? ⟨B, 2, none⟩ = some (.int .i64 P2) := (HD.out.below hb1 hlt).cell 2; have q3 : w1.cell? ⟨B, 3, none⟩ = some v := (HD.out.below hb1 hlt).cell 3; have hz : B < w1.heap.size := (HD.out.below hb1 hlt).lt))
  all_goals
    have R2 := Lib.hid (show Rd (w2.setCell ⟨B, 3, none⟩ (.slice (some ⟨gg, 0, none⟩) (k + 1) cap)) B s a (P1, P2) (.slice (some ⟨gg, 0, none⟩) (k + 1) cap) from (blk_grown ((HD.out.below hb1 hlt).alloc _) hgrow ag).set 3 _)
    have hB1 : Below B w w1 := ((Below.refl B w).drew).trans (hb1.mono (by simp; omega))
    have hB2 := Lib.hid ((((hB1.alloc (by omega) _).grown hgrow (by simp; omega) (fun r hr => by have := (HO.out.lt r hr).1; omega)).setCell (p := ⟨B, 3, none⟩) (by simp) (.slice (some ⟨gg, 0, none⟩) (k + 1) cap)))
    have hO2 := Lib.hid (ownsRow_setCell_below hown1 (a := ⟨B, 3, none⟩) (by simp) (.slice (some ⟨gg, 0, none⟩) (k + 1) cap))
    rw [HX.out] at hO2
    clear hgrow hown1 q0 q1 q2 q3 q4 q5 hat hB1
    go_wp2_with fail
    refine (move_any s a n B (P1, P2) _ _ hs ha hn h1 h2 h3 h4 R2.out).mono ?_
    rintro e w3 ⟨rfl, hR3, hb3, ha3⟩
    go_wp2
    go_ret
    exact ⟨_, rfl, hR3, ownsRow_above hO2.out ha3 (Nat.le_refl _), hB2.out.trans hb3⟩
end Go.Proofs.YtifgmkenfmmelaaDoor
