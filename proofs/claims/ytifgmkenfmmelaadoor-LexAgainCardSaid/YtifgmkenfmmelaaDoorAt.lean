/-
  text.At: proved is that it answers 'atV s n' at every text and number.
  Condition: the text has at most 2^52 bytes.
-/
import Derived.Test.YtifgmkenfmmelaaDoorSpots
namespace Go.Proofs.YtifgmkenfmmelaaDoor
open Go Go.RowKit Go.Shelf
attribute [local go_sem] Oper.semAt_some

/-- Between two rounds of At: n's box, the result's, p's; all that has come stands ahead of n. -/
def AtI (n : Int) (w : World) (pre : List Spot) (W : World) : Prop :=
  Blk W w.heap.size #[.int .i64 n] 3 ∧ Blk W (w.heap.size + 1) #[.int .i64 0, .int .i64 0] 25 ∧ Blk W (w.heap.size + 1 + 1 + 1) #[.int .i64 (behindL (1, 1) pre).1, .int .i64 (behindL (1, 1) pre).2] 25 ∧ Below w.heap.size w W ∧ (∀ x ∈ pre, (x.pos : Int) < n)
theorem AtI.below {n : Int} {w : World} {pre : List Spot} {A B : World} (h : AtI n w pre A) {k : Nat} (hk : w.heap.size + 4 ≤ k) (hb : Below k A B) : AtI n w pre B :=
  ⟨h.1.below hb (by omega), h.2.1.below hb (by omega), h.2.2.1.below hb (by omega), h.2.2.2.1.trans (hb.mono (by omega)), h.2.2.2.2⟩
/-- A round has left: the rune that came last stands at n or behind it. -/
def AtX (n : Int) (w : World) (c : Code) (pre : List Spot) (W : World) : Prop := c = .exit 0 ∧ ∃ pre' x, pre = pre' ++ [x] ∧ AtI n w pre' W ∧ ¬ (x.pos : Int) < n

set_option maxRecDepth 100000 in
set_option maxHeartbeats 4000000 in
theorem at_any (s : ByteArray) (n : Int) (w : World) (hs : s.size ≤ 4503599627370496) :
    Calls Tryd.prog 18 #[.string s, .int .i64 n] w fun e w' => e = .returned (.agg #[.int .i64 (atV s n).1, .int .i64 (atV s n).2]) ∧ Below w.heap.size w w' := by
  refine calls_of_wp_marks Tryd.func18 rfl ?_
  simp only [Tryd.ntmps18, List.size_toArray, List.length_cons, List.length_nil, Nat.reduceAdd, Nat.reduceSub, Array.replicate_succ, Array.replicate_zero, List.push_toArray, List.append_toArray, List.nil_append, List.cons_append]
  go_wp2_with (first | (go_at_call 32; refine (begin_any _).mono ?_; rintro e w' ⟨rfl, rfl⟩) | (go_at_call 33; refine (spots_any _ _).mono ?_; rintro e w' ⟨rfl, rfl⟩))
  have hB0 : Below w.heap.size w (((((w.alloc (.cells #[.int .i64 n] 3)).alloc (.cells #[.int .i64 0, .int .i64 0] 25)).alloc (.cells #[.int .i64 1, .int .i64 1] 25)).alloc (.cells #[.int .i64 1, .int .i64 1] 25)).alloc (.cells #[.string s] 9)) :=
    (((((Below.refl _ w).alloc (Nat.le_refl _) _).alloc (by simp) _).alloc (by simp; omega) _).alloc (by simp; omega) _).alloc (by simp; omega) _
  have b1 := ((((Blk.new w #[.int .i64 n] 3).alloc (.cells #[.int .i64 0, .int .i64 0] 25)).alloc (.cells #[.int .i64 1, .int .i64 1] 25)).alloc (.cells #[.int .i64 1, .int .i64 1] 25)).alloc (.cells #[.string s] 9)
  have b2 := (((Blk.new (w.alloc (.cells #[.int .i64 n] 3)) #[.int .i64 0, .int .i64 0] 25).alloc (.cells #[.int .i64 1, .int .i64 1] 25)).alloc (.cells #[.int .i64 1, .int .i64 1] 25)).alloc (.cells #[.string s] 9)
  have b3 := (Blk.new (((w.alloc (.cells #[.int .i64 n] 3)).alloc (.cells #[.int .i64 0, .int .i64 0] 25)).alloc (.cells #[.int .i64 1, .int .i64 1] 25)) #[.int .i64 1, .int .i64 1] 25).alloc (.cells #[.string s] 9)
  have b4 := Blk.new ((((w.alloc (.cells #[.int .i64 n] 3)).alloc (.cells #[.int .i64 0, .int .i64 0] 25)).alloc (.cells #[.int .i64 1, .int .i64 1] 25)).alloc (.cells #[.int .i64 1, .int .i64 1] 25)) #[.string s] 9
  simp only [World.size_alloc] at b2 b3 b4
  obtain ⟨W0, hW0⟩ : ∃ W0, (((((w.alloc (.cells #[.int .i64 n] 3)).alloc (.cells #[.int .i64 0, .int .i64 0] 25)).alloc (.cells #[.int .i64 1, .int .i64 1] 25)).alloc (.cells #[.int .i64 1, .int .i64 1] 25)).alloc (.cells #[.string s] 9)) = W0 := ⟨_, rfl⟩
  have hz0 : W0.heap.size = w.heap.size + 5 := by rw [← hW0]; simp
  rw [hW0] at hB0 b1 b2 b3 b4 ⊢
  clear hW0
  refine wp_rangeFunc_of (gf := 48) (lb := #[.pointer (some ⟨w.heap.size + 1 + 1 + 1 + 1, 0, none⟩)]) rfl (enters_of Tryd.func48 (by kernel_rfl) rfl)
    (spots1_seq s (w.heap.size + 1 + 1 + 1 + 1) W0 hs (b4.cell 0) b4.lt) (Below.refl _ _) (fun _ => rfl) (AtI n w) (AtX n w)
    (fun pre A B h hb => h.below (by omega) hb) (fun c pre A B ⟨hc, pre', x, e, h, hx⟩ hb => ⟨hc, pre', x, e, h.below (by omega) hb, hx⟩)
    ⟨b1, b2, b3, hB0, fun _ h => by cases h⟩
    (fun pre x a1 W => AtI n w pre W ∧ ∃ Bx, W0.heap.size ≤ Bx ∧ Blk W Bx #[.int .i64 x.line, .int .i64 x.col, .int .i32 x.r] 62 ∧ a1 = { tmps := #[.string s, .int .i64 n, undef, .pointer (some ⟨w.heap.size, 0, none⟩), .pointer (some ⟨w.heap.size + 1, 0, none⟩), .pointer (some ⟨w.heap.size + 1 + 1 + 1, 0, none⟩), .int .i64 x.pos, .pointer (some ⟨Bx, 0, none⟩), .agg #[.int .i64 1, .int .i64 1], .string s, .func (.func 48) #[] #[.pointer (some ⟨w.heap.size + 1 + 1 + 1 + 1, 0, none⟩)], .int .i64 x.pos, .agg #[.int .i64 x.line, .int .i64 x.col, .int .i32 x.r], undef, undef, undef, undef, undef, undef], defers := [] })
    (fun pre x a1 A l r o' ⟨h, Bx, hBx, hb, e⟩ hl hr => ⟨h.below (k := W0.heap.size) (by omega) (below_put _ _ hl _), Bx, hBx, hb.putLoop hr _, e⟩)
    ?assign ?body ?done ?stop
  case assign =>
    intro l pre x W hI hpre hle
    dsimp only [encSpot]
    gi_wp2
    exact ⟨(Above.refl _ _).alloc _, hI.below (k := W0.heap.size) (by omega) ((Below.refl _ _).alloc hle _), W.heap.size, hle, Blk.new W _ _, rfl⟩
  case body =>
    rintro l pre x a1 W ⟨hI, Bx, hBx, hb, rfl⟩ hpre hle
    obtain ⟨i1, i2, i3, i4, i5⟩ := hI
    have hbd : x.pos < s.size ∧ 1 ≤ x.line ∧ 1 ≤ x.col ∧ x.line ≤ x.pos + 1 ∧ x.col ≤ x.pos + 1 := by have := spots_bounds s x (hpre.subset (by simp)); omega
    have hn1 : W.cell? ⟨w.heap.size, 0, none⟩ = some (.int .i64 n) := i1.cell 0
    have hx1 : W.cell? ⟨Bx, 0, none⟩ = some (.int .i64 x.line) := hb.cell 0
    have hx2 : W.cell? ⟨Bx, 1, none⟩ = some (.int .i64 x.col) := hb.cell 1
    have hx3 : W.cell? ⟨Bx, 2, none⟩ = some (.int .i32 x.r) := hb.cell 2
    have I3 := Lib.hid i3
    have I5 := Lib.hid i5
    have HBX := Lib.hid hb
    clear i3 i5 hb
    by_cases hx : (x.pos : Int) < n
    · have hbh := behind_any x.pos x.line x.col x.r W (by omega) (by omega) (by omega) (by omega)
      obtain ⟨N, hN⟩ : ∃ N : Int × Int, nxt ⟨x.pos, x.line, x.col, x.r⟩ = N := ⟨_, rfl⟩
      rw [hN] at hbh
      have HN := Lib.hid hN; clear hN
      gi_wp2_with (refine ⟨trivial, ?_⟩; gi_at_call 34; (with_reducible refine (CallsIn.inRound l (callsIn_wide.2 hbh)).mono ?_); rintro e W4 ⟨rfl, hb4⟩; have hP4 := Lib.hid (I3.out.below hb4 I3.out.lt); have hq1 := hP4.out.cell 0; have hq2 := hP4.out.cell 1; have hf1 := hP4.out.free 0; have hf2 := hP4.out.free 1)
      refine ⟨(((Above.refl _ _).below hb4).setCell (by simp; omega) _).setCell (by simp; omega) _, ?_⟩
      refine ⟨((i1.below hb4 i1.lt).other (a := ⟨w.heap.size + 1 + 1 + 1, 0, none⟩) (by simp; omega) _).other (a := ⟨w.heap.size + 1 + 1 + 1, 1, none⟩) (by simp; omega) _, ((i2.below hb4 i2.lt).other (a := ⟨w.heap.size + 1 + 1 + 1, 0, none⟩) (by simp) _).other (a := ⟨w.heap.size + 1 + 1 + 1, 1, none⟩) (by simp) _, ?_, ((i4.trans (hb4.mono (by have := i4.size; omega))).setCell (by simp; omega) _).setCell (by simp; omega) _, ?_⟩
      · rw [behindL_snoc]
        have h := (hP4.out.set 0 (.int .i64 N.1)).set 1 (.int .i64 N.2)
        have e : nxt x = N := HN.out
        rw [e]
        exact h
      · intro y hy
        rcases List.mem_append.1 hy with hy | hy
        · exact I5.out y hy
        · rw [List.mem_singleton.1 hy]; exact hx
    · gi_wp2
      exact ⟨Above.refl _ _, rfl, pre, x, rfl, ⟨i1, i2, I3.out, i4, I5.out⟩, by omega⟩
  case done =>
    intro D W hD hI hK
    have HV := Lib.hid (show atV s n = behindL (1, 1) (spots s) from atL_all n _ _ hI.2.2.2.2)
    obtain ⟨i1, i2, i3, i4, i5⟩ := hI
    have hq1 : W.cell? ⟨w.heap.size + 1 + 1 + 1, 0, none⟩ = some (.int .i64 (behindL (1, 1) (spots s)).1) := i3.cell 0
    have hq2 : W.cell? ⟨w.heap.size + 1 + 1 + 1, 1, none⟩ = some (.int .i64 (behindL (1, 1) (spots s)).2) := i3.cell 1
    have hf1 := i2.free 0
    have hf2 := i2.free 1
    have hr1 : W.cell? ⟨w.heap.size + 1, 0, none⟩ = some (.int .i64 0) := i2.cell 0
    have hr2 : W.cell? ⟨w.heap.size + 1, 1, none⟩ = some (.int .i64 0) := i2.cell 1
    have HK := Lib.hid hK; clear hK i3 i5
    have I2 := Lib.hid i2; clear i2
    go_wp2
    have hK' : ((W.setCell ⟨w.heap.size + 1, 0, none⟩ (.int .i64 (behindL (1, 1) (spots s)).1)).setCell ⟨w.heap.size + 1, 1, none⟩ (.int .i64 (behindL (1, 1) (spots s)).2)).heap[D]? = some (.deferred (some [])) :=
      (Below.heap_setCell _ _ _ _ (by simp; omega)).trans ((Below.heap_setCell _ _ _ _ (by simp; omega)).trans HK.out)
    refine ⟨by simp, .inl ⟨D, _, rfl, run_takeDeferred hK', ?_⟩⟩
    have hZ := ((I2.out.set 0 (.int .i64 (behindL (1, 1) (spots s)).1)).set 1 (.int .i64 (behindL (1, 1) (spots s)).2)).put (l := D) (by omega) (.deferred none)
    have z0 := hZ.cell 0
    have z1 := hZ.cell 1
    simp at z0 z1
    refine ⟨.agg #[.int .i64 (behindL (1, 1) (spots s)).1, .int .i64 (behindL (1, 1) (spots s)).2], by simp [results, Tryd.results18, go_sem, z0, z1], ?_⟩
    rw [HV.out]
    exact ⟨rfl, ((i4.setCell (by simp) _).setCell (by simp) _).trans (below_put _ _ (by omega) _)⟩
  case stop =>
    rintro D c pre W hD ⟨rest, hrest⟩ ⟨rfl, pre', x, rfl, hI, hx⟩ hK
    have HV := Lib.hid (show atV s n = behindL (1, 1) pre' by unfold atV; rw [← hrest, List.append_assoc]; exact atL_stop n _ pre' x rest hI.2.2.2.2 hx)
    clear hrest
    obtain ⟨i1, i2, i3, i4, i5⟩ := hI
    have hq1 : W.cell? ⟨w.heap.size + 1 + 1 + 1, 0, none⟩ = some (.int .i64 (behindL (1, 1) pre').1) := i3.cell 0
    have hq2 : W.cell? ⟨w.heap.size + 1 + 1 + 1, 1, none⟩ = some (.int .i64 (behindL (1, 1) pre').2) := i3.cell 1
    have hf1 := i2.free 0
    have hf2 := i2.free 1
    have hr1 : W.cell? ⟨w.heap.size + 1, 0, none⟩ = some (.int .i64 0) := i2.cell 0
    have hr2 : W.cell? ⟨w.heap.size + 1, 1, none⟩ = some (.int .i64 0) := i2.cell 1
    have HK := Lib.hid hK; clear hK i3 i5
    have I2 := Lib.hid i2; clear i2
    go_wp2
    have hK' : ((W.setCell ⟨w.heap.size + 1, 0, none⟩ (.int .i64 (behindL (1, 1) pre').1)).setCell ⟨w.heap.size + 1, 1, none⟩ (.int .i64 (behindL (1, 1) pre').2)).heap[D]? = some (.deferred (some [])) :=
      (Below.heap_setCell _ _ _ _ (by simp; omega)).trans ((Below.heap_setCell _ _ _ _ (by simp; omega)).trans HK.out)
    refine ⟨by simp, .inl ⟨D, _, rfl, run_takeDeferred hK', ?_⟩⟩
    have hZ := ((I2.out.set 0 (.int .i64 (behindL (1, 1) pre').1)).set 1 (.int .i64 (behindL (1, 1) pre').2)).put (l := D) (by omega) (.deferred none)
    have z0 := hZ.cell 0
    have z1 := hZ.cell 1
    simp at z0 z1
    refine ⟨.agg #[.int .i64 (behindL (1, 1) pre').1, .int .i64 (behindL (1, 1) pre').2], by simp [results, Tryd.results18, go_sem, z0, z1], ?_⟩
    rw [HV.out]
    exact ⟨rfl, ((i4.setCell (by simp) _).setCell (by simp) _).trans (below_put _ _ (by omega) _)⟩
end Go.Proofs.YtifgmkenfmmelaaDoor
