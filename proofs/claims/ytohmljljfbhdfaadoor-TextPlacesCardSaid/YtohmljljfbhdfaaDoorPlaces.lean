/-
  The iterator that text.Places hands back: proved is that it gives a text's runes with their places, all or as far as its rounds go on.
  Condition: the text has at most 2^52 bytes.
-/
import Derived.Test.YtohmljljfbhdfaaDoorSpots
namespace Go.Proofs.YtohmljljfbhdfaaDoor
open Go Go.RowKit Go.Shelf
attribute [local go_sem] Oper.semAt_some

theorem places_any (s : ByteArray) (w : World) : Calls Tryd.prog 15 #[.string s] w fun e w' => e = .returned (.func (.func 23) #[] #[.pointer (some ⟨w.heap.size, 0, none⟩)]) ∧ w' = w.alloc (.cells #[.string s] 9) := by
  go_enter Tryd.func15, Tryd.ntmps15
  go_wp2
  go_ret
  exact ⟨rfl, rfl⟩

/-- What is handed to a round: the place, the rune. -/
def encPlace (x : Spot) : Array Value := #[.agg #[.int .i64 x.line, .int .i64 x.col], .int .i32 x.r]

set_option maxRecDepth 100000 in
set_option maxHeartbeats 4000000 in
theorem places1_seq (s : ByteArray) (Bs : Nat) (w : World) (hs : s.size ≤ 4503599627370496) (hBs : w.cell? ⟨Bs, 0, none⟩ = some (.string s)) (hlt : Bs < w.heap.size) :
    SeqOf Tryd.prog 23 #[.pointer (some ⟨Bs, 0, none⟩)] encPlace (spots s) w := fun l J Jx W hW hJ hJx hY h0 => by
  have hBs' : W.cell? ⟨Bs, 0, none⟩ = some (.string s) := (hW.cell (p := ⟨Bs, 0, none⟩) hlt).trans hBs
  have hlt' : Bs < W.heap.size := Nat.lt_of_lt_of_le hlt hW.size
  clear hBs hW
  have HJ := Lib.hid hJ; clear hJ
  have HJx := Lib.hid hJx; clear hJx
  have HY := Lib.hid hY; clear hY
  refine calls_of_wp_marks Tryd.func23 rfl ?_
  simp only [Tryd.ntmps23, List.size_toArray, List.length_cons, List.length_nil, Nat.reduceAdd, Nat.reduceSub, Array.replicate_succ, Array.replicate_zero, List.push_toArray, List.append_toArray, List.nil_append, List.cons_append]
  go_wp2_with (go_at_call 21; refine (spots_any _ _).mono ?_; rintro e w' ⟨rfl, rfl⟩)
  have b1 := (Blk.new W #[.func (.yield l) #[] #[]] 50).alloc (.cells #[.string s] 9)
  have b2 := Blk.new (W.alloc (.cells #[.func (.yield l) #[] #[]] 50)) #[.string s] 9
  rw [World.size_alloc] at b2
  have hB0 : Below W.heap.size W ((W.alloc (.cells #[.func (.yield l) #[] #[]] 50)).alloc (.cells #[.string s] 9)) := ((Below.refl _ _).alloc (Nat.le_refl _) _).alloc (by simp) _
  obtain ⟨W0, hW0⟩ : ∃ W0, (W.alloc (.cells #[.func (.yield l) #[] #[]] 50)).alloc (.cells #[.string s] 9) = W0 := ⟨_, rfl⟩
  have hz0 : W0.heap.size = W.heap.size + 2 := by rw [← hW0]; simp
  rw [hW0] at b1 b2 hB0 ⊢
  clear hW0
  refine wp_rangeFunc_of (gf := 25) (lb := #[.pointer (some ⟨W.heap.size + 1, 0, none⟩)]) rfl (enters_of Tryd.func25 (by kernel_rfl) rfl)
    (spots1_seq s (W.heap.size + 1) W0 hs (b2.cell 0) b2.lt) (Below.refl _ _) (fun _ => rfl)
    (fun pre A => J pre A ∧ Blk A W.heap.size #[.func (.yield l) #[] #[]] 50) (fun c pre A => c = .ret ∧ Jx pre A)
    (fun pre A B h hb => ⟨HJ.out _ _ _ h.1 (hb.mono (by omega)), h.2.below hb (by omega)⟩) (fun c pre A B h hb => ⟨h.1, HJx.out _ _ _ h.2 (hb.mono (by omega))⟩)
    ⟨HJ.out _ _ _ h0 hB0, b1⟩
    (fun pre x a1 A => (J pre A ∧ Blk A W.heap.size #[.func (.yield l) #[] #[]] 50) ∧ ∃ Bx, W0.heap.size ≤ Bx ∧ Blk A Bx #[.int .i64 x.line, .int .i64 x.col, .int .i32 x.r] 48 ∧ a1 = { tmps := #[.func (.yield l) #[] #[], .pointer (some ⟨Bs, 0, none⟩), .pointer (some ⟨W.heap.size, 0, none⟩), undef, .pointer (some ⟨Bx, 0, none⟩), .string s, .func (.func 25) #[] #[.pointer (some ⟨W.heap.size + 1, 0, none⟩)], .int .i64 x.pos, .agg #[.int .i64 x.line, .int .i64 x.col, .int .i32 x.r], undef, undef, undef, undef, undef, undef, undef], defers := [] })
    (fun pre x a1 A k r o' ⟨h, Bx, hBx, hb, e⟩ hl hr => ⟨⟨HJ.out _ _ _ h.1 (below_put _ _ (by omega) _), h.2.put (by omega) _⟩, Bx, hBx, hb.putLoop hr _, e⟩)
    ?assign ?body ?done ?stop
  case assign =>
    intro k pre x A hI hpre hle
    dsimp only [encSpot]
    gi_wp2
    exact ⟨(Above.refl _ _).alloc _, ⟨HJ.out _ _ _ hI.1 ((Below.refl _ _).alloc (by omega) _), hI.2.alloc _⟩, A.heap.size, hle, Blk.new A _ _, rfl⟩
  case body =>
    rintro k pre x a1 A ⟨⟨hj, hy1⟩, Bx, hBx, hb, rfl⟩ hpre hle
    have hn1 : A.cell? ⟨W.heap.size, 0, none⟩ = some (.func (.yield l) #[] #[]) := hy1.cell 0
    have hx1 : A.cell? ⟨Bx, 0, none⟩ = some (.int .i64 x.line) := hb.cell 0
    have hx2 : A.cell? ⟨Bx, 1, none⟩ = some (.int .i64 x.col) := hb.cell 1
    have hx3 : A.cell? ⟨Bx, 2, none⟩ = some (.int .i32 x.r) := hb.cell 2
    have HY1 := Lib.hid hy1; clear hy1 hb
    obtain ⟨fn, tmps, assign, body, hy, hR⟩ := HY.out pre x A hj hpre
    dsimp only [encPlace] at hy
    gi_wp2
    refine (roundIn_any hR).mono ?_
    clear hy hR
    rintro e W3 (⟨rfl, hj3, ha3⟩ | ⟨rfl, hjx3, ha3⟩)
    · gi_wp2
      exact ⟨ha3.mono (by omega), hj3, HY1.out.above ha3 (Nat.le_refl _)⟩
    · gi_wp2
      exact ⟨ha3.mono (by omega), rfl, hjx3⟩
  case done =>
    intro D A hD hI hK
    have HK := Lib.hid hK; clear hK
    go_wp2
    refine ⟨by simp, .inl ⟨D, _, rfl, run_takeDeferred HK.out, ?_⟩⟩
    exact ⟨_, results_none rfl _ _ _, ⟨_, rfl⟩, .inl (HJ.out _ _ _ hI.1 (below_put _ _ (by omega) _))⟩
  case stop =>
    rintro D c pre A hD hpre ⟨rfl, hjx⟩ hK
    have HK := Lib.hid hK; clear hK
    go_wp2
    refine ⟨by simp, .inl ⟨D, _, rfl, run_takeDeferred HK.out, ?_⟩⟩
    exact ⟨_, results_none rfl _ _ _, ⟨_, rfl⟩, .inr ⟨pre, hpre, HJx.out _ _ _ hjx (below_put _ _ (by omega) _)⟩⟩
end Go.Proofs.YtohmljljfbhdfaaDoor
