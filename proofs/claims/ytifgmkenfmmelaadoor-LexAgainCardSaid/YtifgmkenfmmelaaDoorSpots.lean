/-
  The iterator 'spots' of package text: proved is that it gives a text's runes with their bytes and places, all or as far as its rounds go on.
  Condition: the text has at most 2^52 bytes.
-/
import Derived.Test.YtifgmkenfmmelaaDoorRef
import Derived.Test.YtifgmkenfmmelaaDoorSeq
import Derived.OwnWalkIn
import Derived.TacticsInMore
import Derived.LoopNIn
import Derived.LoopIn
import Derived.Shelf.Abstract
import Derived.Shelf.RegionOpen
import Derived.WalkSmall
namespace Go.Proofs.YtifgmkenfmmelaaDoor
open Go Go.RowKit Go.Shelf
attribute [local go_sem] Oper.semAt_some

theorem begin_any (w : World) : Calls Tryd.prog 32 #[] w fun e w' => e = .returned (.agg #[.int .i64 1, .int .i64 1]) ∧ w' = w.alloc (.cells #[.int .i64 1, .int .i64 1] 25) := by
  go_enter Tryd.func32, Tryd.ntmps32
  go_wp2
  exact bodyPost_ret (v := .agg #[.int .i64 1, .int .i64 1]) (by simp [results, Tryd.results32, go_sem]) rfl ⟨rfl, rfl⟩

theorem behind_any (pos : Nat) (l c : Int) (r : Nat) (w : World) (hl1 : 1 ≤ l) (hl2 : l ≤ 4503599627370497) (hc1 : 1 ≤ c) (hc2 : c ≤ 4503599627370497) :
    Calls Tryd.prog 34 #[.agg #[.int .i64 l, .int .i64 c, .int .i32 r]] w fun e w' => e = .returned (.agg #[.int .i64 (nxt ⟨pos, l, c, r⟩).1, .int .i64 (nxt ⟨pos, l, c, r⟩).2]) ∧ Below w.heap.size w w' := by
  cases h10 : ((r : Int) == 10) with
  | true =>
    rw [nxt_line pos l c r h10]
    go_enter Tryd.func34, Tryd.ntmps34
    go_wp2
    exact bodyPost_ret (v := .agg #[.int .i64 (l + 1), .int .i64 1]) (by simp [results, Tryd.results34, go_sem]) rfl ⟨rfl, (((Below.refl _ _).alloc (Nat.le_refl _) _).alloc (by simp) _)⟩
  | false =>
    rw [nxt_col pos l c r h10]
    go_enter Tryd.func34, Tryd.ntmps34
    go_wp2
    exact bodyPost_ret (v := .agg #[.int .i64 l, .int .i64 (c + 1)]) (by simp [results, Tryd.results34, go_sem]) rfl ⟨rfl, (((Below.refl _ _).alloc (Nat.le_refl _) _).alloc (by simp) _)⟩

theorem spots_any (s : ByteArray) (w : World) : Calls Tryd.prog 33 #[.string s] w fun e w' => e = .returned (.func (.func 48) #[] #[.pointer (some ⟨w.heap.size, 0, none⟩)]) ∧ w' = w.alloc (.cells #[.string s] 9) := by
  go_enter Tryd.func33, Tryd.ntmps33
  go_wp2
  go_ret
  exact ⟨rfl, rfl⟩

/-- What is handed to a round: the byte's number, the spot. -/
def encSpot (x : Spot) : Array Value := #[.int .i64 x.pos, .agg #[.int .i64 x.line, .int .i64 x.col, .int .i32 x.r]]

set_option maxRecDepth 100000 in
set_option maxHeartbeats 4000000 in
theorem spots1_seq (s : ByteArray) (Bs : Nat) (w : World) (hs : s.size ≤ 4503599627370496) (hBs : w.cell? ⟨Bs, 0, none⟩ = some (.string s)) (hlt : Bs < w.heap.size) :
    SeqOf Tryd.prog 48 #[.pointer (some ⟨Bs, 0, none⟩)] encSpot (spots s) w := fun l J Jx W hW hJ hJx hY h0 => by
  have hBs' : W.cell? ⟨Bs, 0, none⟩ = some (.string s) := (hW.cell (p := ⟨Bs, 0, none⟩) hlt).trans hBs
  have hlt' : Bs < W.heap.size := Nat.lt_of_lt_of_le hlt hW.size
  clear hBs hW
  have HJ := Lib.hid hJ; clear hJ
  have HJx := Lib.hid hJx; clear hJx
  have HY := Lib.hid hY; clear hY
  refine (callsIn_wide (n := 3)).1 ?_
  refine callsIn_of_wp Tryd.func48 rfl trivial ?_ rfl
  simp only [Tryd.ntmps48, List.size_toArray, List.length_cons, List.length_nil, Nat.reduceAdd, Nat.reduceSub, Array.replicate_succ, Array.replicate_zero, List.push_toArray, List.append_toArray, List.nil_append, List.cons_append]
  gi_wp2_with (refine ⟨trivial, ?_⟩; gi_at_call 32; refine (callsIn_wide.2 (begin_any _)).mono ?_; rintro e w' ⟨rfl, rfl⟩)
  gi_loopw [4] (fun _ wr => ∃ (pos b : Nat) (p : Int × Int) (pre : List Spot), pos ≤ s.size ∧ Blk wr (W.heap.size + 1) #[.int .i64 p.1, .int .i64 p.2] 25 ∧ wr.heap[W.heap.size + 1 + 1]? = some (.stringIter s pos) ∧ J pre wr ∧ pre ++ spl s b pos p = spots s ∧ s.size ≤ pos + b ∧ 1 ≤ p.1 ∧ p.1 ≤ pos + 1 ∧ 1 ≤ p.2 ∧ p.2 ≤ pos + 1)
    (fun _ wr => s.size - wr.iterPos (W.heap.size + 1 + 1))
  case atStart =>
    exact ⟨0, s.size, (1, 1), [], by omega, by have := (Blk.new (W.alloc (Obj.cells #[Value.int IntKind.i64 1, Value.int IntKind.i64 1] 25)) #[Value.int IntKind.i64 1, Value.int IntKind.i64 1] 25).alloc (.stringIter s 0); rwa [World.size_alloc] at this, by have := World.iter_heap ((W.alloc (Obj.cells #[Value.int IntKind.i64 1, Value.int IntKind.i64 1] 25)).alloc (Obj.cells #[Value.int IntKind.i64 1, Value.int IntKind.i64 1] 25)) s 0; simpa using this,
      HJ.out _ _ _ h0 ((((Below.refl _ _).alloc (Nat.le_refl _) _).alloc (by simp) _).alloc (by simp; omega) _), rfl, by omega, by simp, by simp, by simp, by simp⟩
  case round =>
    obtain ⟨pos, b, p, pre, hpos, hblk, hit, hj, hpre, hb, hl1, hl2, hc1, hc2⟩ := hrel
    obtain ⟨l0, c0⟩ := p
    simp only at hl1 hl2 hc1 hc2
    have HB := Lib.hid hblk; clear hblk
    have HI := Lib.hid hit
    have HP := Lib.hid hpre; clear hpre
    by_cases hp : pos < s.size
    · have hd := dec_facts s pos hp
      have hnx : ∀ ty, (Instr.next (.pointer (some ⟨W.heap.size + 1 + 1, 0, none⟩)) true ty).run Tryd.prog wr = .ok (.tuple #[.bool true, .int .i64 pos, .int .i32 (rn s pos)]) (wr.iterAt (W.heap.size + 1 + 1) s (pos + wd s pos)) := fun ty => Lib.run_next_any_at wr _ s pos ty hit hp
      clear hit
      obtain ⟨b, rfl⟩ : ∃ b', b = b' + 1 := ⟨b - 1, by omega⟩
      have hsp : spl s (b + 1) pos (l0, c0) = ⟨pos, l0, c0, rn s pos⟩ :: spl s b (pos + wd s pos) (nxt ⟨pos, l0, c0, rn s pos⟩) := by simp [spl, hp]
      have HS := Lib.hid hsp; clear hsp
      have hpre2 : pre ++ [⟨pos, l0, c0, rn s pos⟩] ++ spl s b (pos + wd s pos) (nxt ⟨pos, l0, c0, rn s pos⟩) = spots s := by rw [← HP.out, HS.out]; simp
      have HP2 := Lib.hid hpre2; clear hpre2
      have hblk1 := HB.out.iterAt (k := W.heap.size + 1 + 1) (by omega) s (pos + wd s pos)
      have hc1' : (wr.iterAt (W.heap.size + 1 + 1) s (pos + wd s pos)).cell? ⟨W.heap.size + 1, 0, none⟩ = some (.int .i64 l0) := hblk1.cell 0
      have hc2' : (wr.iterAt (W.heap.size + 1 + 1) s (pos + wd s pos)).cell? ⟨W.heap.size + 1, 1, none⟩ = some (.int .i64 c0) := hblk1.cell 1
      have HB1 := Lib.hid hblk1; clear hblk1
      have hbel : Below W.heap.size wr ((wr.iterAt (W.heap.size + 1 + 1) s (pos + wd s pos)).alloc (.cells #[.int .i64 l0, .int .i64 c0, .int .i32 (rn s pos)] 62)) :=
        (Lib.below_iterAt (Below.refl _ wr) (by omega) s _).alloc (by rw [Lib.iterAt_size]; have := HB.out.lt; omega) _
      obtain ⟨fn, tmps, assign, body, hy, hR⟩ := HY.out pre ⟨pos, l0, c0, rn s pos⟩ _ (HJ.out _ _ _ hj hbel) ⟨_, HP2.out⟩
      dsimp only [encSpot] at hy
      gi_wp2
      refine hR.mono ?_
      clear hy hR
      have hsz : (wr.iterAt (W.heap.size + 1 + 1) s (pos + wd s pos)).heap.size = wr.heap.size := Lib.iterAt_size _ _ _ _
      have HZ := Lib.hid hsz; clear hsz
      have hgt : W.heap.size + 2 < wr.heap.size := (Array.getElem?_eq_some_iff.1 HI.out).1
      rintro e W3 (⟨rfl, hj3, ha3⟩ | ⟨rfl, hjx3, _⟩)
      · have hX3 := (Blk.new (wr.iterAt (W.heap.size + 1 + 1) s (pos + wd s pos)) #[.int .i64 l0, .int .i64 c0, .int .i32 (rn s pos)] 62).above ha3 (by rw [HZ.out]; omega)
        have hP3 := (HB1.out.alloc (.cells #[.int .i64 l0, .int .i64 c0, .int .i32 (rn s pos)] 62)).above ha3 (by omega)
        have hI3 : W3.heap[W.heap.size + 1 + 1]? = some (.stringIter s (pos + wd s pos)) :=
          (ha3.block _ (by omega) (by rw [World.size_alloc, HZ.out]; omega)).trans ((Below.heap_alloc _ _ _ (by rw [HZ.out]; omega)).trans (Lib.iterAt_heap wr _ s pos _ HI.out))
        have HX3 := Lib.hid hX3
        have hx1 : W3.cell? ⟨(wr.iterAt (W.heap.size + 1 + 1) s (pos + wd s pos)).heap.size, 0, none⟩ = some (.int .i64 l0) := hX3.cell 0
        have hx2 : W3.cell? ⟨(wr.iterAt (W.heap.size + 1 + 1) s (pos + wd s pos)).heap.size, 1, none⟩ = some (.int .i64 c0) := hX3.cell 1
        have hx3 : W3.cell? ⟨(wr.iterAt (W.heap.size + 1 + 1) s (pos + wd s pos)).heap.size, 2, none⟩ = some (.int .i32 (rn s pos)) := hX3.cell 2
        clear hX3
        have HP3 := Lib.hid hP3; clear hP3
        have HI3 := Lib.hid hI3; clear hI3
        obtain ⟨N, hN⟩ : ∃ N : Int × Int, nxt ⟨pos, l0, c0, rn s pos⟩ = N := ⟨_, rfl⟩
        have hNb : 1 ≤ N.1 ∧ N.1 ≤ (pos + wd s pos : Nat) + 1 ∧ 1 ≤ N.2 ∧ N.2 ≤ (pos + wd s pos : Nat) + 1 := by
          rw [← hN]; unfold nxt; simp only; split <;> (simp only; omega)
        have hbh := behind_any pos l0 c0 (rn s pos) W3 (by omega) (by omega) (by omega) (by omega)
        rw [hN] at hbh
        have HN := Lib.hid hN; clear hN
        gi_wp2_with (refine ⟨trivial, ?_⟩; gi_at_call 34; refine (callsIn_wide.2 hbh).mono ?_; rintro e W4 ⟨rfl, hb4⟩; have hP4 := Lib.hid (HP3.out.below hb4 HP3.out.lt); have hq1 := hP4.out.cell 0; have hq2 := hP4.out.cell 1; have hf1 := hP4.out.free 0; have hf2 := hP4.out.free 1)
        have hlt3 : W.heap.size + 1 + 1 < W3.heap.size := (Array.getElem?_eq_some_iff.1 HI3.out).1
        have hI5 : ((W4.setCell ⟨W.heap.size + 1, 0, none⟩ (.int .i64 N.1)).setCell ⟨W.heap.size + 1, 1, none⟩ (.int .i64 N.2)).heap[W.heap.size + 1 + 1]? = some (.stringIter s (pos + wd s pos)) :=
          (Below.heap_setCell _ _ _ _ (by simp)).trans ((Below.heap_setCell _ _ _ _ (by simp)).trans ((hb4.block _ hlt3).trans HI3.out))
        go_roundw
        case rel =>
          refine ⟨pos + wd s pos, b, N, pre ++ [⟨pos, l0, c0, rn s pos⟩], by omega, (hP4.out.set 0 _).set 1 _, hI5, HJ.out _ _ _ hj3 (((hb4.mono (by omega)).setCell (by simp) _).setCell (by simp) _), ?_, by omega, by omega, by omega, by omega, by omega⟩
          rw [← HN.out]; exact HP2.out
        case measure => rw [iterPos_of hI5, iterPos_of HI.out]; omega
      · gi_wp2
        refine bodyPost_ret (results_none rfl _ _ _) rfl ?_
        exact ⟨⟨_, rfl⟩, .inr ⟨_, ⟨_, HP2.out⟩, hjx3⟩⟩
    · have hnx : ∀ ty, (Instr.next (.pointer (some ⟨W.heap.size + 1 + 1, 0, none⟩)) true ty).run Tryd.prog wr = .ok (.tuple #[.bool false]) wr := fun ty => Lib.run_next_end_at wr _ s pos ty hit hp
      clear hit
      gi_wp2
      go_end0
      refine ⟨⟨_, rfl⟩, .inl ?_⟩
      have h := HP.out
      rw [spl_end s b pos _ hp, List.append_nil] at h
      rw [← h]
      exact hj

end Go.Proofs.YtifgmkenfmmelaaDoor
