/-
  gnomonlaw2.LexTokens: the walk: proved is that it answers true for every text.
  Condition: Go's tables of package unicode/utf8 and the two errors of package strconv hold what their text lays ('Env').
-/
import Derived.Test.YtifgmkenfmmelaaDoorLexY
namespace Go.Proofs.YtifgmkenfmmelaaDoor
open Go Go.RowKit

theorem lexC_len (s : ByteArray) : ∀ f b Q (l : List Tk), s.size < b + f → b ≤ s.size → l.length ≤ 32768 → (lexC s f b Q l).2.2.length ≤ 32769
  | 0, b, Q, l, _, _, _ => by unfold lexC; simp
  | f + 1, b, Q, l, hf, hb, hl => by
    by_cases h : b < s.size
    · by_cases he : (tokT s b l.length).1 = 0
      · rw [lexC_tok h rfl he]
        have ht := tokT_end s b l.length h rfl he
        have hp := ptE_bounds s s.size (tokT s b l.length).2.1 false ht.2.1
        exact lexC_len s f _ _ _ (by omega) hp.2 (by simp; omega)
      · rw [lexC_bad h rfl he]; simp
    · rw [lexC_end h]; simp; omega
theorem lexV_len (s : ByteArray) : (lexV s).2.2.length ≤ 32769 := by
  unfold lexV
  split
  · exact lexC_len s _ _ _ _ (by omega) (ptE_bounds s s.size 0 false (by omega)).2 (by simp)
  · simp

set_option maxRecDepth 100000 in
set_option maxHeartbeats 4000000 in
theorem lextokens_walk (s : ByteArray) (w : World) (hs : s.size ≤ 140737488351232) (hE : Env w) :
    Calls Tryd.prog 3 #[.string s] w fun e w' => e = .returned (.bool true) ∧ Below w.heap.size w w' := by
  have hk := lexV_len s
  have HK := Lib.hid (known2_any w hE)
  have hT := fun w hE => tokens_any s w hs hE
  have hR := fun w => rtokens_any s w hs
  obtain ⟨V, hV⟩ : ∃ V, lexV s = V := ⟨_, rfl⟩
  rw [hV] at hT hR hk
  clear hV
  obtain ⟨e, ⟨p1, p2⟩, l⟩ := V
  simp only at hk
  have HT := Lib.hid hT; clear hT
  have HR := Lib.hid hR; clear hR
  have HE := Lib.hid hE; clear hE
  go_enter Tryd.func3, Tryd.ntmps3
  go_wp2_with (first | (go_at_call 8; refine HK.out.mono ?_; rintro e w1 ⟨rfl, hb1⟩; have HE1 := Lib.hid (HE.out.later hb1)) | fail)
  refine (HT.out _ HE1.out).mono ?_
  rintro _ w2 ⟨v2, rfl, ho2, hb2⟩
  simp only at ho2
  go_wp2_with fail
  refine (HR.out _).mono ?_
  rintro _ w3 ⟨v3, rfl, ho3, hb3⟩
  simp only at ho3
  go_wp2_with fail
  have hz1 := hb1.size
  have hz2 := hb2.size
  have hz3 := hb3.size
  simp only [World.size_alloc] at hz3 ho3
  have bA := ((Blk.new w2 #[.int .i64 p1, .int .i64 p2] 25).below hb3 (by simp)).alloc (.cells #[.int .i64 p1, .int .i64 p2] 25)
  have bB := Blk.new w3 #[.int .i64 p1, .int .i64 p2] 25
  have ho2' := (ownsRow_above (ho2.alloc (.cells #[.int .i64 p1, .int .i64 p2] 25)) (above_of_below hb3 w1.heap.size) (Nat.le_refl _)).alloc (.cells #[.int .i64 p1, .int .i64 p2] 25)
  have ho3' := ho3.alloc (.cells #[.int .i64 p1, .int .i64 p2] 25)
  have hlt2 : ∀ g, v2.ownBlock = some g → g < w2.heap.size := fun g hg => (ho2.lt g hg).2
  have hB3 := ((((hb1.trans (hb2.mono hz1)).alloc (by omega) (.cells #[.int .i64 p1, .int .i64 p2] 25)).trans (hb3.mono (by simp; omega))).alloc (by omega) (.cells #[.int .i64 p1, .int .i64 p2] 25))
  obtain ⟨W3, hW3⟩ : ∃ W3, w3.alloc (.cells #[.int .i64 p1, .int .i64 p2] 25) = W3 := ⟨_, rfl⟩
  have hzW : w3.heap.size < W3.heap.size := by rw [← hW3]; simp
  rw [hW3] at bA bB ho2' ho3' hB3 ⊢
  clear hW3 ho2 ho3
  refine (same_true l v2 v3 _ _ _ (by omega) ho2' ho3').mono ?_
  rintro _ w4 ⟨rfl, hb4⟩
  have bA4 := bA.below hb4 bA.lt
  have bB4 := bB.below hb4 bB.lt
  have a0 := bA4.cell 0
  have a1 := bA4.cell 1
  have a2 := bB4.cell 0
  have a3 := bB4.cell 1
  simp at a0 a1 a2 a3
  have ho2 := ownsRow_above ho2' (above_of_below hb4 w1.heap.size) (Nat.le_refl _)
  have ho3 := ownsRow_above ho3' (above_of_below hb4 (w2.heap.size + 1)) (Nat.le_refl _)
  have hB4 := hB3.trans (hb4.mono hB3.size)
  clear bA bB bA4 bB4 ho2' ho3' hB3
  obtain ⟨_, ⟨rfl, hl0⟩ | ⟨g, cap, cur, rfl, hg1, hg2, hcap, hcm, hcs, _⟩⟩ := ho2
  · have hk0 : ¬ (0 : Int) < (0 : Int) := by omega
    clear hlt2
    go_wp2
    go_loopw [9] (fun x wr => x = .int .i64 0 ∧ wr = w4) (fun _ _ => 0)
    case atStart => exact ⟨rfl, rfl⟩
    case round =>
      obtain ⟨rfl, rfl⟩ := hrel
      have hor := ho3
      have hbr := hB4
      have hbr0 : True := trivial
      clear a0 a1 a2 a3 hl0
      ·
        have HE4 := Lib.hid (HE.out.later hbr)
        clear hbr0
        go_wp2_with fail
        refine (HT.out _ HE4.out).mono ?_
        rintro _ w5 ⟨v5, rfl, ho5, hb5⟩
        simp only at ho5
        have ho6 := (ownsRow_above hor (above_of_below hb5 (w2.heap.size + 1)) (Nat.le_refl _)).alloc (.cells #[.int .i64 p1, .int .i64 p2] 25)
        have hS5 := Lib.hid (same_true l v5 v3 _ _ _ (by omega) (ho5.alloc (.cells #[.int .i64 p1, .int .i64 p2] 25)) ho6)
        have hB5 := (hbr.trans (hb5.mono (by exact hbr.size))).alloc (by have := hbr.size; have := hb5.size; omega) (.cells #[.int .i64 p1, .int .i64 p2] 25)
        clear ho6 ho5 hor
        go_wp2_with fail
        refine hS5.out.mono ?_
        rintro e w7 ⟨rfl, hb7⟩
        go_wp2
        go_ret
        exact ⟨rfl, hB5.trans (hb7.mono (by have := hB5.size; omega))⟩
  · have hgl : g < w2.heap.size := hlt2 g rfl
    clear hlt2
    go_wp2
    go_loopw [9] (fun x wr => ∃ (i : Nat) (cs : Array Value), x = .int .i64 i ∧ i ≤ l.length ∧ Blk wr g cs 33 ∧ cs.size = cap * 5 ∧ wr.ownsRow (w2.heap.size + 1) 33 5 v3 l.length (cellsOf l) ∧ Below w.heap.size w wr) (fun x _ => l.length - (intOf x).toNat)
    case atStart => exact ⟨0, cur, rfl, by omega, hg2, hcs, ho3, hB4⟩
    case round =>
      clear a0 a1 a2 a3 ho3 hB4
      obtain ⟨i, cs, rfl, hi, hblk, hcz, hor, hbr⟩ := hrel
      by_cases hlt : i < l.length
      · have hin : i * 5 + 4 < cs.size := by omega
        have k0 : ∃ u, wr.cell? ⟨g, i * 5, none⟩ = some u := ⟨cs[i * 5]'(by omega), by rw [hblk.cell]; exact Array.getElem?_eq_getElem _⟩
        have k1 : ∃ u, wr.cell? ⟨g, i * 5 + 1, none⟩ = some u := ⟨cs[i * 5 + 1]'(by omega), by rw [hblk.cell]; exact Array.getElem?_eq_getElem _⟩
        have k2 : ∃ u, wr.cell? ⟨g, i * 5 + 2, none⟩ = some u := ⟨cs[i * 5 + 2]'(by omega), by rw [hblk.cell]; exact Array.getElem?_eq_getElem _⟩
        have k3 : ∃ u, wr.cell? ⟨g, i * 5 + 3, none⟩ = some u := ⟨cs[i * 5 + 3]'(by omega), by rw [hblk.cell]; exact Array.getElem?_eq_getElem _⟩
        have k4 : ∃ u, wr.cell? ⟨g, i * 5 + 4, none⟩ = some u := ⟨cs[i * 5 + 4]'(by omega), by rw [hblk.cell]; exact Array.getElem?_eq_getElem _⟩
        obtain ⟨u0, k0⟩ := k0
        obtain ⟨u1, k1⟩ := k1
        obtain ⟨u2, k2⟩ := k2
        obtain ⟨u3, k3⟩ := k3
        obtain ⟨u4, k4⟩ := k4
        have z0 := hblk.free (i * 5)
        have z1 := hblk.free (i * 5 + 1)
        have z2 := hblk.free (i * 5 + 2)
        have z3 := hblk.free (i * 5 + 3)
        have z4 := hblk.free (i * 5 + 4)
        have hS := ownsRow_setCell_below (ownsRow_setCell_below (ownsRow_setCell_below (ownsRow_setCell_below (ownsRow_setCell_below hor (a := ⟨g, i * 5, none⟩) (by simp; omega) (.int .i64 0)) (a := ⟨g, i * 5 + 1, none⟩) (by simp; omega) (.string ⟨#[]⟩)) (a := ⟨g, i * 5 + 2, none⟩) (by simp; omega) (.int .i64 0)) (a := ⟨g, i * 5 + 3, none⟩) (by simp; omega) (.int .i64 0)) (a := ⟨g, i * 5 + 4, none⟩) (by simp; omega) (.int .i64 0)
        have hBk := ((((hblk.set (i * 5) (.int .i64 0)).set (i * 5 + 1) (.string ⟨#[]⟩)).set (i * 5 + 2) (.int .i64 0)).set (i * 5 + 3) (.int .i64 0)).set (i * 5 + 4) (.int .i64 0)
        have hBb := ((((hbr.setCell (p := ⟨g, i * 5, none⟩) (by simp; omega) (.int .i64 0)).setCell (p := ⟨g, i * 5 + 1, none⟩) (by simp; omega) (.string ⟨#[]⟩)).setCell (p := ⟨g, i * 5 + 2, none⟩) (by simp; omega) (.int .i64 0)).setCell (p := ⟨g, i * 5 + 3, none⟩) (by simp; omega) (.int .i64 0)).setCell (p := ⟨g, i * 5 + 4, none⟩) (by simp; omega) (.int .i64 0)
        clear hblk hor hbr
        go_wp2
        go_roundw
        case rel => exact ⟨i + 1, _, by go_num, by omega, hBk, by simp only [Array.size_setIfInBounds]; exact hcz, hS, hBb⟩
        case measure => simp [intOf]; omega
      · have hbr0 : True := trivial
        have HE4 := Lib.hid (HE.out.later hbr)
        clear hbr0
        go_wp2_with fail
        refine (HT.out _ HE4.out).mono ?_
        rintro _ w5 ⟨v5, rfl, ho5, hb5⟩
        simp only at ho5
        have ho6 := (ownsRow_above hor (above_of_below hb5 (w2.heap.size + 1)) (Nat.le_refl _)).alloc (.cells #[.int .i64 p1, .int .i64 p2] 25)
        have hS5 := Lib.hid (same_true l v5 v3 _ _ _ (by omega) (ho5.alloc (.cells #[.int .i64 p1, .int .i64 p2] 25)) ho6)
        have hB5 := (hbr.trans (hb5.mono (by exact hbr.size))).alloc (by have := hbr.size; have := hb5.size; omega) (.cells #[.int .i64 p1, .int .i64 p2] 25)
        clear ho6 ho5 hor
        go_wp2_with fail
        refine hS5.out.mono ?_
        rintro e w7 ⟨rfl, hb7⟩
        go_wp2
        go_ret
        exact ⟨rfl, hB5.trans (hb7.mono (by have := hB5.size; omega))⟩
end Go.Proofs.YtifgmkenfmmelaaDoor
