/-
  How places go on behind a whole line (no walk): proved is that, for a text that ends with a line feed and any text behind it, the places of the second text's bytes are as in that text alone, so many lines further down.
-/
import Derived.Test.YtohmljljfbhdfaaDoorRune
namespace Go.Proofs.YtohmljljfbhdfaaDoor
open Go

theorem toList_app (a b : ByteArray) : (a ++ b).data.toList = a.data.toList ++ b.data.toList := by
  rw [ByteArray.data_append, Array.toList_append]
theorem byt_list (s : ByteArray) (j : Nat) : byt s j = (s.data.toList.getD j 0).toNat := by unfold byt; rw [get!_list]
theorem byt_left (a b : ByteArray) (j : Nat) (h : j < a.size) : byt (a ++ b) j = byt a j := by
  rw [byt_list, byt_list, toList_app]
  have : j < a.data.toList.length := by simpa using h
  simp [List.getD, List.getElem?_append_left this]
theorem byt_right (a b : ByteArray) (j : Nat) : byt (a ++ b) (a.size + j) = byt b j := by
  rw [byt_list, byt_list, toList_app]
  have hl : a.data.toList.length = a.size := by simp
  simp only [List.getD]
  rw [List.getElem?_append_right (by omega), hl, Nat.add_sub_cancel_left]

/-- How a rune is decoded hangs on its bytes alone. -/
theorem dec_congr {a b : ByteArray} {i j : Nat} (h : Lib.decodeN (a.size - i) (byt a i) (byt a (i + 1)) (byt a (i + 2)) (byt a (i + 3)) = Lib.decodeN (b.size - j) (byt b j) (byt b (j + 1)) (byt b (j + 2)) (byt b (j + 3))) : rn a i = rn b j ∧ wd a i = wd b j := by
  rw [← dec_byt, ← dec_byt] at h
  exact Prod.mk.inj h

/-- The second text's runes behind the first one. -/
theorem dec_right (a b : ByteArray) (i : Nat) : rn (a ++ b) (a.size + i) = rn b i ∧ wd (a ++ b) (a.size + i) = wd b i := by
  apply dec_congr
  have hs : (a ++ b).size - (a.size + i) = b.size - i := by simp; omega
  rw [hs, byt_right, Nat.add_assoc, byt_right, Nat.add_assoc, byt_right, Nat.add_assoc, byt_right]

set_option maxHeartbeats 4000000 in
set_option maxRecDepth 100000 in
theorem decN_line (k n n' b0 b1 b2 b3 c1 c2 c3 : Nat) (hk : n = k + 1) (hn : n ≤ n') (h0 : k = 0 → b0 = 10) (h1 : k = 1 → b1 = 10) (h2 : k = 2 → b2 = 10) (h3 : k = 3 → b3 = 10)
    (e1 : 1 ≤ k → c1 = b1) (e2 : 2 ≤ k → c2 = b2) (e3 : 3 ≤ k → c3 = b3) : Lib.decodeN n' b0 c1 c2 c3 = Lib.decodeN n b0 b1 b2 b3 := by
  by_cases k0 : k = 0
  · have := h0 k0
    unfold Lib.decodeN
    rw [if_pos (by omega), if_pos (by omega)]
  have a1 := e1 (by omega)
  subst a1
  by_cases k1 : k = 1
  · have := h1 k1
    unfold Lib.decodeN
    repeat' split
    all_goals first | rfl | (exfalso; omega)
  have a2 := e2 (by omega)
  subst a2
  by_cases k2 : k = 2
  · have := h2 k2
    unfold Lib.decodeN
    repeat' split
    all_goals first | rfl | (exfalso; omega)
  have a3 := e3 (by omega)
  subst a3
  have x1 : (1 < n') = (1 < n) := propext ⟨fun _ => by omega, fun _ => by omega⟩
  have x2 : (2 < n') = (2 < n) := propext ⟨fun _ => by omega, fun _ => by omega⟩
  have x3 : (3 < n') = (3 < n) := propext ⟨fun _ => by omega, fun _ => by omega⟩
  unfold Lib.decodeN
  simp only [x1, x2, x3]

/-- A text with a line feed behind it. -/
def line (s : ByteArray) : ByteArray := s ++ ⟨#[10]⟩
theorem line_size (s : ByteArray) : (line s).size = s.size + 1 := by
  unfold line
  rw [ByteArray.size_append]
  rfl
theorem line_last (s : ByteArray) : byt (line s) s.size = 10 := by
  have := byt_right s ⟨#[10]⟩ 0
  rw [Nat.add_zero] at this
  exact this.trans (by decide +kernel)

/-- The first text's runes, whatever stands behind its line feed. -/
theorem dec_left (s t : ByteArray) (i : Nat) (hi : i ≤ s.size) : rn (line s ++ t) i = rn (line s) i ∧ wd (line s ++ t) i = wd (line s) i := by
  apply dec_congr
  have hz := line_size s
  have hT : (line s ++ t).size = s.size + 1 + t.size := by rw [ByteArray.size_append, hz]
  have hl := line_last s
  rw [byt_left (line s) t i (by omega)]
  refine decN_line (s.size - i) _ _ _ _ _ _ _ _ _ (by omega) (by omega) ?_ ?_ ?_ ?_ ?_ ?_ ?_
  · intro h; rw [show i = s.size by omega]; exact hl
  · intro h; rw [show i + 1 = s.size by omega]; exact hl
  · intro h; rw [show i + 2 = s.size by omega]; exact hl
  · intro h; rw [show i + 3 = s.size by omega]; exact hl
  · intro h; exact byt_left _ _ _ (by omega)
  · intro h; exact byt_left _ _ _ (by omega)
  · intro h; exact byt_left _ _ _ (by omega)

set_option maxHeartbeats 4000000 in
set_option maxRecDepth 100000 in
theorem decN_stay (k n b0 b1 b2 b3 : Nat) (hk : n = k + 1) (hp : 1 ≤ k) (h1 : k = 1 → b1 = 10) (h2 : k = 2 → b2 = 10) (h3 : k = 3 → b3 = 10) : (Lib.decodeN n b0 b1 b2 b3).2 ≤ k := by
  unfold Lib.decodeN
  repeat' split
  all_goals (simp only; omega)
/-- No rune goes over the line feed. -/
theorem wd_stay (s : ByteArray) (i : Nat) (hi : i < s.size) : i + wd (line s) i ≤ s.size := by
  have hz := line_size s
  have hl := line_last s
  have hd := dec_byt (line s) i
  have hw : wd (line s) i = (Lib.decodeN ((line s).size - i) (byt (line s) i) (byt (line s) (i + 1)) (byt (line s) (i + 2)) (byt (line s) (i + 3))).2 := by rw [← hd]
  have := decN_stay (s.size - i) ((line s).size - i) (byt (line s) i) (byt (line s) (i + 1)) (byt (line s) (i + 2)) (byt (line s) (i + 3)) (by omega) (by omega)
    (fun h => by rw [show i + 1 = s.size by omega]; exact hl) (fun h => by rw [show i + 2 = s.size by omega]; exact hl) (fun h => by rw [show i + 3 = s.size by omega]; exact hl)
  omega
/-- The line feed itself. -/
theorem dec_feed (s : ByteArray) : rn (line s) s.size = 10 ∧ wd (line s) s.size = 1 := by
  have hl := line_last s
  refine decN_pair ?_
  unfold Lib.decodeN
  rw [if_pos (by omega), hl]

/-- How many runes one may go through doesn't matter, if they are enough. -/
theorem spl_fuel (s : ByteArray) : ∀ (f g pos : Nat) (p : Int × Int), s.size ≤ pos + f → s.size ≤ pos + g → spl s f pos p = spl s g pos p
  | 0, g, pos, p, hf, _ => by rw [spl_end s 0 pos p (by omega), spl_end s g pos p (by omega)]
  | f + 1, 0, pos, p, _, hg => by rw [spl_end s (f + 1) pos p (by omega), spl_end s 0 pos p (by omega)]
  | f + 1, g + 1, pos, p, hf, hg => by
    unfold spl
    split
    · rename_i hp
      have hd := dec_facts s pos hp
      rw [spl_fuel s f g _ _ (by omega) (by omega)]
    · rfl

/-- Up to the line feed: the first text alone, and with the second one behind it. -/
theorem join_first (s t : ByteArray) : ∀ (d f F pos : Nat) (p : Int × Int), s.size - pos ≤ d → pos ≤ s.size → s.size + 1 ≤ pos + f → s.size + 1 + t.size ≤ pos + F → 1 ≤ p.1 →
    ∃ L : Int, 1 ≤ L ∧ atL (s.size + 1 : Nat) p (spl (line s) f pos p) = (L, 1) ∧
      ∀ m : Int, 0 ≤ m → ∃ F', s.size + 1 + t.size ≤ s.size + 1 + F' ∧ atL ((s.size + 1 : Nat) + m) p (spl (line s ++ t) F pos p) = atL ((s.size + 1 : Nat) + m) (L, 1) (spl (line s ++ t) F' (s.size + 1) (L, 1)) := by
  intro d
  induction d with
  | zero =>
    intro f F pos p hd hpos hf hF hp
    obtain rfl : pos = s.size := by omega
    obtain ⟨f, rfl⟩ : ∃ g, f = g + 1 := ⟨f - 1, by omega⟩
    obtain ⟨F, rfl⟩ : ∃ g, F = g + 1 := ⟨F - 1, by omega⟩
    have hfeed := dec_feed s
    have hleft := dec_left s t s.size (by omega)
    have hz := line_size s
    have hT : (line s ++ t).size = s.size + 1 + t.size := by rw [ByteArray.size_append, hz]
    have hn : nxt ⟨s.size, p.1, p.2, 10⟩ = (p.1 + 1, 1) := by simp [nxt]
    refine ⟨p.1 + 1, by omega, ?_, ?_⟩
    · unfold spl
      rw [if_pos (by omega), hfeed.1, hfeed.2, hn]
      simp only [atL]
      rw [if_pos (by omega), spl_end (line s) f (s.size + 1) _ (by omega)]
      rfl
    · intro m hm
      refine ⟨F, by omega, ?_⟩
      conv => lhs; unfold spl
      rw [if_pos (by omega), hleft.1, hleft.2, hfeed.1, hfeed.2, hn]
      simp only [atL]
      rw [if_pos (by omega), hn]
  | succ d ih =>
    intro f F pos p hd hpos hf hF hp
    by_cases he : pos = s.size
    · exact ih f F pos p (by omega) hpos hf hF hp
    obtain ⟨f, rfl⟩ : ∃ g, f = g + 1 := ⟨f - 1, by omega⟩
    obtain ⟨F, rfl⟩ : ∃ g, F = g + 1 := ⟨F - 1, by omega⟩
    have hleft := dec_left s t pos (by omega)
    have hz := line_size s
    have hT : (line s ++ t).size = s.size + 1 + t.size := by rw [ByteArray.size_append, hz]
    have hw := wd_stay s pos (by omega)
    have hd' := dec_facts (line s) pos (by omega)
    have hn1 : 1 ≤ (nxt ⟨pos, p.1, p.2, rn (line s) pos⟩).1 := by
      unfold nxt; simp only; split <;> (simp only; omega)
    obtain ⟨L, hL, h1, h2⟩ := ih f F (pos + wd (line s) pos) (nxt ⟨pos, p.1, p.2, rn (line s) pos⟩) (by omega) (by omega) (by omega) (by omega) hn1
    refine ⟨L, hL, ?_, ?_⟩
    · unfold spl
      rw [if_pos (by omega)]
      simp only [atL]
      rw [if_pos (by omega)]
      exact h1
    · intro m hm
      obtain ⟨F', hF', h3⟩ := h2 m hm
      refine ⟨F', hF', ?_⟩
      conv => lhs; unfold spl
      rw [if_pos (by omega), hleft.1, hleft.2]
      simp only [atL]
      rw [if_pos (by omega)]
      exact h3

/-- Behind the line feed: as in the second text alone, L - 1 lines further down. -/
theorem join_second (a t : ByteArray) (L m : Int) : ∀ (F i : Nat) (l c : Int),
    atL (a.size + m) (L - 1 + l, c) (spl (a ++ t) F (a.size + i) (L - 1 + l, c)) = (L - 1 + (atL m (l, c) (spl t F i (l, c))).1, (atL m (l, c) (spl t F i (l, c))).2)
  | 0, _, _, _ => rfl
  | F + 1, i, l, c => by
    have hr := dec_right a t i
    unfold spl
    by_cases hi : i < t.size
    · rw [if_pos (by rw [ByteArray.size_append]; omega), if_pos hi, hr.1, hr.2, Nat.add_assoc]
      simp only [atL]
      by_cases hm : (i : Int) < m
      · rw [if_pos (by omega), if_pos hm]
        by_cases h10 : rn t i = 10
        · have e1 : nxt ⟨a.size + i, L - 1 + l, c, rn t i⟩ = (L - 1 + (l + 1), 1) := by simp [nxt, h10]; omega
          have e2 : nxt ⟨i, l, c, rn t i⟩ = (l + 1, 1) := by simp [nxt, h10]
          rw [e1, e2]
          exact join_second a t L m F (i + wd t i) (l + 1) 1
        · have e1 : nxt ⟨a.size + i, L - 1 + l, c, rn t i⟩ = (L - 1 + l, c + 1) := by simp [nxt, h10]
          have e2 : nxt ⟨i, l, c, rn t i⟩ = (l, c + 1) := by simp [nxt, h10]
          rw [e1, e2]
          exact join_second a t L m F (i + wd t i) l (c + 1)
      · rw [if_neg (by omega), if_neg hm]
    · rw [if_neg (by rw [ByteArray.size_append]; omega), if_neg hi]
      rfl

/-- The whole: At behind a line. -/
theorem atV_join (s t : ByteArray) (m : Int) (hm : 0 ≤ m) : (atV (line s) (s.size + 1 : Nat)).2 = 1 ∧
    atV (line s ++ t) ((s.size + 1 : Nat) + m) = ((atV (line s) (s.size + 1 : Nat)).1 - 1 + (atV t m).1, (atV t m).2) := by
  have hz := line_size s
  have hT : (line s ++ t).size = s.size + 1 + t.size := by rw [ByteArray.size_append, hz]
  obtain ⟨L, hL, h1, h2⟩ := join_first s t s.size (line s).size (line s ++ t).size 0 (1, 1) (by omega) (by omega) (by omega) (by omega) (by simp)
  obtain ⟨F', hF', h3⟩ := h2 m hm
  have ha : atV (line s) (s.size + 1 : Nat) = (L, 1) := h1
  rw [ha]
  refine ⟨rfl, ?_⟩
  have hb : atV (line s ++ t) ((s.size + 1 : Nat) + m) = atL ((s.size + 1 : Nat) + m) (L, 1) (spl (line s ++ t) F' (s.size + 1) (L, 1)) := h3
  rw [hb]
  have h4 := join_second (line s) t L m F' 0 1 1
  rw [hz, Nat.add_zero, show L - 1 + 1 = L by omega] at h4
  rw [h4]
  have h5 : atV t m = atL m (1, 1) (spl t F' 0 (1, 1)) := by unfold atV spots; rw [spl_fuel t t.size F' 0 (1, 1) (by omega) (by omega)]
  rw [h5]

theorem atL_line (s : ByteArray) (n : Int) : ∀ (f pos : Nat) (p : Int × Int), 1 ≤ p.1 → p.1 ≤ pos + 1 → pos ≤ s.size → 1 ≤ (atL n p (spl s f pos p)).1 ∧ (atL n p (spl s f pos p)).1 ≤ s.size + 1
  | 0, pos, p, h1, h2, h3 => by simp only [spl, atL]; omega
  | f + 1, pos, p, h1, h2, h3 => by
    unfold spl
    split
    · rename_i hp
      have hd := dec_facts s pos hp
      simp only [atL]
      split
      · have hn : 1 ≤ (nxt ⟨pos, p.1, p.2, rn s pos⟩).1 ∧ (nxt ⟨pos, p.1, p.2, rn s pos⟩).1 ≤ (pos + wd s pos : Nat) + 1 := by
          unfold nxt
          simp only
          split <;> (simp only; omega)
        exact atL_line s n f _ _ hn.1 hn.2 (by omega)
      · omega
    · simp only [atL]; omega
theorem atV_line (s : ByteArray) (n : Int) : 1 ≤ (atV s n).1 ∧ (atV s n).1 ≤ s.size + 1 := atL_line s n _ _ _ (by simp) (by simp) (by omega)
end Go.Proofs.YtohmljljfbhdfaaDoor
