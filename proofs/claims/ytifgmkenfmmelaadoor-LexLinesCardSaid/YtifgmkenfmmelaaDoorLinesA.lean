/-
  Plain facts on a text of comment lines, blanks and a name (no walk): proved is what 'lexV' says of it.
-/
import Derived.Test.YtifgmkenfmmelaaDoorNumB
namespace Go.Proofs.YtifgmkenfmmelaaDoor
open Go

theorem acute {s : ByteArray} {p : Nat} (h : p + 1 < s.size) (h0 : byt s p = 195) (h1 : byt s (p + 1) = 169) : rn s p = 233 ∧ wd s p = 2 := by
  have e := dec_byt s p
  unfold Lib.decodeN at e
  rw [h0, h1, if_neg (by omega), if_pos (by omega), if_pos (by omega)] at e
  exact Prod.mk.inj e
theorem good_of {s : ByteArray} {p : Nat} (h : rn s p ≠ 65533) : badB s p = false := by
  unfold badB
  have : (rn s p == 65533) = false := by rw [beq_eq_false_iff_ne]; exact h
  rw [this]; rfl

/-- A comment line "# é" at byte p. -/
structure CLine (s : ByteArray) (p : Nat) : Prop where
  lt : p + 4 < s.size
  b0 : byt s p = 35
  b1 : byt s (p + 1) = 32
  b2 : byt s (p + 2) = 195
  b3 : byt s (p + 3) = 169
  b4 : byt s (p + 4) = 10
theorem CLine.ds {s : ByteArray} {p : Nat} (h : CLine s p) : (rn s p = 35 ∧ wd s p = 1) ∧ (rn s (p + 1) = 32 ∧ wd s (p + 1) = 1) ∧ (rn s (p + 2) = 233 ∧ wd s (p + 2) = 2) ∧ (rn s (p + 4) = 10 ∧ wd s (p + 4) = 1) := by
  obtain ⟨h0, h1, h2, h3, h4, h5⟩ := h
  have a0 := ascii_dec s p (by omega)
  have a1 := ascii_dec s (p + 1) (by omega)
  have a4 := ascii_dec s (p + 4) (by omega)
  have a2 := acute (s := s) (p := p + 2) (by omega) h3 (by rw [Nat.add_assoc]; exact h4)
  exact ⟨⟨by omega, a0.2⟩, ⟨by omega, a1.2⟩, a2, ⟨by omega, a4.2⟩⟩
theorem CLine.skip {s : ByteArray} {p : Nat} (h : CLine s p) : ptE s s.size p false = ptE s s.size (p + 5) false := by
  obtain ⟨⟨r0, w0⟩, ⟨r1, w1⟩, ⟨r2, w2⟩, ⟨r4, w4⟩⟩ := h.ds
  have hlt := h.lt
  rw [ptE_fuel s s.size (s.size + 1 + 1 + 1 + 1) p false (by omega) (by omega)]
  rw [ptE_on (by omega) (by rw [r0]; decide +kernel) (by rw [r0]; decide +kernel) (.inr (by omega)), w0]
  rw [ptE_space (by omega) (by rw [r1]; decide +kernel), w1]
  rw [ptE_on (by omega) (by rw [r2]; decide +kernel) (by rw [r2]; decide +kernel) (.inl rfl), w2]
  rw [ptE_line (by omega) (by rw [r4]; decide +kernel), w4]
theorem CLine.move {s : ByteArray} {p : Nat} (h : CLine s p) (n : Nat) (hn : p + 5 ≤ n) (l c : Int) : mvE s n s.size p (l, c) = mvE s n s.size (p + 5) (l + 1, 1) := by
  obtain ⟨⟨r0, w0⟩, ⟨r1, w1⟩, ⟨r2, w2⟩, ⟨r4, w4⟩⟩ := h.ds
  have hlt := h.lt
  rw [mvE_fuel s n s.size (s.size + 1 + 1 + 1 + 1) p _ (by omega) (by omega)]
  rw [mvE_step (by omega) (by omega), w0, mvE_step (by omega) (by omega), w1, mvE_step (by omega) (by omega), w2, mvE_step (by omega) (by omega), w4, r0, r1, r2, r4]
  rfl
theorem CLine.good {s : ByteArray} {p : Nat} (h : CLine s p) (hg : ∀ f, chk s f (p + 5) = (0, 0)) : ∀ f, chk s f p = (0, 0) := by
  obtain ⟨⟨r0, w0⟩, ⟨r1, w1⟩, ⟨r2, w2⟩, ⟨r4, w4⟩⟩ := h.ds
  have hlt := h.lt
  have g4 : ∀ f, chk s f (p + 4) = (0, 0) := fun f => by
    cases f with
    | zero => rfl
    | succ f => rw [chk_step s f (p + 4) (by omega) (good_of (by omega)), w4]; exact hg f
  have g2 : ∀ f, chk s f (p + 2) = (0, 0) := fun f => by
    cases f with
    | zero => rfl
    | succ f => rw [chk_step s f (p + 2) (by omega) (good_of (by omega)), w2]; exact g4 f
  have g1 : ∀ f, chk s f (p + 1) = (0, 0) := fun f => by
    cases f with
    | zero => rfl
    | succ f => rw [chk_step s f (p + 1) (by omega) (good_of (by omega)), w1]; exact g2 f
  intro f
  cases f with
  | zero => rfl
  | succ f => rw [chk_step s f p (by omega) (good_of (by omega)), w0]; exact g1 f

/-- d comment lines, r blanks, the name "é1". -/
structure Lined (s : ByteArray) (d r : Nat) : Prop where
  size : s.size = 5 * d + r + 3
  small : s.size ≤ 65536
  lines : ∀ k, k < d → CLine s (5 * k)
  blanks : ∀ k, k < r → byt s (5 * d + k) = 32
  n0 : byt s (5 * d + r) = 195
  n1 : byt s (5 * d + r + 1) = 169
  n2 : byt s (5 * d + r + 2) = 49
section
variable {s : ByteArray} {d r : Nat} (h : Lined s d r)
include h
theorem Lined.ds : (rn s (5 * d + r) = 233 ∧ wd s (5 * d + r) = 2) ∧ (rn s (5 * d + r + 2) = 49 ∧ wd s (5 * d + r + 2) = 1) := by
  have hz := h.size
  have a := ascii_dec s (5 * d + r + 2) (by have := h.n2; omega)
  exact ⟨acute (by omega) h.n0 h.n1, by have := h.n2; omega, a.2⟩
theorem Lined.skipL : ∀ k, k ≤ d → ptE s s.size 0 false = ptE s s.size (5 * k) false
  | 0, _ => rfl
  | k + 1, hk => (Lined.skipL k (by omega)).trans (h.lines k (by omega)).skip
theorem Lined.skipB : ∀ k, k ≤ r → ptE s s.size 0 false = ptE s s.size (5 * d + k) false
  | 0, _ => h.skipL d (Nat.le_refl _)
  | k + 1, hk => by
    have hz := h.size
    have hb := h.blanks k (by omega)
    have a := ascii_dec s (5 * d + k) (by omega)
    rw [Lined.skipB k (by omega), ptE_fuel s s.size (s.size + 1) _ false (by omega) (by omega), ptE_space (by omega) (by rw [a.1, hb]; decide +kernel), a.2]
    rfl
theorem Lined.skip : ptE s s.size 0 false = 5 * d + r := by
  have hd := h.ds
  rw [h.skipB r (Nat.le_refl _)]
  exact ptE_stop (by rw [hd.1.1]; decide +kernel) (by rw [hd.1.1]; decide +kernel) (fun e => e.elim (fun e => by cases e) (fun e => by omega))
theorem Lined.moveL (n : Nat) : ∀ k, k ≤ d → 5 * k ≤ n → mvE s n s.size 0 (1, 1) = mvE s n s.size (5 * k) (1 + (k : Int), 1)
  | 0, _, _ => rfl
  | k + 1, hk, hn => by
    rw [Lined.moveL n k (by omega) (by omega), (h.lines k (by omega)).move n (by omega)]
    congr 1
theorem Lined.moveB (n : Nat) : ∀ k, k ≤ r → 5 * d + k ≤ n → mvE s n s.size 0 (1, 1) = mvE s n s.size (5 * d + k) (1 + (d : Int), 1 + (k : Int))
  | 0, _, hn => h.moveL n d (Nat.le_refl _) (by omega)
  | k + 1, hk, hn => by
    have hz := h.size
    have hb := h.blanks k (by omega)
    have a := ascii_dec s (5 * d + k) (by omega)
    rw [Lined.moveB n k (by omega) (by omega), mvE_fuel s n s.size (s.size + 1) _ _ (by omega) (by omega), mvE_step (by omega) (by omega), a.2, a.1, hb]
    have e : nxt ⟨5 * d + k, 1 + (d : Int), 1 + (k : Int), 32⟩ = (1 + (d : Int), 1 + ((k + 1 : Nat) : Int)) := by
      unfold nxt
      rw [if_neg (by simp)]
      simp; omega
    simp only at e ⊢
    rw [e]
    rfl
theorem Lined.move : mvE s (5 * d + r) s.size 0 (1, 1) = ((d : Int) + 1, (r : Int) + 1) := by
  rw [h.moveB _ r (Nat.le_refl _) (Nat.le_refl _), mvE_done (by omega), Int.add_comm 1, Int.add_comm 1]
theorem Lined.move2 (l c : Int) : mvE s s.size s.size (5 * d + r) (l, c) = (l, c + 2) := by
  obtain ⟨⟨r0, w0⟩, ⟨r2, w2⟩⟩ := h.ds
  have hz := h.size
  rw [mvE_fuel s _ s.size (s.size + 1 + 1) _ _ (by omega) (by omega), mvE_step (by omega) (by omega), w0, mvE_step (by omega) (by omega), w2, mvE_done (by omega), r0, r2]
  have e1 : nxt ⟨5 * d + r, l, c, 233⟩ = (l, c + 1) := by unfold nxt; rw [if_neg (by simp)]
  have e2 : nxt ⟨5 * d + r + 2, l, c + 1, 49⟩ = (l, c + 2) := by
    unfold nxt
    rw [if_neg (by simp)]
    simp; omega
  rw [e1, e2]
theorem Lined.good : chkAll s = (0, 0) := by
  obtain ⟨⟨r0, w0⟩, ⟨r2, w2⟩⟩ := h.ds
  have hz := h.size
  have g3 : ∀ f, chk s f (5 * d + r + 3) = (0, 0) := fun f => chk_end s f _ (by omega)
  have g2 : ∀ f, chk s f (5 * d + r + 2) = (0, 0) := fun f => by
    cases f with
    | zero => rfl
    | succ f => rw [chk_step s f _ (by omega) (good_of (by omega)), w2]; exact g3 f
  have g0 : ∀ f, chk s f (5 * d + r) = (0, 0) := fun f => by
    cases f with
    | zero => rfl
    | succ f => rw [chk_step s f _ (by omega) (good_of (by omega)), w0]; exact g2 f
  have gB : ∀ k, k ≤ r → ∀ f, chk s f (5 * d + (r - k)) = (0, 0) := fun k => by
    induction k with
    | zero => exact fun _ => g0
    | succ k ih =>
      intro hk f
      have hb := h.blanks (r - (k + 1)) (by omega)
      have a := ascii_dec s (5 * d + (r - (k + 1))) (by omega)
      cases f with
      | zero => rfl
      | succ f =>
        rw [chk_step s f _ (by omega) (good_of (by omega)), a.2]
        have := ih (by omega) f
        rwa [show 5 * d + (r - k) = 5 * d + (r - (k + 1)) + 1 by omega] at this
  have gL : ∀ k, k ≤ d → ∀ f, chk s f (5 * (d - k)) = (0, 0) := fun k => by
    induction k with
    | zero => intro _ f; have := gB r (Nat.le_refl _) f; rwa [Nat.sub_self, Nat.add_zero] at this
    | succ k ih =>
      intro hk
      refine (h.lines (d - (k + 1)) (by omega)).good (fun f => ?_)
      have := ih (by omega) f
      rwa [show 5 * (d - k) = 5 * (d - (k + 1)) + 5 by omega] at this
  rw [chkAll_of s (by have := h.small; omega)]
  have := gL d (Nat.le_refl _) s.size
  rwa [Nat.sub_self, Nat.mul_zero] at this
theorem Lined.run : spE inNm s s.size (5 * d + r) = s.size := by
  obtain ⟨⟨r0, w0⟩, ⟨r2, w2⟩⟩ := h.ds
  have hz := h.size
  rw [spE_fuel inNm s s.size (s.size + 1 + 1) _ (by omega) (by omega), spE_go (by omega) (by rw [r0]; decide +kernel), w0, spE_go (by omega) (by rw [r2]; decide +kernel), w2, spE_end (by omega)]
  omega
theorem Lined.text : s.extract (5 * d + r) s.size = ⟨⟨[195, 169, 49]⟩⟩ := by
  have hz := h.size
  have hl : (s.extract (5 * d + r) s.size).data.toList = [195, 169, 49] := by
    have hlen : (s.extract (5 * d + r) s.size).data.toList.length = 3 := by rw [Array.length_toList]; show (s.extract _ _).size = 3; simp; omega
    have hg : ∀ j, j < 3 → ((s.extract (5 * d + r) s.size).data.toList.getD j 0).toNat = byt s (5 * d + r + j) := fun j hj => by
      rw [← byt_extract s (5 * d + r) s.size j (by omega) (Nat.le_refl _)]
      unfold byt
      rw [get!_list]
    obtain ⟨L, hL⟩ : ∃ L, (s.extract (5 * d + r) s.size).data.toList = L := ⟨_, rfl⟩
    rw [hL] at hlen hg ⊢
    match L, hlen with
    | [a, b, c], _ =>
      have g0 := hg 0 (by omega)
      have g1 := hg 1 (by omega)
      have g2 := hg 2 (by omega)
      rw [Nat.add_zero, h.n0] at g0
      rw [h.n1] at g1
      rw [h.n2] at g2
      have e0 : a = 195 := UInt8.toNat_inj.1 g0
      have e1 : b = 169 := UInt8.toNat_inj.1 g1
      have e2 : c = 49 := UInt8.toNat_inj.1 g2
      rw [e0, e1, e2]
  apply ByteArray.ext
  apply Array.toList_inj.1
  exact hl
theorem Lined.tok : tokT s (5 * d + r) 0 = (0, s.size, 1, 0) := by
  obtain ⟨⟨r0, w0⟩, _⟩ := h.ds
  unfold tokT oneT
  rw [if_neg (by decide), r0, if_pos (by decide +kernel)]
  unfold letT
  rw [h.run, h.text, if_neg (by decide +kernel), if_neg (by decide +kernel)]
theorem Lined.lex : lexV s = (0, (0, 0), [⟨1, ⟨⟨[195, 169, 49]⟩⟩, 0, ((d : Int) + 1, (r : Int) + 1)⟩, ⟨5, ⟨#[]⟩, 0, ((d : Int) + 1, (r : Int) + 3)⟩]) := by
  have hz := h.size
  unfold lexV
  rw [h.good, if_pos rfl, h.skip, h.move]
  have e := lexC_tok (s := s) (f := s.size) (b := 5 * d + r) (Q := ((d : Int) + 1, (r : Int) + 1)) (l := []) (by omega) h.tok rfl
  rw [e]
  have hp : ptE s s.size s.size false = s.size := ptE_end (by omega)
  simp only [hp, h.text, h.move2]
  obtain ⟨g, hg⟩ : ∃ g, s.size = g + 1 := ⟨5 * d + r + 2, by omega⟩
  rw [hg, lexC_end (by omega), mvE_done (by omega)]
  have e2 : s.extract (g + 1) (g + 1) = ⟨#[]⟩ := by simp; rfl
  rw [e2]
  simp [Int.add_assoc]
end

/-- The lines as bytes. -/
def linesL : Nat → List UInt8
  | 0 => []
  | k + 1 => linesL k ++ [35, 32, 195, 169, 10]
theorem linesL_len : ∀ k, (linesL k).length = 5 * k
  | 0 => rfl
  | k + 1 => by unfold linesL; rw [List.length_append, linesL_len k]; simp; omega
theorem linesL_get : ∀ (d k j : Nat), k < d → j < 5 → (linesL d)[5 * k + j]? = ([35, 32, 195, 169, 10] : List UInt8)[j]?
  | 0, k, j, h, _ => by omega
  | d + 1, k, j, h, hj => by
    unfold linesL
    have hl := linesL_len d
    by_cases hk : k < d
    · rw [List.getElem?_append_left (by omega)]
      exact linesL_get d k j hk hj
    · have : k = d := by omega
      subst this
      rw [List.getElem?_append_right (by omega)]
      congr 1; omega
theorem byt_get {l : List UInt8} {j : Nat} {c : UInt8} (h : l[j]? = some c) : byt ⟨⟨l⟩⟩ j = c.toNat := by
  rw [byt_list]
  simp only [List.getD]
  rw [h]; rfl
theorem lined (d r : Nat) (hd : d ≤ 300) (hr : r ≤ 300) : Lined ⟨⟨(linesL d ++ List.replicate r 32) ++ [195, 169, 49]⟩⟩ d r := by
  have hl := linesL_len d
  have hz : (⟨⟨(linesL d ++ List.replicate r 32) ++ [195, 169, 49]⟩⟩ : ByteArray).size = 5 * d + r + 3 := by rw [size_list]; simp [hl]; omega
  have hL : ∀ k j, k < d → j < 5 → ((linesL d ++ List.replicate r 32) ++ [195, 169, 49])[5 * k + j]? = ([35, 32, 195, 169, 10] : List UInt8)[j]? := fun k j hk hj => by
    rw [List.getElem?_append_left (by simp; omega), List.getElem?_append_left (by omega)]
    exact linesL_get d k j hk hj
  have hN : ∀ j, j < 3 → ((linesL d ++ List.replicate r 32) ++ [195, 169, 49])[5 * d + r + j]? = ([195, 169, 49] : List UInt8)[j]? := fun j hj => by
    rw [List.getElem?_append_right (by simp; omega)]
    congr 1
    simp; omega
  refine ⟨hz, by omega, fun k hk => ⟨by omega, byt_get (hL k 0 hk (by omega)), byt_get (hL k 1 hk (by omega)), byt_get (hL k 2 hk (by omega)), byt_get (hL k 3 hk (by omega)), byt_get (hL k 4 hk (by omega))⟩, fun k hk => byt_get (c := 32) ?_, byt_get (hN 0 (by omega)), byt_get (hN 1 (by omega)), byt_get (hN 2 (by omega))⟩
  rw [List.getElem?_append_left (by simp; omega), List.getElem?_append_right (by omega), hl]
  rw [List.getElem?_replicate, if_pos (by omega)]
end Go.Proofs.YtifgmkenfmmelaaDoor
