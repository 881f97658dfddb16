/-
  RunOn: plain facts of its loop over what was answered, and of the script's last item.
-/
import Derived.Test.YtbhbmoppipohjaaQOnO

namespace Go.Proofs.Ytbhbmoppipohjaa
open Go Go.RowKit Go.Maps

theorem insV_take (l : List (Bool × Int × Bool)) (i : Nat) (h : i < l.length) : insV (l.take (i + 1)) = insV (l.take i) ++ (if l[i].1 then [l[i].2.1] else []) := by
  rw [← List.take_append_getElem h]
  unfold insV
  rw [List.filter_append, List.map_append]
  congr 1
  cases hx : l[i].1 <;> simp [hx]
theorem insV_parts (l : List (Bool × Int × Bool)) (i : Nat) : ∃ u, insV l = insV (l.take i) ++ u := by
  refine ⟨insV (l.drop i), ?_⟩
  unfold insV
  rw [← List.map_append, ← List.filter_append, List.take_append_drop]
/-- The script's item that an answered event stands for. -/
theorem ins_at (l : List (Bool × Int × Bool)) (left script : List Int) (hs : insV l ++ left = script) (i : Nat) (h : i < l.length) (hx : l[i].1 = true) :
    (insV (l.take i)).length < script.length ∧ script[(insV (l.take i)).length]? = some l[i].2.1 ∧ (insV (l.take (i + 1))).length = (insV (l.take i)).length + 1 := by
  have h1 := insV_take l i h
  rw [hx, if_pos rfl] at h1
  obtain ⟨u, hu⟩ := insV_parts l (i + 1)
  rw [h1] at hu
  subst hs
  refine ⟨by rw [hu]; simp <;> omega, ?_, by rw [h1]; simp⟩
  simp only [hu, List.append_assoc]
  rw [List.getElem?_append_right (by omega)]
  simp
theorem ins_not (l : List (Bool × Int × Bool)) (i : Nat) (h : i < l.length) (hx : l[i].1 = false) : (insV (l.take (i + 1))).length = (insV (l.take i)).length := by
  have h1 := insV_take l i h
  rw [hx] at h1
  rw [h1]
  simp
theorem ins_le (l : List (Bool × Int × Bool)) (i : Nat) : (insV (l.take i)).length ≤ i := by
  unfold insV
  rw [List.length_map]
  exact Nat.le_trans (List.length_filter_le _ _) (by rw [List.length_take]; exact Nat.min_le_left _ _)
theorem ne_last {l : List Int} (h : l ≠ []) : ∃ p x, l = p ++ [x] := ⟨l.dropLast, l.getLast h, (List.dropLast_concat_getLast h).symm⟩
/-- The outcomes of a run, and of the one that may take one step more. -/
theorem on_two (ds ss : List Nd) (hw : whlL ss) (l : List Int) (k : Nat) (st wg st' wg' : Int) (s s' : Rn) (h1 : runO ds ss l k = (st, wg, s)) (h2 : runO ds ss l (k + 1 : Nat) = (st', wg', s')) :
    (∃ u, s'.evs = s.evs ++ u) ∧ s.steps ≤ s'.steps ∧ s'.steps ≤ s.steps + 1 ∧ s.steps ≤ k ∧ insV s.evs ++ s.left = l ∧
      ((st = 1 ∧ wg = 0 ∧ s.steps = k) ∨ (st = 2 ∧ wg = 0 ∧ (st', wg', s') = (st, wg, s)) ∨ (st = 3 ∧ (st', wg', s') = (st, wg, s))) := by
  have hs := on_steps ds ss l k
  have he := on_ends ds ss hw l k
  have hm := on_more ds ss hw l k
  rw [h1] at hs he hm
  rw [h2] at hm
  obtain ⟨e1, e2, e3⟩ := he
  refine ⟨?_, ?_, ?_, hs.1, hs.2, ?_⟩
  · rcases hm with h | ⟨-, -, -, -, u, h⟩
    · simp only [Prod.mk.injEq] at h
      exact ⟨[], by rw [h.2.2, List.append_nil]⟩
    · exact ⟨u, h⟩
  · rcases hm with h | ⟨-, h3, h4, h5, -⟩
    · simp only [Prod.mk.injEq] at h
      rw [h.2.2]; exact Nat.le_refl _
    · simp only at h3 h4 h5; omega
  · rcases hm with h | ⟨-, h3, h4, h5, -⟩
    · simp only [Prod.mk.injEq] at h
      rw [h.2.2]; omega
    · simp only at h3 h4 h5; omega
  · simp only at e1 e2 e3 hm
    rcases e3 with h | h | h
    · exact .inl ⟨h, e2 (by omega), e1 h⟩
    · rcases hm with h3 | ⟨h3, -⟩
      · exact .inr (.inl ⟨h, e2 (by omega), h3⟩)
      · omega
    · rcases hm with h3 | ⟨h3, -⟩
      · exact .inr (.inr ⟨h, h3⟩)
      · omega
theorem info_i64 : (Try.prog.info? 2).map (fun i => (i.zero, i.size, i.bytes)) = some (some (.int .i64 0), 1, 8) := by kernel_rfl
def scrV (l : List Int) : List Value := l.map fun x => .int .i64 x
theorem scrV_len (l : List Int) : (scrV l).length = l.length := by simp [scrV]
theorem scrV_one (l : List Int) : ∀ u ∈ scrV l, u.oneCell' = true := by
  intro u hu
  obtain ⟨x, -, rfl⟩ := List.mem_map.1 hu
  rfl
theorem IntsAt.news {w : World} {H0 : Nat} {l : List Int} {v : Value} (h : IntsAt w H0 l v) (hl : l.length ≠ 0) : ∃ b o c, v = .slice (some ⟨b, o, none⟩) l.length c ∧ l.length ≤ c ∧ c ≤ maxLen ∧ b < H0 ∧ ∀ j u, (scrV l)[j]? = some u → w.cell? ((⟨b, o, none⟩ : Addr).add j) = some u := by
  obtain ⟨a, c, h1, h2, h3, h4⟩ := h
  obtain ⟨b, o, rfl, h5, h6⟩ := h4.resolve_left hl
  refine ⟨b, o, c, h1, h2, h3, h5, fun j u hu => ?_⟩
  rw [add_none]
  obtain ⟨hj, rfl⟩ := List.getElem?_eq_some_iff.1 hu
  have hj' : j < l.length := by simpa [scrV] using hj
  rw [h6 j hj']
  simp [scrV]
theorem IntsAt.le {w : World} {H0 H1 : Nat} {l : List Int} {v : Value} (h : IntsAt w H0 l v) (hl : H0 ≤ H1) : IntsAt w H1 l v := by
  obtain ⟨a, c, h1, h2, h3, h4⟩ := h
  exact ⟨a, c, h1, h2, h3, h4.imp id fun ⟨b, o, h5, h6, h7⟩ => ⟨b, o, h5, Nat.lt_of_lt_of_le h6 hl, h7⟩⟩
/-- A row of one's own with its last item written over. -/
theorem last_set {w : World} {base : Nat} {g cap : Nat} {p : List Int} {x m : Int} (h : w.ownsRow base 2 1 (.slice (some ⟨g, 0, none⟩) (p ++ [x]).length cap) (p ++ [x]).length (scrV (p ++ [x]))) :
    IntsAt (w.setCell ⟨g, p.length, none⟩ (.int .i64 m)) w.heap.size (p ++ [m]) (.slice (some ⟨g, 0, none⟩) (p ++ [x]).length cap) ∧ (∃ u, w.cell? ⟨g, p.length, none⟩ = some u) ∧ w.frozen? ⟨g, p.length, none⟩ = false ∧ base ≤ g ∧ g < w.heap.size ∧ Only g w (w.setCell ⟨g, p.length, none⟩ (.int .i64 m)) := by
  obtain ⟨hlen, h | ⟨g', cap', cur, hv, hb, hh, hn, hm, hc, ht⟩⟩ := h
  · simp at h
  · simp only [Value.slice.injEq, Option.some.injEq, Addr.mk.injEq, and_true, true_and] at hv
    obtain ⟨rfl, rfl⟩ := hv
    have hB : Blk w g cur 2 := hh
    have hlt := hB.lt
    have hps : p.length < cur.size := by rw [hc]; simp at hn; omega
    have hS := hB.set p.length (.int .i64 m)
    have hcell : ∀ i (hi : i < (p ++ [x]).length), cur[i]? = some (.int .i64 (p ++ [x])[i]) := by
      intro i hi
      have h2 : (cur.toList.take ((p ++ [x]).length * 1))[i]? = (scrV (p ++ [x]))[i]? := by rw [ht]
      rw [List.getElem?_take_of_lt (by omega)] at h2
      rw [← Array.getElem?_toList, h2]
      unfold scrV
      rw [List.getElem?_map, List.getElem?_eq_getElem hi]
      rfl
    refine ⟨⟨some ⟨g, 0, none⟩, cap, by simp, by simpa using hn, hm, .inr ⟨g, 0, rfl, hlt, fun i hi => ?_⟩⟩, ?_, hB.free _, hb, hlt, (Only.refl g w).setCell (p := ⟨g, p.length, none⟩) rfl _⟩
    · rw [Nat.zero_add, hS.cell i]
      have hi' : i < (p ++ [x]).length := by simpa using hi
      by_cases hip : i = p.length
      · subst hip
        simp [hps]
      · have hil : i < p.length := by simp at hi'; omega
        rw [Array.getElem?_setIfInBounds_ne (by omega), hcell i hi']
        simp [List.getElem_append_left hil]
    · rw [hB.cell]
      exact ⟨_, hcell p.length (by simp)⟩
end Go.Proofs.Ytbhbmoppipohjaa
