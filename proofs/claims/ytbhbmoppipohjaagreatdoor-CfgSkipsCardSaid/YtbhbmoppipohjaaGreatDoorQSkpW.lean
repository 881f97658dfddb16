/-
  The statement's own walk: gnomonlaw9.CfgSkips answers true for every number.
-/
import Derived.Test.YtbhbmoppipohjaaGreatDoorQCfgV
import Derived.Test.YtbhbmoppipohjaaGreatDoorQGrP
import Derived.Test.YtbhbmoppipohjaaGreatDoorQGrJ
import Derived.BigQuiet
import Derived.Deep.QuietTactic
/-
  Plain: a program of skips: proved is that it is well, its graph, that this is one, and its order.
-/
namespace Go.Proofs.YtbhbmoppipohjaaGreatDoor
open Go Go.RowKit Go.Maps

theorem fault_of {ds ss : List Nd} (hlim : (progT ds ss).lim = 0) (hall : ∀ y ∈ allL (ds ++ ss), wellN y = true ∧ namelessB y = false) : faultT (progT ds ss) = 0 := by
  unfold faultT
  rw [if_neg (by simpa using hlim), progT_list hlim]
  rw [if_neg (by simp only [List.any_eq_true, not_exists, not_and]; intro y hy; simp [(hall y hy).1]), if_neg (by simp only [List.any_eq_true, not_exists, not_and]; intro y hy; simp [(hall y hy).2])]
theorem well_of {ds ss : List Nd} (h1 : faultT (progT ds ss) = 0) (h2 : (declW [] ds).2 = 0) (h3 : (badU (lookL ds) (usesL ss)).2 = 0) : (wellP ds ss).2 = 0 := by
  unfold wellP
  rw [if_neg (by simpa using h1), if_neg (by simpa using h2)]
  exact h3
def skipN : Nd := .mk .S 7 0 ⟨#[]⟩ [] [] [] []
def skips (n : Nat) : List Nd := List.replicate n skipN
theorem skips_succ (n : Nat) : skips (n + 1) = skipN :: skips n := rfl
theorem skips_snoc (n : Nat) : skips (n + 1) = skips n ++ [skipN] := by unfold skips; rw [List.replicate_succ']
theorem tour_skip (t : Tr) (h : t.l.length < 4096) : tourN skipN 1 t = ⟨t.l ++ [skipN], max t.dep 1, 0⟩ := by
  have hb : byd t.l.length 1 = 0 := by
    unfold byd
    rw [if_neg (by omega), if_neg (by decide)]
  have hn : nodeT skipN 1 t = ⟨t.l ++ [skipN], max t.dep 1, 0⟩ := by
    unfold nodeT
    rw [if_neg (by simp [hb])]
  unfold skipN at hn ⊢
  rw [tourN, hn]
  simp [tourL]
theorem tour_skips : ∀ (n : Nat) (t : Tr), t.l.length + n ≤ 4096 → t.lim = 0 → (tourL (skips n) 1 t).lim = 0
  | 0, t, _, h => by
    show (tourL [] 1 t).lim = 0
    rw [tourL]
    exact h
  | n + 1, t, hl, h => by
    rw [skips_succ, tourL, tour_skip t (by omega), if_neg (by simp)]
    exact tour_skips n _ (by simp; omega) rfl
theorem all_skips : ∀ (n : Nat), allL (skips n) = skips n
  | 0 => rfl
  | n + 1 => by
    rw [skips_succ, allL, all_skips n]
    rfl
theorem uses_skips : ∀ (n : Nat), usesL (skips n) = []
  | 0 => rfl
  | n + 1 => by
    rw [skips_succ, usesL, uses_skips n]
    rfl
theorem well_skips (n : Nat) (hn : n ≤ 1000) : (wellP [] (skips n)).2 = 0 := by
  refine well_of (fault_of ?_ ?_) rfl ?_
  · unfold progT
    show (if (tourL [] 1 ⟨[], 0, 0⟩).lim ≠ 0 then tourL [] 1 ⟨[], 0, 0⟩ else tourL (skips n) 1 (tourL [] 1 ⟨[], 0, 0⟩)).lim = 0
    have h0 : tourL [] 1 ⟨[], 0, 0⟩ = ⟨[], 0, 0⟩ := by rw [tourL]
    rw [h0, if_neg (by simp)]
    exact tour_skips n _ (by simp; omega) rfl
  · intro y hy
    rw [List.nil_append, all_skips] at hy
    rw [List.eq_of_mem_replicate hy]
    exact ⟨by decide +kernel, by decide +kernel⟩
  · rw [uses_skips]
    rfl
/-- The row of edges. -/
def rowE : Nat → Int → Int → Int → List Ed
  | 0, _, _, _ => []
  | m + 1, f, p, t => edgeE f (if m = 0 then t else p) 1 :: rowE m p (p + 1) t
theorem rowE_len : ∀ (m : Nat) (f p t : Int), (rowE m f p t).length = m
  | 0, _, _, _ => rfl
  | m + 1, f, p, t => by rw [rowE, List.length_cons, rowE_len m]
theorem rowE_get : ∀ (m : Nat) (f p t : Int) (i : Nat), i < m → (rowE m f p t)[i]? = some (edgeE (if i = 0 then f else p + (i : Int) - 1) (if i + 1 = m then t else p + (i : Int)) 1)
  | 0, _, _, _, i, h => by omega
  | m + 1, f, p, t, 0, _ => by
    rw [rowE, List.getElem?_cons_zero]
    congr 2
    by_cases h : m = 0
    · simp [h]
    · rw [if_neg h, if_neg (by omega)]; simp
  | m + 1, f, p, t, i + 1, h => by
    rw [rowE, List.getElem?_cons_succ, rowE_get m p (p + 1) t i (by omega)]
    congr 2
    · rw [if_neg (by omega : ¬ i + 1 = 0)]
      by_cases hi : i = 0
      · subst hi; simp
      · rw [if_neg hi]; push_cast; omega
    · by_cases hi : i + 1 = m
      · rw [if_pos hi, if_pos (by omega)]
      · rw [if_neg hi, if_neg (by omega)]; push_cast; omega
theorem lw_skips (E : Lv) : ∀ (m : Nat) (f p t : Int) (s : Lw), lwL E (skips m) f p t s = { s with eds := s.eds ++ rowE m f p t }
  | 0, f, p, t, s => by
    show lwL E [] f p t s = _
    rw [lwL, rowE, List.append_nil]
  | m + 1, f, p, t, s => by
    have he : (skips m).isEmpty = decide (m = 0) := by cases m <;> rfl
    have hs : ∀ q, lwN E skipN f q s = s.add (edgeE f q 1) := fun q => by
      unfold skipN
      rw [lwN]
      rfl
    rw [skips_succ, lwL, hs, he, rowE]
    by_cases h0 : m = 0
    · subst h0
      show lwL E [] _ _ _ _ = _
      rw [lwL]
      rfl
    · rw [lw_skips E m]
      simp only [h0, decide_false, if_false, Bool.false_eq_true]
      simp [Lw.add]
theorem low_skips (n : Nat) (h : 1 ≤ n) : lowD [] (skips n) = ⟨(n : Int) + 1, 0, 1, rowE n 0 2 1⟩ := by
  have he : (skips n).isEmpty = false := by cases n with | zero => omega | succ m => rfl
  have hl : (skips n).length = n := by simp [skips]
  unfold lowD lowP lwB blkF
  rw [he, lw_skips, hl]
  simp only [begP, begS, Lw.more, Lw.fresh, Bool.false_eq_true, if_false, List.nil_append]
  congr 1
  omega
theorem cfg_skips (n : Nat) (h : 1 ≤ n) (hn : n ≤ 1000) : cfgF [] (skips n) = 0 := by
  unfold cfgF
  rw [if_neg (by simpa using well_skips n hn), low_skips n h]
  simp only [rowE_len]
  show outF (([] : List ByteArray).length : Int) 0 ((n : Int) + 1) (n : Int) = 0
  unfold outF
  rw [if_neg (by simp), if_neg (by omega)]
def skG (n : Nat) : Gf := ⟨[], 0, [], (n : Int) + 1, 1, rowE n 0 2 1⟩
theorem sk_n (n : Nat) : (skG n).n = n + 1 := by
  show ((n : Int) + 1).toNat = n + 1
  omega
/-- The point ahead of skip i. -/
def ptN (n i : Nat) : Nat := if i = 0 then 0 else if i = n then 1 else i + 1
theorem ptN_le {n i : Nat} (h : i ≤ n) (hn : 1 ≤ n) : ptN n i < n + 1 := by
  unfold ptN
  repeat' split
  all_goals omega
theorem ptN_inj {n i j : Nat} (hi : i ≤ n) (hj : j ≤ n) (h : ptN n i = ptN n j) : i = j := by
  unfold ptN at h
  repeat' split at h
  all_goals omega
theorem sk_at (n i : Nat) (hi : i < n) : (rowE n 0 2 1).getD i noE = edgeE (ptN n i : Int) (ptN n (i + 1) : Int) 1 := by
  rw [List.getD_eq_getElem?_getD, rowE_get n 0 2 1 i hi, Option.getD_some]
  unfold ptN
  congr 1
  · by_cases h : i = 0
    · simp [h]
    · rw [if_neg h, if_neg h, if_neg (by omega)]; push_cast; omega
  · rw [if_neg (by omega : ¬ i + 1 = 0)]
    by_cases h : i + 1 = n
    · simp [h]
    · rw [if_neg h, if_neg h]; push_cast; omega
theorem sk_out (n : Nat) (hn : 1 ≤ n) (i : Nat) (hi : i ≤ n) : ∀ k, k ≤ n → outT (rowE n 0 2 1) k (ptN n i) = if i < k then [i] else []
  | 0, _ => by simp [outT]
  | k + 1, hk => by
    rw [outT_succ, sk_out n hn i hi k (by omega), sk_at n k (by omega)]
    show (if i < k then [i] else []) ++ (if ((ptN n k : Int) == (ptN n i : Int)) = true then [k] else []) = _
    by_cases h : i = k
    · subst h
      simp
    · have hne : ¬ (ptN n k : Int) = (ptN n i : Int) := fun e => h (ptN_inj hi (by omega) (by omega))
      have hb : ((ptN n k : Int) == (ptN n i : Int)) = false := by simpa using hne
      rw [hb]
      by_cases h2 : i < k
      · rw [if_pos h2, if_neg (by simp), if_pos (by omega)]; rfl
      · rw [if_neg h2, if_neg (by simp), if_neg (by omega)]; rfl
theorem pt_cases (n p : Nat) (hn : 1 ≤ n) (hp : p < n + 1) : ∃ i, i ≤ n ∧ p = ptN n i := by
  by_cases h0 : p = 0
  · exact ⟨0, by omega, by simp [ptN, h0]⟩
  · by_cases h1 : p = 1
    · exact ⟨n, by omega, by unfold ptN; rw [if_neg (by omega), if_pos rfl]; exact h1⟩
    · exact ⟨p - 1, by omega, by unfold ptN; rw [if_neg (by omega), if_neg (by omega)]; omega⟩
theorem ed_row {a b p : Int} (h0 : 0 ≤ a) (h1 : a < p) (h2 : 0 ≤ b) (h3 : b < p) (h4 : ¬ a = 1) : edR 0 0 p 1 (edgeE a b 1) = true := by
  simp [edR, kdR, endR, namR, plc, cmps, opd, kDst, kArr, kOp, kA, kB, edgeE, amg, h0, h1, h2, h3, h4]
theorem sk_frm (n : Nat) (hn : 1 ≤ n) : frm (skG n) = true := by
  have h1 : sizedG (skG n) = true := by unfold sizedG skG; simp
  have h2 : amg (skG n).ext (skG n).pts = true := by unfold amg skG; simp; omega
  have h3 : rightG (skG n) = true := by
    unfold rightG
    rw [List.all_eq_true]
    intro e he
    obtain ⟨i, hi, rfl⟩ := List.mem_iff_getElem.1 (show e ∈ rowE n 0 2 1 from he)
    have hin : i < n := by rw [rowE_len] at hi; exact hi
    have hg := sk_at n i hin
    rw [List.getD_eq_getElem?_getD, List.getElem?_eq_getElem (by rw [rowE_len]; exact hin), Option.getD_some] at hg
    show edR _ _ _ _ (rowE n 0 2 1)[i] = true
    rw [hg]
    have a1 := ptN_le (n := n) (i := i) (by omega) hn
    have a2 := ptN_le (n := n) (i := i + 1) (by omega) hn
    have a3 : ¬ ptN n i = 1 := fun e => by
      have : ptN n i = ptN n n := by rw [e]; unfold ptN; rw [if_neg (by omega), if_pos rfl]
      have := ptN_inj (by omega) (by omega) this
      omega
    exact ed_row (p := (n : Int) + 1) (by omega) (by omega) (by omega) (by omega) (by omega)
  have h4 : forkG (skG n) = true := by
    unfold forkG
    rw [List.all_eq_true]
    intro p hp
    rw [List.mem_range] at hp
    obtain ⟨i, hi, rfl⟩ := pt_cases n p hn (by rw [sk_n] at hp; exact hp)
    have ho : outL (skG n).es (ptN n i) = if i < n then [i] else [] := by
      unfold outL
      show outT (rowE n 0 2 1) (rowE n 0 2 1).length (ptN n i) = _
      rw [rowE_len]
      exact sk_out n hn i hi n (Nat.le_refl _)
    rw [ho]
    by_cases hin : i < n
    · rw [if_pos hin]
      show (((rowE n 0 2 1).getD i noE).kd != 12) = true
      rw [sk_at n i hin]
      rfl
    · rw [if_neg hin]
      rfl
  unfold frm
  rw [h1, h2, h3, h4]
  rfl
theorem sk_suc (n : Nat) (hn : 1 ≤ n) (i : Nat) (hi : i ≤ n) : sucG (rowE n 0 2 1) (ptN n i) = if i < n then [ptN n (i + 1)] else [] := by
  unfold sucG outL
  rw [rowE_len, sk_out n hn i hi n (Nat.le_refl _)]
  by_cases h : i < n
  · rw [if_pos h, if_pos h, List.map_cons, List.map_nil, sk_at n i h]
    rfl
  · rw [if_neg h, if_neg h]
    rfl
theorem dfs_row (n : Nat) (hn : 1 ≤ n) : ∀ (m i : Nat) (s : Vs) (f : Nat), i + m = n → m < f → (∀ j, i ≤ j → j ≤ n → s.bg.getD (ptN n j) true = false) →
    (dfs (sucG (rowE n 0 2 1)) f (ptN n i) s).dn = s.dn ++ (List.range (m + 1)).map fun k => ptN n (n - k)
  | 0, i, s, f, h, hf, hb => by
    obtain ⟨f, rfl⟩ : ∃ g, f = g + 1 := ⟨f - 1, by omega⟩
    obtain rfl : i = n := by omega
    rw [dfs_succ, sk_suc i hn i (Nat.le_refl _), if_neg (by omega)]
    rfl
  | m + 1, i, s, f, h, hf, hb => by
    obtain ⟨f, rfl⟩ : ∃ g, f = g + 1 := ⟨f - 1, by omega⟩
    rw [dfs_succ, sk_suc n hn i (by omega), if_pos (by omega)]
    have hset : ∀ j, i + 1 ≤ j → j ≤ n → (s.start (ptN n i)).bg.getD (ptN n j) true = false := by
      intro j h1 h2
      have hne : ptN n i ≠ ptN n j := fun e => by have := ptN_inj (by omega) h2 e; omega
      have := hb j (by omega) h2
      unfold Vs.start
      simp only [List.getD_eq_getElem?_getD] at this ⊢
      rw [List.getElem?_set_ne hne]
      exact this
    show (Vs.fin (if (s.start (ptN n i)).bg.getD (ptN n (i + 1)) true = true then s.start (ptN n i) else dfs (sucG (rowE n 0 2 1)) f (ptN n (i + 1)) (s.start (ptN n i))) (ptN n i)).dn = _
    rw [if_neg (by rw [hset (i + 1) (Nat.le_refl _) (by omega)]; simp)]
    show (dfs (sucG (rowE n 0 2 1)) f (ptN n (i + 1)) (s.start (ptN n i))).dn ++ [ptN n i] = _
    rw [dfs_row n hn m (i + 1) _ f (by omega) (by omega) hset, List.range_succ (n := m + 1), List.map_append]
    show (s.dn ++ _) ++ _ = _
    rw [List.append_assoc]
    have : n - (m + 1) = i := by omega
    rw [List.map_cons, List.map_nil, this]
theorem sk_order (n : Nat) (hn : 1 ≤ n) : orderG (skG n) = (List.range (n + 1)).map (ptN n) := by
  have hd : (walkG (skG n)).dn = (List.range (n + 1)).map fun k => ptN n (n - k) := by
    unfold walkG
    rw [sk_n]
    show (dfs (sucG (rowE n 0 2 1)) (n + 1) 0 (startV (n + 1))).dn = _
    have h0 : ptN n 0 = 0 := rfl
    rw [← h0, dfs_row n hn n 0 _ (n + 1) (by omega) (by omega) (fun j _ hj => by
      have := ptN_le hj hn
      simp [startV, this])]
    rfl
  have hv := walkG_ok (skG n) (by rw [sk_n]; omega)
  have hr : restT (walkG (skG n)) (skG n).n = [] := by
    have h2 := restT_len (walkG (skG n)).bg (walkG (skG n)).dn
    have e : (⟨(walkG (skG n)).bg, (walkG (skG n)).dn⟩ : Vs) = walkG (skG n) := rfl
    rw [e, hv.len] at h2
    have h3 := hv.cnt
    rw [hd, sk_n] at h3
    unfold Vs.un at h3
    simp only [List.length_map, List.length_range] at h3
    exact List.eq_nil_of_length_eq_zero (by omega)
  unfold orderG
  rw [hr, hd, List.append_nil]
  apply List.ext_getElem
  · simp
  · intro i h1 h2
    simp only [List.length_map, List.length_range] at h2
    simp only [List.getElem_reverse, List.getElem_map, List.getElem_range, List.length_map, List.length_range]
    congr 1
    omega
end Go.Proofs.YtbhbmoppipohjaaGreatDoor

/-
  The statement's own walk: gnomonlaw9.CfgSkips answers true for every number.
-/
namespace Go.Proofs.YtbhbmoppipohjaaGreatDoor
open Go Go.RowKit Go.Maps

def skV : List Value := [.int .i64 7, .string ⟨#[]⟩, .slice none 0 0, .slice none 0 0, .slice none 0 0, .slice none 0 0]
def skCells : Nat → List Value
  | 0 => []
  | n + 1 => skCells n ++ skV
theorem skCells_len : ∀ n, (skCells n).length = n * 6
  | 0 => rfl
  | n + 1 => by rw [skCells, List.length_append, skCells_len n]; show n * 6 + 6 = _; omega
theorem skCells_at : ∀ (n i j : Nat) (u : Value), i < n → skV[j]? = some u → (skCells n)[i * 6 + j]? = some u
  | 0, i, j, u, h, _ => by omega
  | n + 1, i, j, u, h, hj => by
    have hj6 : j < 6 := (List.getElem?_eq_some_iff.1 hj).1
    rw [skCells]
    by_cases hi : i < n
    · rw [List.getElem?_append_left (by rw [skCells_len]; omega)]
      exact skCells_at n i j u hi hj
    · obtain rfl : i = n := by omega
      rw [List.getElem?_append_right (by rw [skCells_len]; omega), skCells_len, Nat.add_sub_cancel_left]
      exact hj
theorem skV_one : ∀ u ∈ skV, u.oneCell' = true := by
  intro u hu
  simp only [skV, List.mem_cons, List.not_mem_nil, or_false] at hu
  rcases hu with rfl | rfl | rfl | rfl | rfl | rfl <;> rfl
theorem skip_in (w : World) : NdIn w skipN skV := by
  unfold skipN NdIn
  exact ⟨rfl, lit_ok (by decide) (by decide), ok0, by decide, .slice none 0 0, .slice none 0 0, .slice none 0 0, .slice none 0 0, rfl, sl0 w .E, sl0 w .C, sl0 w .S, sl0 w .S⟩
theorem skips_in {w : World} {base n : Nat} {v : Value} (h : w.ownsRow base 60 6 v n (skCells n)) : SlIn w .S (skips n) v := by
  obtain ⟨a, c, rfl, h1, h2, h3⟩ := own_len h
  have hl : (skips n).length = n := by simp [skips]
  refine ⟨a, c, by rw [hl], by rw [hl]; exact h1, h2, ?_⟩
  rw [hl]
  refine h3.imp id fun ⟨g, h4, _, _, h5⟩ => ⟨g, 0, h4, RowIn.of _ _ _ fun i hi => ?_⟩
  rw [hl] at hi
  have e : (skips n)[i] = skipN := by simp [skips]
  rw [e]
  exact ⟨rfl, skV, fun j u hj => by rw [Nat.zero_add]; exact h5 _ _ (skCells_at n i j u hi hj), skip_in w⟩
theorem sk_cfg (n : Nat) {w : World} {lo : Nat} {u : Value} (h : CfgIn w lo (varsL []) (arrsL []) ⟨(n : Int) + 1, 0, 1, rowE n 0 2 1⟩ u) :
    ∃ av cv aa ca ae ce, u = .agg #[.slice av 0 cv, .int .i64 0, .slice aa 0 ca, .int .i64 ((n : Int) + 1), .int .i64 1, .slice ae n ce] ∧ GrIn w (skG n) (.slice av 0 cv) (.slice aa 0 ca) (.slice ae (rowE n 0 2 1).length ce) := by
  obtain ⟨vv, va, ve, rfl, hv, ha, he⟩ := h
  have hE := EdsAt.own he
  obtain ⟨av, cv, rfl, -⟩ := own_len hv
  obtain ⟨aa, ca, rfl, -, hca, -⟩ := own_len ha
  obtain ⟨ae, ce, rfl, -⟩ := own_len he
  refine ⟨av, cv, aa, ca, ae, ce, ?_, ⟨⟨av, cv, rfl, Nat.zero_le _, .inl rfl⟩, ⟨aa, ca, rfl, Nat.zero_le _, hca, .inl rfl⟩, hE, Nat.zero_le _⟩⟩
  show Value.agg #[.slice av 0 cv, .int .i64 0, .slice aa 0 ca, .int .i64 ((n : Int) + 1), .int .i64 1, .slice ae (rowE n 0 2 1).length ce] = _
  rw [rowE_len]
theorem sk_chk (n : Nat) (hn : 1 ≤ n) (hn2 : n ≤ 1000) : chkG (skG n) = 0 := by
  have h0 : outF ((skG n).vs.length : Int) (skG n).tmp (skG n).pts ((skG n).es.length : Int) = 0 := by
    show outF 0 0 ((n : Int) + 1) ((rowE n 0 2 1).length : Int) = 0
    rw [rowE_len]
    unfold outF
    rw [if_neg (by omega), if_neg (by omega)]
  unfold chkG
  rw [h0, if_neg (by simp), sk_frm n hn]
  rfl
theorem sk_ord (n : Nat) (av aa ae : Option Addr) (cv ca ce : Nat) (w : World) (hg : GrIn w (skG n) (.slice av 0 cv) (.slice aa 0 ca) (.slice ae (rowE n 0 2 1).length ce)) (htab : TabF w) :
    Calls Tryz.prog 15 #[.agg #[.slice av 0 cv, .int .i64 0, .slice aa 0 ca, .int .i64 ((n : Int) + 1), .int .i64 1, .slice ae n ce]] w (OrdTo w (skG n)) := by
  have h := order_any (skG n) av aa ae cv ca ce w hg (Nat.zero_le _) htab
  have e : grS (skG n) av cv aa ca ae ce = .agg #[.slice av 0 cv, .int .i64 0, .slice aa 0 ca, .int .i64 ((n : Int) + 1), .int .i64 1, .slice ae n ce] := by
    show Value.agg #[.slice av 0 cv, .int .i64 0, .slice aa 0 ca, .int .i64 ((n : Int) + 1), .int .i64 1, .slice ae (rowE n 0 2 1).length ce] = _
    rw [rowE_len]
  rw [e] at h
  exact h
theorem sk_cells (n : Nat) (hn : 1 ≤ n) {w : World} {base : Nat} {u : Value} (h : w.ownsRow base 3 1 u (orderG (skG n)).length (cellsN (orderG (skG n)))) :
    ∃ g c, u = .slice (some ⟨g, 0, none⟩) (n + 1) c ∧ ∀ i, i ≤ n → w.cell? ⟨g, i, none⟩ = some (.int .i64 (ptN n i : Int)) := by
  rw [sk_order n hn] at h
  obtain ⟨a, c, rfl, -, -, h2⟩ := own_len h
  have hl : ((List.range (n + 1)).map (ptN n)).length = n + 1 := by simp
  rw [hl] at h2 ⊢
  obtain ⟨g, rfl, -, -, h3⟩ := h2.resolve_left (by omega)
  refine ⟨g, c, rfl, fun i hi => h3 i _ ?_⟩
  rw [cellsN_at _ i (by simp; omega)]
  simp
theorem sk_get (n i : Nat) (hi : i < n) : (skG n).es[i]'(by rw [show (skG n).es.length = n from rowE_len n 0 2 1]; exact hi) = edgeE (ptN n i : Int) (ptN n (i + 1) : Int) 1 := by
  have h := sk_at n i hi
  rw [List.getD_eq_getElem?_getD, List.getElem?_eq_getElem (by rw [rowE_len]; exact hi), Option.getD_some] at h
  exact h
theorem info_stmt : (Tryz.prog.info? 60).map (fun i => (i.zero, i.size, i.bytes)) = some (some (.agg #[.int .i64 0, .string ⟨#[]⟩, .slice none 0 0, .slice none 0 0, .slice none 0 0, .slice none 0 0]), 6, 120) := by kernel_rfl
/-- What the loop keeps. -/
structure SkI (w : World) (X i : Nat) (wr : World) (ve : Value) : Prop where
  blk : Blk wr X #[.slice none 0 0, ve] 25
  own : wr.ownsRow (X + 1) 60 6 ve i (skCells i)
  below : Below w.heap.size w wr
  size : X + 1 ≤ wr.heap.size
set_option maxRecDepth 100000 in
set_option maxHeartbeats 8000000 in
theorem skips_law (h : Int) (w : World) (_ : (Lit.int .i64 h).wf = true) (htab : TabK w) (htf : TabF w) :
    Calls Tryz.prog 5 #[.int .i64 h] w (fun e w' => e = .returned (.bool true) ∧ Below w.heap.size w w') := by
  have HKN := Lib.hid (known9_any w htab)
  have HTB := Lib.hid (And.intro htab htf)
  clear htab htf
  by_cases hbad : h < 1 ∨ 1000 < h
  · rcases (show h < 1 ∨ (¬ h < 1 ∧ 1000 < h) by omega) with h1 | ⟨h1, h2⟩
    · have t1 : decide (h < 1) = true := by simpa using h1
      clear h1 hbad
      go_enter Tryz.func5, Tryz.ntmps5
      go_wp2_with (first | (go_at_call 6; (with_reducible refine HKN.out.mono ?_); rintro e w2 ⟨rfl, hb2⟩; have HB2 := Lib.hid hb2; clear hb2) | fail)
      go_ret
      exact ⟨rfl, HB2.out⟩
    · have t1 : decide (h < 1) = false := by simpa using h1
      have t2 : decide (1000 < h) = true := by simpa using h2
      clear h1 h2 hbad
      go_enter Tryz.func5, Tryz.ntmps5
      go_wp2_with (first | (go_at_call 6; (with_reducible refine HKN.out.mono ?_); rintro e w2 ⟨rfl, hb2⟩; have HB2 := Lib.hid hb2; clear hb2) | fail)
      go_ret
      exact ⟨rfl, HB2.out⟩
  obtain ⟨n, rfl⟩ : ∃ m : Nat, h = m := ⟨h.toNat, by omega⟩
  have hn1 : 1 ≤ n := by omega
  have hn : n ≤ 1000 := by omega
  have t1 : decide ((n : Int) < 1) = false := by simp; omega
  have t2 : decide (1000 < (n : Int)) = false := by simp; omega
  have HN := Lib.hid (And.intro hn1 hn)
  clear hbad hn1 hn
  go_enter Tryz.func5, Tryz.ntmps5
  go_upto_region 6 with (first | (go_at_call 6; (with_reducible refine HKN.out.mono ?_); rintro e w2 ⟨rfl, hb2⟩; have HB2 := Lib.hid hb2; clear hb2) | fail)
  obtain ⟨W3, hW3⟩ : ∃ W, w2.alloc (.cells #[.slice none 0 0, .slice none 0 0] 25) = W := ⟨_, rfl⟩
  obtain ⟨X, hX⟩ : ∃ X, w2.heap.size = X := ⟨_, rfl⟩
  have hx3 : Blk W3 X #[.slice none 0 0, .slice none 0 0] 25 := by rw [← hW3, ← hX]; exact Blk.new w2 _ _
  have hb3 : Below w.heap.size w W3 := by rw [← hW3]; exact HB2.out.alloc HB2.out.size _
  have HI := Lib.hid (show SkI w X 0 W3 (.slice none 0 0) from ⟨hx3, World.ownsRow_nil _ _ _ _, hb3, by rw [← hW3, World.size_alloc, hX]; exact Nat.le_refl _⟩)
  have HXW := Lib.hid (show w.heap.size ≤ X by rw [← hX]; exact HB2.out.size)
  rw [hW3, hX]
  obtain ⟨i0, hi0, hz0, hz1, hz2⟩ := info_parts info_stmt
  have HI0 := Lib.hid (And.intro hi0 (And.intro hz0 (And.intro hz1 hz2)))
  clear hx3 hb3 hW3 hX hi0 hz0 hz1 hz2 t1 t2 HKN HB2
  go_wp2_with fail
  go_loopw [4] (fun x wr => ∃ (i : Nat) (ve : Value), x = .int .i64 i ∧ i ≤ n ∧ SkI w X i wr ve) (fun x _ => n - (intOf x).toNat)
  case atStart => exact ⟨0, _, rfl, by omega, HI.out⟩
  case round =>
    obtain ⟨i, ve, rfl, hi, hI⟩ := hrel
    clear HI
    have HI := Lib.hid hI
    clear hI
    by_cases hlt : i < n
    · have hbi : (i : Int) + 1 ≤ 9223372036854775807 := by have := HN.out.2; omega
      have xb : wr.cell? ⟨X, 1, none⟩ = some ve := HI.out.blk.cell 1
      have HNW := Lib.hid (show ∀ j u, skV[j]? = some u → (wr.alloc (.cells #[.int .i64 7, .string ⟨#[]⟩, .slice none 0 0, .slice none 0 0, .slice none 0 0, .slice none 0 0] 60)).cell? ((⟨wr.heap.size, 0, none⟩ : Addr).add j) = some u from World.news_of_block (cs := #[.int .i64 7, .string ⟨#[]⟩, .slice none 0 0, .slice none 0 0, .slice none 0 0, .slice none 0 0]) (t := 60) (fr := (0, 0)) (heap_alloc_new wr (.cells #[.int .i64 7, .string ⟨#[]⟩, .slice none 0 0, .slice none 0 0, .slice none 0 0, .slice none 0 0] 60)))
      have HSZ := Lib.hid (show X + 1 ≤ (wr.alloc (.cells #[.int .i64 7, .string ⟨#[]⟩, .slice none 0 0, .slice none 0 0, .slice none 0 0, .slice none 0 0] 60)).heap.size by rw [World.size_alloc]; have := HI.out.size; omega)
      have HNL := Lib.hid (show skV.length = 1 * 6 from rfl)
      have HNN := Lib.hid (And.intro (show i + 1 ≤ maxLen by have := HN.out.2; unfold maxLen; omega) (show (i + 1) * 120 ≤ 140737488355328 by have := HN.out.2; omega))
      go_wp2_with (first | (at_builtin; (with_reducible refine wpList_append_lies _ rfl (.tmp 25) (.tmp 27) 23 rfl (X + 1) 60 i0 _ 6 120 Tryz.underlying23 HI0.out.1 HI0.out.2.1 HI0.out.2.2.1 HI0.out.2.2.2 rfl (by omega) _ i (skCells i) rfl (HI.out.own.alloc _) ⟨_, 0, none⟩ 1 1 skV rfl HNL.out HNW.out skV_one (by omega) HNN.out.1 HNN.out.2 HSZ.out _ rfl ?_); (intro gg cap w6 hown6 hgrow hat hlt6); have e0 : w6.cell? ⟨X, 1, none⟩ = some ve := (blk_grown (HI.out.blk.alloc _) hgrow (fun e => by have := (HI.out.own.lt _ e).1; omega)).cell 1; have e1 : w6.frozen? ⟨X, 1, none⟩ = false := (blk_grown (HI.out.blk.alloc _) hgrow (fun e => by have := (HI.out.own.lt _ e).1; omega)).free 1) | fail)
      go_roundw
      case rel =>
        have hb6 := blk_grown (HI.out.blk.alloc (.cells #[.int .i64 7, .string ⟨#[]⟩, .slice none 0 0, .slice none 0 0, .slice none 0 0, .slice none 0 0] 60)) hgrow (fun e => by have := (HI.out.own.lt _ e).1; omega)
        have hb7 := HI.out.below.alloc HI.out.below.size (.cells #[.int .i64 7, .string ⟨#[]⟩, .slice none 0 0, .slice none 0 0, .slice none 0 0, .slice none 0 0] 60)
        have hb8 := hb7.grown hgrow hb7.size (fun k hk => by have := (HI.out.own.lt k hk).1; have := HXW.out; omega)
        refine ⟨i + 1, _, by go_num, by omega, hb6.set 1 _, ownsRow_setCell_below hown6 (a := ⟨X, 1, none⟩) (by show X < X + 1; omega) _, hb8.setCell (by show w.heap.size ≤ X; exact HXW.out) _, ?_⟩
        have h1 := hgrow.size
        have h2 := HSZ.out
        simp only [World.size_setCell]
        omega
      case measure => simp [intOf]; omega
    · obtain rfl : i = n := by omega
      have hn1 := HN.out.1
      have hn2 := HN.out.2
      obtain ⟨va, vc, rfl, -⟩ := own_len HI.out.own
      have x0 : wr.cell? ⟨X, 0, none⟩ = some (.slice none 0 0) := HI.out.blk.cell 0
      have x1 : wr.cell? ⟨X, 1, none⟩ = some (.slice va i vc) := HI.out.blk.cell 1
      have hC := cfg_skips i hn1 hn2
      have HLW := Lib.hid (Lower_any [] (skips i) (.slice none 0 0) (.slice va i vc) wr (slIn_nil _ _) (skips_in HI.out.own) (tab_below HTB.out.1 HI.out.below))
      have HCF := Lib.hid (And.intro hC (And.intro (low_skips i hn1) (sk_chk i hn1 hn2)))
      have HB := Lib.hid (And.intro HI.out.below (HTB.out.2.next HI.out.below))
      have hbn : (i : Int) + 1 ≤ 9223372036854775807 := by omega
      clear hC hn1 hlt HI HTB
      go_upto_region 11 with (first | (go_at_call 7; (with_reducible refine HLW.out.mono ?_); rintro e w5 ⟨u, rfl, hb5, hout, -⟩; have hO := hout HCF.out.1; rw [HCF.out.1]; rw [HCF.out.2.1] at hO; obtain ⟨av, cv, aa, ca, ae, ce, rfl, hgr⟩ := sk_cfg i hO; have H5 := Lib.hid (And.intro (bel HB.out.1 hb5) (And.intro (HB.out.2.next hb5) hgr)); clear hb5 hout hO hgr x0 x1) | fail)
      obtain ⟨W6, hW6⟩ : ∃ W, w5.alloc (.cells #[.slice av 0 cv, .int .i64 0, .slice aa 0 ca, .int .i64 ((i : Int) + 1), .int .i64 1, .slice ae i ce] 30) = W := ⟨_, rfl⟩
      obtain ⟨Y, hY⟩ : ∃ Y, w5.heap.size = Y := ⟨_, rfl⟩
      have hy6 : Blk W6 Y #[.slice av 0 cv, .int .i64 0, .slice aa 0 ca, .int .i64 ((i : Int) + 1), .int .i64 1, .slice ae i ce] 30 := by rw [← hW6, ← hY]; exact Blk.new w5 _ _
      have hb6 : Below w5.heap.size w5 W6 := by rw [← hW6]; exact (Below.refl _ w5).alloc (Nat.le_refl _) _
      have HOR := Lib.hid (sk_ord i av aa ae cv ca ce W6 (H5.out.2.2.next hb6) (H5.out.2.1.next hb6))
      have H6 := Lib.hid (And.intro hy6 (And.intro (bel H5.out.1 hb6) (H5.out.2.2.next hb6)))
      have y0 : W6.cell? ⟨Y, 0, none⟩ = some (.slice av 0 cv) := hy6.cell 0
      have y1 : W6.cell? ⟨Y, 1, none⟩ = some (.int .i64 0) := hy6.cell 1
      have y2 : W6.cell? ⟨Y, 2, none⟩ = some (.slice aa 0 ca) := hy6.cell 2
      have y3 : W6.cell? ⟨Y, 3, none⟩ = some (.int .i64 ((i : Int) + 1)) := hy6.cell 3
      have y4 : W6.cell? ⟨Y, 4, none⟩ = some (.int .i64 1) := hy6.cell 4
      have y5 : W6.cell? ⟨Y, 5, none⟩ = some (.slice ae i ce) := hy6.cell 5
      rw [hW6, hY]
      clear hW6 hY hy6 hb6
      go_upto_region 14 with (first | (go_at_call 15; (with_reducible refine HOR.out.mono ?_); rintro e w8 ⟨ul, rfl, hb8, hord, -⟩; rw [HCF.out.2.2]; obtain ⟨lg, lc, rfl, hcells⟩ := sk_cells i HN.out.1 (hord HCF.out.2.2); have H8 := Lib.hid (And.intro hb8 hcells); clear hb8 hord hcells y0 y1 y2 y3 y4 y5) | fail)
      have l0 : w8.cell? ⟨lg, 0, none⟩ = some (.int .i64 0) := H8.out.2 0 (by omega)
      have l1 : w8.cell? ⟨lg, i, none⟩ = some (.int .i64 1) := by
        have := H8.out.2 i (Nat.le_refl _)
        unfold ptN at this
        rw [if_neg (by have := HN.out.1; omega), if_pos rfl] at this
        exact this
      have hil : (i : Int) < ((i + 1 : Nat) : Int) := by omega
      have hil0 : (0 : Int) < ((i + 1 : Nat) : Int) := by omega
      have hc1 : ((i + 1 : Nat) : Int) = (i : Int) + 1 := by omega
      go_upto_region 16 with fail
      clear l0 l1 hil hil0
      go_wp2_with fail
      go_loopw [9] (fun x wr => ∃ (k : Nat), x = .int .i64 k ∧ k ≤ i ∧ Below w8.heap.size w8 wr) (fun x _ => i - (intOf x).toNat)
      case atStart => exact ⟨0, rfl, by omega, Below.refl _ _⟩
      case round =>
        obtain ⟨k, rfl, hk, hbr⟩ := hrel
        by_cases hlt : k < i
        · have hbk : (k : Int) + 1 ≤ 9223372036854775807 := by omega
          have hb68 := bel H8.out.1 hbr
          have y5 : wr.cell? ⟨Y, 5, none⟩ = some (.slice ae i ce) := (H6.out.1.next hb68).cell 5
          obtain ⟨_, _, hsl, -, -, her⟩ := H6.out.2.2.es
          simp only [Value.slice.injEq] at hsl
          obtain ⟨rfl, -, rfl⟩ := hsl
          obtain ⟨eb, eo, rfl, he⟩ := her.resolve_left (by rw [show (skG i).es.length = i from rowE_len i 0 2 1]; omega)
          obtain ⟨k0, k1, k2, -⟩ := eds_at he k (by rw [show (skG i).es.length = i from rowE_len i 0 2 1]; exact hlt)
          have hge := sk_get i k hlt
          have kk := keeps_below hb68
          rw [hge] at k0 k1 k2
          have m0 : wr.cell? ⟨eb, eo + k * 10, none⟩ = some (.int .i64 (ptN i k : Int)) := kk _ _ _ k0
          have m1 : wr.cell? ⟨eb, eo + k * 10 + 1, none⟩ = some (.int .i64 (ptN i (k + 1) : Int)) := kk _ _ _ k1
          have m2 : wr.cell? ⟨eb, eo + k * 10 + 2, none⟩ = some (.int .i64 1) := kk _ _ _ k2
          have n0 := keeps_below hbr _ _ _ (H8.out.2 k (by omega))
          have n1 := keeps_below hbr _ _ _ (H8.out.2 (k + 1) (by omega))
          obtain ⟨P0, hP0⟩ : ∃ p, (ptN i k : Int) = p := ⟨_, rfl⟩
          obtain ⟨P1, hP1⟩ : ∃ p, (ptN i (k + 1) : Int) = p := ⟨_, rfl⟩
          rw [hP0] at m0 n0
          rw [hP1] at m1 n1
          have hki : (k : Int) < (i : Int) := by omega
          have hkl : (k : Int) < ((i + 1 : Nat) : Int) := by omega
          have hkl1 : (k : Int) + 1 < ((i + 1 : Nat) : Int) := by omega
          have HBR := Lib.hid (And.intro hbr (And.intro hk hlt))
          clear hb68 her he k0 k1 k2 hge kk hP0 hP1 hbr hk
          go_upto_region 19 with fail
          go_cut [126] (fun s wx => s = .bool false ∧ Below w8.heap.size w8 wx)
          case first =>
            go_quiet (fail)
            go_wp2_with fail
            go_meet
            exact ⟨by simp, bel_drewN HBR.out.1 _⟩
          case rest =>
            obtain ⟨rfl, hb⟩ := hcut
            clear y5 m0 m1 m2 n0 n1 hki hkl hkl1
            go_wp2_with fail
            go_roundw
            case rel => exact ⟨k + 1, by go_num, by have := HBR.out.2.2; omega, hb⟩
            case measure => have := HBR.out.2.2; simp [intOf]; omega
        · obtain rfl : k = i := by omega
          go_wp2_with fail
          go_ret
          exact ⟨rfl, H6.out.2.1.trans ((bel H8.out.1 hbr).mono H6.out.2.1.size)⟩
end Go.Proofs.YtbhbmoppipohjaaGreatDoor
