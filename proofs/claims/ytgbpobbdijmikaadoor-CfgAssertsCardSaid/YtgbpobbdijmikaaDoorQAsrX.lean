/-
  The statement's own walk: gnomonlaw9.CfgAsserts answers true for every program.
-/
import Derived.Test.YtgbpobbdijmikaaDoorQAsrW

namespace Go.Proofs.YtgbpobbdijmikaaDoor
open Go Go.RowKit Go.Maps

theorem cellsE_at : ∀ (l : List Ed) (i : Nat) (h : i < l.length), (cellsE l)[i * 10 + 2]? = some (.int .i64 l[i].kd)
  | [], i, h => by simp at h
  | x :: r, 0, _ => by simp [cellsE, edV]
  | x :: r, i + 1, h => by
    have := cellsE_at r i (by simpa using h)
    have e : cellsE (x :: r) = edV x ++ cellsE r := by simp [cellsE]
    rw [e, List.getElem?_append_right (by simp [edV]; omega)]
    have e2 : (i + 1) * 10 + 2 - (edV x).length = i * 10 + 2 := by simp [edV]; omega
    rw [e2]
    simpa using this
theorem cnt_take (k : Int) (l : List Ed) (i : Nat) (h : i < l.length) : cntE k (l.take (i + 1)) = cntE k (l.take i) + (if l[i].kd = k then 1 else 0) := by
  rw [← List.take_append_getElem h, cntE_snoc]
theorem cnt_le_take (k : Int) (l : List Ed) (i : Nat) : cntE k (l.take i) ≤ i := by
  unfold cntE
  exact Nat.le_trans List.countP_le_length (by rw [List.length_take]; exact Nat.min_le_left _ _)
theorem outF_len {nv tmp pts ne : Int} (h : outF nv tmp pts ne = 0) : ne ≤ 8192 := by
  unfold outF at h
  split at h
  · cases h
  · split at h
    · cases h
    · omega
theorem cfgF_ok {ds ss : List Nd} (h : cfgF ds ss = 0) : (wellP ds ss).2 = 0 ∧ outF (varsL ds).length (lowD ds ss).tmp (lowD ds ss).pts (lowD ds ss).eds.length = 0 := by
  unfold cfgF at h
  by_cases hz : (wellP ds ss).2 = 0
  · rw [if_neg (by simpa using hz)] at h
    exact ⟨hz, h⟩
  · rw [if_pos hz] at h
    exact absurd h hz
set_option maxRecDepth 100000 in
set_option maxHeartbeats 8000000 in
theorem asrt_law (ds ss : List Nd) (v0 v1 : Value) (w : World) (hd : SlIn w .D ds v0) (hs : SlIn w .S ss v1) (htab : TabK w) :
    Calls Tryd.prog 4 #[.agg #[v0, v1]] w (fun e w' => e = .returned (.bool true) ∧ Below w.heap.size w w') := by
  have hv0 : ∃ a c, v0 = .slice a ds.length c := by obtain ⟨a, c, h, -⟩ := hd; exact ⟨a, c, h⟩
  have hv1 : ∃ a c, v1 = .slice a ss.length c := by obtain ⟨a, c, h, -⟩ := hs; exact ⟨a, c, h⟩
  obtain ⟨a0, c0, rfl⟩ := hv0
  obtain ⟨a1, c1, rfl⟩ := hv1
  obtain ⟨X, hX⟩ : ∃ X, w.heap.size = X := ⟨_, rfl⟩
  obtain ⟨W1, hW1⟩ : ∃ W1, w.alloc (.cells #[.slice a0 ds.length c0, .slice a1 ss.length c1] 41) = W1 := ⟨_, rfl⟩
  have hx1 : Blk W1 X #[.slice a0 ds.length c0, .slice a1 ss.length c1] 41 := by rw [← hW1, ← hX]; exact Blk.new w _ _
  have hb1 : Below w.heap.size w W1 := by rw [← hW1]; exact (Below.refl _ w).alloc (Nat.le_refl _) _
  have HKN := Lib.hid (known9_any W1 (tab_below htab hb1))
  have HLW := Lib.hid (fun w2 (hb : Below W1.heap.size W1 w2) => Lower_any ds ss _ _ w2 (hd.keep (keeps_below (hb1.trans (hb.mono hb1.size)))) (hs.keep (keeps_below (hb1.trans (hb.mono hb1.size)))) (tab_below htab (hb1.trans (hb.mono hb1.size))))
  have HAS := Lib.hid (fun w2 (hb : Below w.heap.size w w2) hz => asserts_any _ ss (Nat.le_refl _) _ w w2 hs hb hz)
  have H1 := Lib.hid (And.intro hx1 hb1)
  have HE := Lib.hid (And.intro hW1 hX)
  have HIN := Lib.hid (fit_list hs)
  clear hx1 hb1 hd hs htab hW1 hX
  obtain ⟨F, hF⟩ : ∃ f, cfgF ds ss = f := ⟨_, rfl⟩
  have HF := Lib.hid hF
  unfold LowTo at HLW
  simp only [hF] at HLW
  clear hF
  by_cases hz : F = 0
  · subst hz
    obtain ⟨hwz, hoz⟩ := cfgF_ok HF.out
    obtain ⟨hc13, hc14⟩ := lowD_ct HIN.out hwz
    have hln := outF_len hoz
    have hsz := (prog_fm HIN.out hwz).2
    obtain ⟨S, hS⟩ : ∃ S, lowD ds ss = S := ⟨_, rfl⟩
    rw [hS] at hc13 hc14 hln
    simp only [hS] at HLW
    have HC := Lib.hid (And.intro hc13 (And.intro hc14 (And.intro hln hsz)))
    clear hwz hoz hc13 hc14 hln hsz hS
    go_enter Tryd.func4, Tryd.ntmps4
    go_upto_region 1 with fail
    rw [HE.out.1, HE.out.2]
    go_upto_region 3 with (first | (go_at_call 5; (with_reducible refine HKN.out.mono ?_); rintro e w2 ⟨rfl, hb2⟩; have HB2 := Lib.hid hb2; have x2 := (H1.out.1.next hb2).cell; have HLW2 := Lib.hid (HLW.out w2 hb2); clear hb2) | fail)
    go_upto_region 4 with (first | (go_at_call 6; (with_reducible refine HLW2.out.mono ?_); rintro e w3 ⟨u, rfl, hb3, hout, -⟩; obtain ⟨vv, va, ve, rfl, hv, ha, hee⟩ := hout True.intro; obtain ⟨av, cv, rfl⟩ := ownsRow_form hv; obtain ⟨aa, ca, rfl⟩ := ownsRow_form ha; obtain ⟨ae, ce, rfl⟩ := ownsRow_form hee; have HB3 := Lib.hid (And.intro hb3 hee); clear hb3 hv ha hee hout x2) | fail)
    have hx3 := (H1.out.1.next HB2.out).next HB3.out.1
    have hb3 : Below w.heap.size w w3 := (H1.out.2.trans (HB2.out.mono H1.out.2.size)).trans (HB3.out.1.mono (Nat.le_trans H1.out.2.size HB2.out.size))
    have hb4 := hb3.alloc hb3.size (.cells #[.slice av (varsL ds).length cv, .int .i64 S.tmp, .slice aa (arrsL ds).length ca, .int .i64 S.pts, .int .i64 S.ext, .slice ae S.eds.length ce] 30)
    have hx4 := hx3.alloc (.cells #[.slice av (varsL ds).length cv, .int .i64 S.tmp, .slice aa (arrsL ds).length ca, .int .i64 S.pts, .int .i64 S.ext, .slice ae S.eds.length ce] 30)
    have hg4 : Blk (w3.alloc (.cells #[.slice av (varsL ds).length cv, .int .i64 S.tmp, .slice aa (arrsL ds).length ca, .int .i64 S.pts, .int .i64 S.ext, .slice ae S.eds.length ce] 30)) w3.heap.size #[.slice av (varsL ds).length cv, .int .i64 S.tmp, .slice aa (arrsL ds).length ca, .int .i64 S.pts, .int .i64 S.ext, .slice ae S.eds.length ce] 30 := Blk.new w3 _ _
    have hrw := HB3.out.2.alloc (.cells #[.slice av (varsL ds).length cv, .int .i64 S.tmp, .slice aa (arrsL ds).length ca, .int .i64 S.pts, .int .i64 S.ext, .slice ae S.eds.length ce] 30)
    obtain ⟨W4, hW4⟩ : ∃ W, w3.alloc (.cells #[.slice av (varsL ds).length cv, .int .i64 S.tmp, .slice aa (arrsL ds).length ca, .int .i64 S.pts, .int .i64 S.ext, .slice ae S.eds.length ce] 30) = W := ⟨_, rfl⟩
    obtain ⟨G, hG⟩ : ∃ G, w3.heap.size = G := ⟨_, rfl⟩
    rw [hW4] at hb4 hx4 hg4 hrw
    rw [hG] at hg4
    rw [hW4, hG]
    have g5 : W4.cell? ⟨G, 5, none⟩ = some (.slice ae S.eds.length ce) := hg4.cell 5
    have x1 : W4.cell? ⟨X, 1, none⟩ = some (.slice a1 ss.length c1) := hx4.cell 1
    have HA4 := Lib.hid (HAS.out W4 hb4 (by have := HC.out.2.2.2; omega))
    have H4 := Lib.hid (And.intro hb4 hrw)
    have hbg : (S.eds.length : Int) ≤ 8192 := HC.out.2.2.1
    clear hx3 hb3 hb4 hx4 hg4 hrw hW4 hG
    go_upto_block 0 with fail
    go_wp2_with fail
    go_loopw [5, 6, 7] (fun p f x wr => ∃ (i : Nat), p = .int .i64 (cntE 13 (S.eds.take i) : Int) ∧ f = .int .i64 (cntE 14 (S.eds.take i) : Int) ∧ x = .int .i64 i ∧ i ≤ S.eds.length ∧ wr = W4) (fun _ _ x _ => S.eds.length - (intOf x).toNat)
    case atStart => exact ⟨0, by simp [cntE], by simp [cntE], rfl, by omega, rfl⟩
    case round =>
      obtain ⟨i, rfl, rfl, rfl, hi, rfl⟩ := hrel
      by_cases hlt : i < S.eds.length
      · have hbi : (i : Int) + 1 ≤ 9223372036854775807 := by omega
        obtain ⟨g, rfl⟩ : ∃ g, ae = some ⟨g, 0, none⟩ := by
          rcases H4.out.2.2 with ⟨h, h0⟩ | ⟨g, cap, cur, h, -⟩
          · omega
          · exact ⟨g, by cases h; rfl⟩
        have hcl := H4.out.2.cells (g := g) rfl (i * 10 + 2) _ (cellsE_at S.eds i hlt)
        rw [add_none, Nat.zero_add] at hcl
        have t13 := cnt_take 13 S.eds i hlt
        have t14 := cnt_take 14 S.eds i hlt
        have l13 := cnt_le_take 13 S.eds i
        have l14 := cnt_le_take 14 S.eds i
        obtain ⟨KD, hKD⟩ : ∃ k, S.eds[i].kd = k := ⟨_, rfl⟩
        obtain ⟨P, hP⟩ : ∃ n, cntE 13 (S.eds.take i) = n := ⟨_, rfl⟩
        obtain ⟨Q, hQ⟩ : ∃ n, cntE 14 (S.eds.take i) = n := ⟨_, rfl⟩
        obtain ⟨P2, hP2⟩ : ∃ n, cntE 13 (S.eds.take (i + 1)) = n := ⟨_, rfl⟩
        obtain ⟨Q2, hQ2⟩ : ∃ n, cntE 14 (S.eds.take (i + 1)) = n := ⟨_, rfl⟩
        rw [hKD] at hcl t13 t14
        rw [hP] at t13 l13 ⊢
        rw [hQ] at t14 l14 ⊢
        rw [hP2] at t13
        rw [hQ2] at t14
        have HPQ := Lib.hid (And.intro hP2 hQ2)
        have wp : (P : Int) + 1 ≤ 9223372036854775807 := by omega
        have wq : (Q : Int) + 1 ≤ 9223372036854775807 := by omega
        clear hKD hP hQ hP2 hQ2 l13 l14
        by_cases h13 : KD = 13
        · subst h13
          have HT := Lib.hid (And.intro (show P2 = P + 1 from t13) (show Q2 = Q from t14))
          clear t13 t14
          go_wp2_with fail
          go_roundw
          case rel => exact ⟨i + 1, by rw [HPQ.out.1, HT.out.1]; go_num, by rw [HPQ.out.2, HT.out.2], by go_num, by omega, trivial⟩
          case measure => simp [intOf]; omega
        · have e13 : (KD == 13) = false := by simpa using h13
          rw [if_neg h13] at t13
          by_cases h14 : KD = 14
          · subst h14
            have HT := Lib.hid (And.intro (show P2 = P from t13) (show Q2 = Q + 1 from t14))
            clear t13 t14 h13
            go_wp2_with fail
            go_roundw
            case rel => exact ⟨i + 1, by rw [HPQ.out.1, HT.out.1], by rw [HPQ.out.2, HT.out.2]; go_num, by go_num, by omega, trivial⟩
            case measure => simp [intOf]; omega
          · have e14 : (KD == 14) = false := by simpa using h14
            rw [if_neg h14] at t14
            have HT := Lib.hid (And.intro (show P2 = P from t13) (show Q2 = Q from t14))
            clear t13 t14 h13 h14
            go_wp2_with fail
            go_roundw
            case rel => exact ⟨i + 1, by rw [HPQ.out.1, HT.out.1], by rw [HPQ.out.2, HT.out.2], by go_num, by omega, trivial⟩
            case measure => simp [intOf]; omega
      · obtain rfl : i = S.eds.length := by omega
        rw [List.take_length, HC.out.1, HC.out.2.1]
        have tt : ((asL ss : Int) == (asL ss : Int)) = true := by simp
        go_wp2_with (first | (go_at_call 7; (with_reducible refine HA4.out.mono ?_); rintro e w5 ⟨rfl, hb5⟩; have HB5 := Lib.hid hb5; clear hb5) | fail)
        go_ret
        exact ⟨by simp, H4.out.1.trans (HB5.out.mono H4.out.1.size)⟩
  · have t1 : (F == 0) = false := by simpa using hz
    have t2 : (F != 0) = true := by simpa using hz
    have HZ := Lib.hid hz
    clear hz HAS
    go_enter Tryd.func4, Tryd.ntmps4
    go_upto_region 1 with fail
    rw [HE.out.1, HE.out.2]
    go_upto_region 3 with (first | (go_at_call 5; (with_reducible refine HKN.out.mono ?_); rintro e w2 ⟨rfl, hb2⟩; have HB2 := Lib.hid hb2; have x2 := (H1.out.1.next hb2).cell; have HLW2 := Lib.hid (HLW.out w2 hb2); clear hb2) | fail)
    go_upto_region 4 with (first | (go_at_call 6; (with_reducible refine HLW2.out.mono ?_); rintro e w3 ⟨u, rfl, hb3, -, hu⟩; have hu2 := hu HZ.out; unfold zeroG at hu2; subst hu2; have HB3 := Lib.hid hb3; clear hb3 hu x2) | fail)
    go_wp2_with fail
    go_ret
    have hb3 : Below w.heap.size w w3 := (H1.out.2.trans (HB2.out.mono H1.out.2.size)).trans (HB3.out.mono (Nat.le_trans H1.out.2.size HB2.out.size))
    exact ⟨rfl, hb3.alloc hb3.size _⟩
end Go.Proofs.YtgbpobbdijmikaaDoor
