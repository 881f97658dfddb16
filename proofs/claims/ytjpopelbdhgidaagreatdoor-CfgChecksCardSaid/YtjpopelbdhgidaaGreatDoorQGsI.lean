/-
  The document's graphs: Heads: proved is that it is the plain row of heads.
-/
import Derived.Test.YtjpopelbdhgidaaGreatDoorQGsG
/-
  The document's graphs: Reached, Order: proved is that they are the plain walk's.
-/
namespace Go.Proofs.YtjpopelbdhgidaaGreatDoor
open Go Go.RowKit Go.Maps

set_option maxRecDepth 100000 in
set_option maxHeartbeats 8000000 in
theorem sreached_any (g : Gf) (av aa ae : Option Addr) (cv ca ce n : Nat) (hn : g.pts = (n : Int)) (hn0 : 0 < n) (hn1 : n ≤ 4096) (hm : g.es.length ≤ 8192) (w : World) (hes : EdsAt w g.es (.slice ae g.es.length ce)) (hfr : ∀ e ∈ g.es, 0 ≤ e.fr ∧ e.fr < g.pts) (hto : ∀ e ∈ g.es, 0 ≤ e.dt ∧ e.dt < g.pts) :
    Calls Tryz.prog 19 #[grS g av cv aa ca ae ce] w (fun e w' => ∃ B, e = .returned (.slice (some ⟨B, 0, none⟩) n n) ∧ w.heap.size ≤ B ∧ w'.rowIs B 4 n (boolsV (walkG g).bg) ∧ Below w.heap.size w w') := by
  obtain ⟨W1, hW1⟩ : ∃ W1, w.alloc (.cells (grB g av cv aa ca ae ce) 30) = W1 := ⟨_, rfl⟩
  obtain ⟨X, hX⟩ : ∃ X, w.heap.size = X := ⟨_, rfl⟩
  have hx : Blk W1 X (grB g av cv aa ca ae ce) 30 := by rw [← hW1, ← hX]; exact Blk.new w _ _
  have hb1 : Below w.heap.size w W1 := by rw [← hW1]; exact (Below.refl _ w).alloc (Nat.le_refl _) _
  have HWK := Lib.hid (walk_any g av aa ae cv ca ce n hn hn0 hn1 hm W1 (hes.keep (keeps_below hb1)) hfr hto)
  have x0 := hx.cell 0
  have x1 := hx.cell 1
  have x2 := hx.cell 2
  have x3 := hx.cell 3
  have x4 := hx.cell 4
  have x5 := hx.cell 5
  simp only [grB, List.getElem?_toArray, List.getElem?_cons_zero, List.getElem?_cons_succ] at x0 x1 x2 x3 x4 x5
  have H1 := Lib.hid hb1
  have HE := Lib.hid (And.intro hW1 hX)
  clear hx hb1 hW1 hX hes hfr hto hn hn0 hn1 hm
  go_enter Tryz.func19, Tryz.ntmps19
  go_upto_region 1 with fail
  rw [HE.out.1, HE.out.2]
  go_wp2_with (first | (go_at_call 49; (with_reducible refine HWK.out.mono ?_); rintro e w3 ⟨V, B, dv, rfl, hB, ⟨q6, hv⟩, hbo, hdo, hb3⟩; have v7 : w3.cell? ⟨V, 7, none⟩ = some (.slice (some ⟨B, 0, none⟩) n n) := hv.cell 7; have H3 := Lib.hid (And.intro hB (And.intro hbo hb3)); clear hB hv hbo hdo hb3 x0 x1 x2 x3 x4 x5) | fail)
  go_ret
  exact ⟨B, rfl, Nat.le_trans H1.out.size H3.out.1, H3.out.2.1, bel H1.out H3.out.2.2⟩
theorem w64_in {n : Int} (h : -9223372036854775808 ≤ n ∧ n ≤ 9223372036854775807) : wrap64 n = n := by unfold wrap64; omega
theorem drop_rev (l : List Nat) (j : Nat) (h : j < l.length) : (l.drop j).reverse = (l.drop (j + 1)).reverse ++ [l[j]] := by
  rw [List.drop_eq_getElem_cons h, List.reverse_cons]
set_option maxRecDepth 100000 in
set_option maxHeartbeats 8000000 in
theorem sorder_any (g : Gf) (av aa ae : Option Addr) (cv ca ce n : Nat) (hn : g.pts = (n : Int)) (hn0 : 0 < n) (hn1 : n ≤ 4096) (hm : g.es.length ≤ 8192) (w : World) (hes : EdsAt w g.es (.slice ae g.es.length ce)) (hfr : ∀ e ∈ g.es, 0 ≤ e.fr ∧ e.fr < g.pts) (hto : ∀ e ∈ g.es, 0 ≤ e.dt ∧ e.dt < g.pts) :
    Calls Tryz.prog 21 #[grS g av cv aa ca ae ce] w (fun e w' => ∃ u, e = .returned u ∧ w'.ownsRow w.heap.size 3 1 u (orderG g).length (cellsN (orderG g)) ∧ Below w.heap.size w w') := by
  obtain ⟨W1, hW1⟩ : ∃ W1, w.alloc (.cells (grB g av cv aa ca ae ce) 30) = W1 := ⟨_, rfl⟩
  obtain ⟨X, hX⟩ : ∃ X, w.heap.size = X := ⟨_, rfl⟩
  have hx : Blk W1 X (grB g av cv aa ca ae ce) 30 := by rw [← hW1, ← hX]; exact Blk.new w _ _
  have hb1 : Below w.heap.size w W1 := by rw [← hW1]; exact (Below.refl _ w).alloc (Nat.le_refl _) _
  have HWK := Lib.hid (walk_any g av aa ae cv ca ce n hn hn0 hn1 hm W1 (hes.keep (keeps_below hb1)) hfr hto)
  have hgn : g.n = n := by unfold Gf.n; omega
  have hok := walkG_ok g (by omega)
  rw [hgn] at hok
  have hord : orderG g = (walkG g).dn.reverse ++ restT (walkG g) n := by unfold orderG; rw [hgn]
  rw [hord]
  obtain ⟨s, hs⟩ : ∃ s, walkG g = s := ⟨_, rfl⟩
  rw [hs] at HWK hok ⊢
  have HO := Lib.hid (And.intro hok (And.intro hn1 hn))
  have x0 := hx.cell 0
  have x1 := hx.cell 1
  have x2 := hx.cell 2
  have x3 := hx.cell 3
  have x4 := hx.cell 4
  have x5 := hx.cell 5
  simp only [grB, List.getElem?_toArray, List.getElem?_cons_zero, List.getElem?_cons_succ] at x0 x1 x2 x3 x4 x5
  have H1 := Lib.hid (And.intro hb1 hx)
  have HE := Lib.hid (And.intro hW1 hX)
  obtain ⟨i0, hi0, hz0, hz1, hz2⟩ := info_parts info_icell
  have HI0 := Lib.hid (And.intro hi0 (And.intro hz0 (And.intro hz1 hz2)))
  clear hx hb1 hW1 hX hes hfr hto hn hn0 hn1 hm hgn hok hord hs hi0 hz0 hz1 hz2
  go_enter Tryz.func21, Tryz.ntmps21
  go_upto_region 1 with fail
  rw [HE.out.1, HE.out.2]
  go_upto_region 2 with (first | (go_at_call 49; (with_reducible refine HWK.out.mono ?_); rintro e w3 ⟨V, B, dv, rfl, hB, ⟨q6, hv⟩, hbo, hdo, hb3⟩; have H3 := Lib.hid (And.intro hB (And.intro hbo (And.intro hb3 (And.intro hv hdo)))); clear hB hv hbo hdo hb3 x0 x1 x2 x3 x4 x5) | fail)
  obtain ⟨da, dc, hdv, -, -, hnum⟩ := NumsAt.own H3.out.2.2.2.2
  subst hdv
  obtain ⟨N, hN⟩ : ∃ N, s.dn.length = N := ⟨_, rfl⟩
  have hN1 : N ≤ 4096 := by have := HO.out.1.cnt; have := HO.out.2.1; omega
  have v8 : w3.cell? ⟨V, 8, none⟩ = some (.slice da N dc) := by rw [← hN]; exact H3.out.2.2.2.1.cell 8
  obtain ⟨H, hH⟩ : ∃ H, w3.heap.size = H := ⟨_, rfl⟩
  have hVH : V < H := by rw [← hH]; exact H3.out.2.2.2.1.lt
  have hBH : B < H := by rw [← hH]; exact H3.out.2.1.lt
  have hXH : X < H := by have h1 := H1.out.2.lt; have h2 := H3.out.2.2.1.size; omega
  have H4 := Lib.hid (And.intro hnum (And.intro hN (And.intro hN1 (And.intro hH (And.intro hVH (And.intro hBH hXH))))))
  clear hnum hN hN1 hH hVH hBH hXH
  go_wp2_with fail
  go_loopw [4, 5] (fun ov x wr => ∃ j : Nat, x = .int .i64 ((j : Int) - 1) ∧ j ≤ N ∧ wr.ownsRow H 3 1 ov (s.dn.drop j).reverse.length (cellsN (s.dn.drop j).reverse) ∧ Below H w3 wr) (fun _ x _ => (intOf x + 1).toNat)
  case atStart => exact ⟨N, by rw [w64_in (by have := H4.out.2.2.1; omega)], by omega, by rw [← H4.out.2.1, List.drop_length]; exact World.ownsRow_nil _ _ _ _, Below.refl _ _⟩
  case round =>
    obtain ⟨j, hx, hj, hov, hbr⟩ := hrel
    have hbr3 : Below w3.heap.size w3 wr := by rw [H4.out.2.2.2.1]; exact hbr
    clear v8
    cases j with
    | zero =>
      have hx2 : _ = Value.int .i64 (-1) := hx
      subst hx2
      have x3 : wr.cell? ⟨X, 3, none⟩ = some (.int .i64 (n : Int)) := by rw [← HO.out.2.2]; exact ((H1.out.2.next H3.out.2.2.1).next hbr3).cell 3
      have HOV := Lib.hid (And.intro hov hbr)
      have HN0 := Lib.hid HO.out.2.1
      obtain ⟨wy, hwy⟩ : ∃ x, x = wr := ⟨_, rfl⟩
      subst hwy
      clear hov hbr hbr3 hx hj
      go_wp2_with fail
      go_loopw [4, 6] (fun ov x wr => ∃ i : Nat, x = .int .i64 i ∧ i ≤ n ∧ wr.ownsRow H 3 1 ov (s.dn.reverse ++ restT s i).length (cellsN (s.dn.reverse ++ restT s i)) ∧ Below H w3 wr) (fun _ x _ => n - (intOf x).toNat)
      case atStart => exact ⟨0, rfl, by omega, by simpa [restT] using HOV.out.1, HOV.out.2⟩
      case round =>
        obtain ⟨i, rfl, hi, hov, hbr⟩ := hrel
        have hbr3 : Below w3.heap.size w3 wr := by rw [H4.out.2.2.2.1]; exact hbr
        have y3 : wr.cell? ⟨X, 3, none⟩ = some (.int .i64 (n : Int)) := by rw [← HO.out.2.2]; exact ((H1.out.2.next H3.out.2.2.1).next hbr3).cell 3
        have HOW := Lib.hid (And.intro hov hbr)
        clear x3
        by_cases hlt : i < n
        · have hbi : (i : Int) + 1 ≤ 9223372036854775807 := by have := HN0.out; omega
          have hii : (i : Int) < (n : Int) := by omega
          have v7 : wr.cell? ⟨V, 7, none⟩ = some (.slice (some ⟨B, 0, none⟩) n n) := (H3.out.2.2.2.1.next hbr3).cell 7
          have hbc : wr.cell? ⟨B, i, none⟩ = some (boolsV s.bg i) := (H3.out.2.1.of_block (hbr.block B H4.out.2.2.2.2.2.1)).cell hlt
          have hlen : (s.dn.reverse ++ restT s i).length ≤ 8192 := by
            rw [List.length_append, List.length_reverse]
            have h1 := H4.out.2.1
            have h2 : (restT s i).length ≤ i := by unfold restT; exact Nat.le_trans (List.length_filter_le _ _) (by simp)
            have := HN0.out
            have := H4.out.2.2.1
            omega
          have hrs := restT_succ s i
          have hgd : s.bg.getD i true = s.bg.getD i false := by
            have : i < s.bg.length := by rw [HO.out.1.len]; exact hlt
            rw [List.getD_eq_getElem?_getD, List.getD_eq_getElem?_getD, List.getElem?_eq_getElem this]
            rfl
          rw [hgd] at hrs
          unfold boolsV at hbc
          obtain ⟨b, hb⟩ : ∃ b, s.bg.getD i false = b := ⟨_, rfl⟩
          rw [hb] at hbc hrs
          obtain ⟨l, hl⟩ : ∃ l, s.dn.reverse ++ restT s i = l := ⟨_, rfl⟩
          rw [hl] at hov hlen HOW
          have hnx : s.dn.reverse ++ restT s (i + 1) = l ++ (if b = true then [] else [i]) := by rw [hrs, ← List.append_assoc, hl]
          obtain ⟨M, hM⟩ : ∃ N, l.length = N := ⟨_, rfl⟩
          rw [hM] at hov hlen HOW
          have HNX := Lib.hid (And.intro hnx hM)
          clear hov hbr hrs hgd hb hl hnx hM hbr3
          cases b with
          | true =>
            go_wp2_with fail
            go_roundw
            case rel => exact ⟨i + 1, by go_num, by omega, by rw [HNX.out.1]; simp only [if_true, List.append_nil]; rw [HNX.out.2]; exact HOW.out.1, HOW.out.2⟩
            case measure => simp [intOf]; omega
          | false =>
            have HNW := Lib.hid (World.news_of_block (cs := #[.int .i64 (i : Int)]) (t := 3) (fr := (0, 0)) (heap_alloc_new wr (.cells #[.int .i64 (i : Int)] 3)))
            have HSZ := Lib.hid (show H ≤ (wr.alloc (.cells #[.int .i64 (i : Int)] 3)).heap.size by rw [World.size_alloc]; have h1 := HOW.out.2.size; have h2 := H4.out.2.2.2.1; omega)
            have HNN := Lib.hid (And.intro (show M + 1 ≤ maxLen by unfold maxLen; omega) (show (M + 1) * 8 ≤ 140737488355328 by omega))
            clear hlen
            go_wp2_with (first | (at_builtin; (with_reducible refine wpList_append_lies _ rfl (.tmp 43) (.tmp 45) 44 rfl H 3 i0 _ 1 8 Tryz.underlying44 HI0.out.1 HI0.out.2.1 HI0.out.2.2.1 HI0.out.2.2.2 rfl (by omega) _ M (cellsN l) rfl (HOW.out.1.alloc _) ⟨_, 0, none⟩ 1 1 [.int .i64 (i : Int)] rfl rfl HNW.out (one_int _) (by omega) HNN.out.1 HNN.out.2 HSZ.out _ rfl ?_); (intro gg cap w6 hown6 hgrow hat hlt6)) | fail)
            go_roundw
            case rel =>
              refine ⟨i + 1, by go_num, by omega, ?_, ?_⟩
              · rw [HNX.out.1]
                simp only [Bool.false_eq_true, if_false]
                rw [List.length_append, HNX.out.2, cellsN_snoc]
                exact hown6
              · have h5 : Below H w3 (wr.alloc (.cells #[.int .i64 (i : Int)] 3)) := HOW.out.2.alloc (by have h1 := HOW.out.2.size; have h2 := H4.out.2.2.2.1; omega) _
                exact h5.grown hgrow HSZ.out (fun k hk => (HOW.out.1.lt k hk).1)
            case measure => simp [intOf]; omega
        · obtain rfl : i = n := by omega
          have hbw3 : Below w.heap.size w wr := bel (bel H1.out.1 H3.out.2.2.1) hbr3
          have HBW := Lib.hid hbw3
          clear hov hbr hbr3 hbw3
          go_wp2_with fail
          go_ret
          exact ⟨_, rfl, HOW.out.1.mono (by have h1 := H1.out.1.size; have h2 := H3.out.2.2.1.size; have h3 := H4.out.2.2.2.1; omega), HBW.out⟩
    | succ j =>
      have hx2 : _ = Value.int .i64 (j : Int) := hx.trans (by rw [show (((j + 1 : Nat) : Int) - 1) = (j : Int) by omega])
      subst hx2
      have hge : decide ((0 : Int) ≤ (j : Int)) = true := by simp
      have hji : (j : Int) < (N : Int) := by omega
      have hjl : j < s.dn.length := by have := H4.out.2.1; omega
      have v8 : wr.cell? ⟨V, 8, none⟩ = some (.slice da N dc) := by rw [← H4.out.2.1]; exact (H3.out.2.2.2.1.next hbr3).cell 8
      obtain ⟨gd, rfl, hds⟩ := (H4.out.1.keep (keeps_below hbr3)).resolve_left (by omega)
      have c0 := hds j hjl
      obtain ⟨Y, hY⟩ : ∃ y, s.dn[j] = y := ⟨_, rfl⟩
      rw [hY] at c0
      have hnx := drop_rev s.dn j hjl
      rw [hY] at hnx
      obtain ⟨l, hl⟩ : ∃ l, (s.dn.drop (j + 1)).reverse = l := ⟨_, rfl⟩
      have hlen : l.length ≤ 4096 := by rw [← hl, List.length_reverse, List.length_drop]; have := H4.out.2.2.1; have := H4.out.2.1; omega
      rw [hl] at hov hnx
      obtain ⟨M, hM⟩ : ∃ N, l.length = N := ⟨_, rfl⟩
      rw [hM] at hov hlen
      have HNX := Lib.hid (And.intro hnx hM)
      have HOV := Lib.hid (And.intro hov hbr)
      have HNW := Lib.hid (World.news_of_block (cs := #[.int .i64 (Y : Int)]) (t := 3) (fr := (0, 0)) (heap_alloc_new wr (.cells #[.int .i64 (Y : Int)] 3)))
      have HSZ := Lib.hid (show H ≤ (wr.alloc (.cells #[.int .i64 (Y : Int)] 3)).heap.size by rw [World.size_alloc]; have h1 := HOV.out.2.size; have h2 := H4.out.2.2.2.1; omega)
      have HNN := Lib.hid (And.intro (show M + 1 ≤ maxLen by unfold maxLen; omega) (show (M + 1) * 8 ≤ 140737488355328 by omega))
      have HJ := Lib.hid hj
      have hj1 : -9223372036854775808 ≤ (j : Int) - 1 := by omega
      clear hov hbr hbr3 hds hY hnx hl hlen hM hx hjl hj
      go_wp2_with (first | (at_builtin; (with_reducible refine wpList_append_lies _ rfl (.tmp 19) (.tmp 27) 44 rfl H 3 i0 _ 1 8 Tryz.underlying44 HI0.out.1 HI0.out.2.1 HI0.out.2.2.1 HI0.out.2.2.2 rfl (by omega) _ M (cellsN l) rfl (HOV.out.1.alloc _) ⟨_, 0, none⟩ 1 1 [.int .i64 (Y : Int)] rfl rfl HNW.out (one_int _) (by omega) HNN.out.1 HNN.out.2 HSZ.out _ rfl ?_); (intro gg cap w6 hown6 hgrow hat hlt6)) | fail)
      go_roundw
      case rel =>
        refine ⟨j, by rw [w64_in (by have := HJ.out; have := H4.out.2.2.1; omega)], by have := HJ.out; omega, ?_, ?_⟩
        · rw [HNX.out.1, List.length_append, HNX.out.2, cellsN_snoc]
          exact hown6
        · have h5 : Below H w3 (wr.alloc (.cells #[.int .i64 (Y : Int)] 3)) := HOV.out.2.alloc (by have h1 := HOV.out.2.size; have h2 := H4.out.2.2.2.1; omega) _
          exact h5.grown hgrow HSZ.out (fun k hk => (HOV.out.1.lt k hk).1)
      case measure => have := HJ.out; have := H4.out.2.2.1; rw [w64_in (by omega)]; simp [intOf]
end Go.Proofs.YtjpopelbdhgidaaGreatDoor

/-
  The document's graphs: Heads: proved is that it is the plain row of heads.
-/
namespace Go.Proofs.YtjpopelbdhgidaaGreatDoor
open Go Go.RowKit Go.Maps

def natsV (l : List Nat) (j : Nat) : Value := .int .i64 ((l.getD j 0 : Nat) : Int)
theorem natsV_set (l : List Nat) (p k : Nat) (hp : p < l.length) (j : Nat) : (if j = p then Value.int .i64 (k : Int) else natsV l j) = natsV (l.set p k) j := by
  unfold natsV
  by_cases h : j = p
  · subst h
    rw [if_pos rfl, List.getD_eq_getElem?_getD, List.getElem?_set_self hp]
    rfl
  · rw [if_neg h, List.getD_eq_getElem?_getD, List.getD_eq_getElem?_getD, List.getElem?_set_ne (fun e => h e.symm)]
theorem bools_same (l : List Bool) (p : Nat) (j : Nat) : boolsV l j = boolsV (l.set p (l.getD p false)) j := by
  unfold boolsV
  by_cases h : j = p
  · subst h
    rcases Nat.lt_or_ge j l.length with hp | hp
    · rw [List.getD_eq_getElem?_getD (l := l.set j _), List.getElem?_set_self hp]
      rfl
    · rw [List.set_eq_of_length_le hp]
  · rw [List.getD_eq_getElem?_getD (l := l.set p _), List.getElem?_set_ne (fun e => h e.symm), ← List.getD_eq_getElem?_getD]
theorem order_at (g : Gf) (h : 0 < g.n) (i : Nat) (hi : i < (orderG g).length) : (orderG g).getD i 0 = (orderG g)[i] ∧ (orderG g)[i] < g.n := ⟨by rw [List.getD_eq_getElem?_getD, List.getElem?_eq_getElem hi, Option.getD_some], orderG_lt g h _ (List.getElem_mem hi)⟩
set_option maxRecDepth 100000 in
set_option maxHeartbeats 8000000 in
theorem sheads_any (g : Gf) (av aa ae : Option Addr) (cv ca ce n : Nat) (hn : g.pts = (n : Int)) (hn0 : 0 < n) (hn1 : n ≤ 4096) (hm : g.es.length ≤ 8192) (w : World) (hes : EdsAt w g.es (.slice ae g.es.length ce)) (hfr : ∀ e ∈ g.es, 0 ≤ e.fr ∧ e.fr < g.pts) (hto : ∀ e ∈ g.es, 0 ≤ e.dt ∧ e.dt < g.pts) :
    Calls Tryz.prog 20 #[grS g av cv aa ca ae ce] w (fun e w' => ∃ u, e = .returned u ∧ w'.ownsRow w.heap.size 3 1 u (headsG g).length (cellsN (headsG g)) ∧ Below w.heap.size w w') := by
  obtain ⟨W1, hW1⟩ : ∃ W1, w.alloc (.cells (grB g av cv aa ca ae ce) 30) = W1 := ⟨_, rfl⟩
  obtain ⟨X, hX⟩ : ∃ X, w.heap.size = X := ⟨_, rfl⟩
  have hx : Blk W1 X (grB g av cv aa ca ae ce) 30 := by rw [← hW1, ← hX]; exact Blk.new w _ _
  have hb1 : Below w.heap.size w W1 := by rw [← hW1]; exact (Below.refl _ w).alloc (Nat.le_refl _) _
  obtain ⟨Hd, hHd⟩ : ∃ H, W1.heap.size = H := ⟨_, rfl⟩
  obtain ⟨W2, hW2⟩ : ∃ W2, W1.alloc (.cells (madeCells #[.bool false] n) 4) = W2 := ⟨_, rfl⟩
  have hbo : W2.rowIs Hd 4 n (fun _ => .bool false) := by rw [← hW2, ← hHd]; exact World.rowIs_made W1 (.bool false) n _
  have hb12 : Below W1.heap.size W1 W2 := by rw [← hW2]; exact (Below.refl _ W1).alloc (Nat.le_refl _) _
  have hx2 : Blk W2 X (grB g av cv aa ca ae ce) 30 := hx.next hb12
  have hb2 : Below w.heap.size w W2 := bel hb1 hb12
  have HOR := Lib.hid (sorder_any g av aa ae cv ca ce n hn hn0 hn1 hm W2 (hes.keep (keeps_below hb2)) hfr hto)
  have hgn : g.n = n := by unfold Gf.n; omega
  have a3 : W1.cell? ⟨X, 3, none⟩ = some (.int .i64 (n : Int)) := by rw [← hn]; exact hx.cell 3
  have x0 := hx2.cell 0
  have x1 := hx2.cell 1
  have x2 := hx2.cell 2
  have x3 := hx2.cell 3
  have x4 := hx2.cell 4
  have x5 := hx2.cell 5
  simp only [grB, List.getElem?_toArray, List.getElem?_cons_zero, List.getElem?_cons_succ] at x0 x1 x2 x3 x4 x5
  have HMB := fun w => run_make_row' 47 4 (.bool false) 1 (P := Tryz.prog) (by kernel_rfl) info_bool rfl .i64 .i64 n (by omega) (by omega) w
  have HMI := fun w => run_make_row' 44 3 (.int .i64 0) 8 (P := Tryz.prog) (by kernel_rfl) info_icell rfl .i64 .i64 n (by omega) (by omega) w
  obtain ⟨i0, hi0, hz0, hz1, hz2⟩ := info_parts info_icell
  have HI0 := Lib.hid (And.intro hi0 (And.intro hz0 (And.intro hz1 hz2)))
  have hol := orderG_len g (by omega)
  have hhd : headsG g = tgtT n g.es (orderG g) := by unfold headsG; rw [hgn]
  rw [hgn] at hol
  rw [hhd]
  obtain ⟨l, hl⟩ : ∃ l, orderG g = l := ⟨_, rfl⟩
  rw [hl] at HOR ⊢
  have hoa : ∀ i (hi : i < l.length), l.getD i 0 = l[i] ∧ l[i] < n := by
    rw [← hl]
    intro i hi
    have h := order_at g (by omega) i hi
    rw [hgn] at h
    exact h
  rw [hl] at hol
  rw [hol] at HOR
  have H1 := Lib.hid (And.intro hx2 (And.intro hbo (And.intro hb2 (And.intro hHd hb12))))
  have HE := Lib.hid (And.intro hW1 (And.intro hX (And.intro hW2 hHd)))
  have HG := Lib.hid (And.intro hn (And.intro hn0 (And.intro hn1 (And.intro hm (And.intro hes (And.intro hfr (And.intro hto (And.intro hol hoa))))))))
  clear hx hb1 hW1 hX hHd hW2 hbo hb12 hx2 hb2 hn hn0 hn1 hm hes hfr hto hgn hol hoa hhd hl hi0 hz0 hz1 hz2
  go_enter Tryz.func20, Tryz.ntmps20
  go_upto_region 1 with fail
  rw [HE.out.1, HE.out.2.1]
  go_upto_region 2 with fail
  rw [HE.out.2.2.1, HE.out.2.2.2]
  clear a3
  go_upto_region 3 with (first | (go_at_call 21; (with_reducible refine HOR.out.mono ?_); rintro e w3 ⟨u, rfl, hu, hb3⟩; have H3 := Lib.hid (And.intro hu hb3); clear hu hb3 x0 x1 x2 x3 x4 x5) | fail)
  obtain ⟨oa, oc, hou, -, -, hnum⟩ := NumsAt.own (l := l) (by rw [HG.out.2.2.2.2.2.2.2.1]; exact H3.out.1)
  rw [HG.out.2.2.2.2.2.2.2.1] at hou
  subst hou
  obtain ⟨A, hA⟩ : ∃ A, w3.heap.size = A := ⟨_, rfl⟩
  obtain ⟨W4, hW4⟩ : ∃ W4, w3.alloc (.cells (madeCells #[.int .i64 0] n) 3) = W4 := ⟨_, rfl⟩
  have hro : W4.rowIs A 3 n (fun _ => .int .i64 0) := by rw [← hW4, ← hA]; exact World.rowIs_made w3 (.int .i64 0) n _
  have hb34 : Below w3.heap.size w3 W4 := by rw [← hW4]; exact (Below.refl _ w3).alloc (Nat.le_refl _) _
  have hnum4 := hnum.keep (keeps_below hb34)
  have x3 : w3.cell? ⟨X, 3, none⟩ = some (.int .i64 (n : Int)) := by rw [← HG.out.1]; exact (H1.out.1.next H3.out.2).cell 3
  have hbo4 := (H1.out.2.1.of_block (H3.out.2.block Hd H1.out.2.1.lt)).of_block (hb34.block Hd (Nat.lt_of_lt_of_le H1.out.2.1.lt H3.out.2.size))
  have hx4 := (H1.out.1.next H3.out.2).next hb34
  have hb4 : Below w.heap.size w W4 := bel (bel H1.out.2.2.1 H3.out.2) hb34
  have hHA : Hd < A := by rw [← hA]; exact Nat.lt_of_lt_of_le H1.out.2.1.lt H3.out.2.size
  have hXA : X < A := by rw [← hA]; exact Nat.lt_of_lt_of_le H1.out.1.lt H3.out.2.size
  have hwH : w.heap.size ≤ Hd := by have := H1.out.2.2.2.1; have := HE.out.2.1; have h3 := congrArg (fun w => w.heap.size) HE.out.1; simp at h3; omega
  have H4 := Lib.hid (And.intro hro (And.intro hnum4 (And.intro hbo4 (And.intro hx4 (And.intro hb4 (And.intro hHA (And.intro hXA hwH)))))))
  have HE4 := Lib.hid (And.intro hW4 hA)
  have HN0 := Lib.hid HG.out.2.2.1
  clear hnum hA hW4 hro hb34 hnum4 hbo4 hx4 hb4 hHA hXA hwH HMB
  go_upto_region 4 with fail
  rw [HE4.out.1, HE4.out.2]
  clear x3 HMI
  go_wp2_with fail
  go_loopw [6] (fun x wr => ∃ i : Nat, x = .int .i64 i ∧ i ≤ n ∧ wr.rowIs A 3 n (natsV (atT n l i)) ∧ Only A W4 wr) (fun x _ => n - (intOf x).toNat)
  case atStart => exact ⟨0, rfl, by omega, H4.out.1.congr (fun j hj => by simp [natsV, atT, hj]), Only.refl _ _⟩
  case round =>
    obtain ⟨i, rfl, hi, hrw, ho⟩ := hrel
    have HR := Lib.hid (And.intro hrw ho)
    have hA4 : A < W4.heap.size := H4.out.1.lt
    by_cases hlt : i < n
    · have hbi : (i : Int) + 1 ≤ 9223372036854775807 := by have := HN0.out; omega
      have hii : (i : Int) < (n : Int) := by omega
      have hil : i < l.length := by rw [HG.out.2.2.2.2.2.2.2.1]; exact hlt
      obtain ⟨gd, rfl, hds⟩ := H4.out.2.1.resolve_left (by omega)
      have c0 := hds i hil
      have hgl := World.block_lt_of_cell? W4 _ c0
      simp only at hgl
      have hgA : gd ≠ A := fun e => by
        have h1 := H3.out.1.lt gd rfl
        have h2 := HE4.out.2
        omega
      have c1 : wr.cell? ⟨gd, i, none⟩ = some (.int .i64 (l[i] : Int)) := (World.cell?_of_block (w := W4) (a := ⟨gd, i, none⟩) (ho.block gd hgl hgA)).trans c0
      obtain ⟨hg1, hg2⟩ := HG.out.2.2.2.2.2.2.2.2 i hil
      obtain ⟨P, hP⟩ : ∃ P, l[i] = P := ⟨_, rfl⟩
      rw [hP] at c1 hg1 hg2
      have hPi : (P : Int) < (n : Int) := by omega
      have c2 := hrw.cell hg2
      have c3 := hrw.frozen P
      have HP := Lib.hid (And.intro hg1 hg2)
      clear hrw ho hds c0 hgl hgA hP hg1 hg2 hil hA4
      go_wp2_with fail
      go_roundw
      case rel =>
        refine ⟨i + 1, by go_num, by omega, (HR.out.1.set P (.int .i64 (i : Int))).congr (fun j _ => ?_), HR.out.2.setCell (p := ⟨A, P, none⟩) rfl _⟩
        rw [atT, HP.out.1]
        exact natsV_set _ P i (by rw [atT_len]; exact HP.out.2) j
      case measure => simp [intOf]; omega
    · obtain rfl : n = i := by omega
      obtain ⟨w5, hw5⟩ : ∃ x, x = wr := ⟨_, rfl⟩
      subst hw5
      have hX5 : Blk w5 X (grB g av cv aa ca ae ce) 30 := H4.out.2.2.2.1.only ho (by have := H4.out.2.2.2.2.2.2.1; omega)
      have hbo5 : w5.rowIs Hd 4 n (fun _ => .bool false) := H4.out.2.2.1.of_block (ho.block Hd H4.out.2.2.1.lt (by have := H4.out.2.2.2.2.2.1; omega))
      have hbw5 : Below w.heap.size w w5 := H4.out.2.2.2.2.1.trans ((ho.old (Nat.le_refl A) (Nat.le_of_lt hA4)).mono (by have h1 := H4.out.2.2.2.2.2.2.2; have h2 := H4.out.2.2.2.2.2.1; omega))
      obtain ⟨aT, haT⟩ : ∃ t, atT n l n = t := ⟨_, rfl⟩
      rw [haT] at hrw
      have hXH : X < Hd := by have h1 := H1.out.1.lt; have h2 := HE.out.2.1; have h3 := congrArg (fun w => w.heap.size) HE.out.1; have h4 := H1.out.2.2.2.1; simp at h3; omega
      have H5 := Lib.hid (And.intro hX5 (And.intro hbo5 (And.intro hbw5 (And.intro haT (And.intro hrw hXH)))))
      have HM0 := Lib.hid HG.out.2.2.2.1
      have x5 : w5.cell? ⟨X, 5, none⟩ = some (.slice ae g.es.length ce) := hX5.cell 5
      clear hX5 hbo5 hbw5 haT hrw hXH ho hA4
      go_wp2_with fail
      go_loopw [7] (fun x wr => ∃ k : Nat, x = .int .i64 k ∧ k ≤ g.es.length ∧ wr.rowIs Hd 4 n (boolsV (backT n aT g.es k)) ∧ Only Hd w5 wr) (fun x _ => g.es.length - (intOf x).toNat)
      case atStart => exact ⟨0, rfl, by omega, H5.out.2.1.congr (fun j hj => by simp [boolsV, backT, hj]), Only.refl _ _⟩
      case round =>
        obtain ⟨k, rfl, hk, hrw, ho⟩ := hrel
        have hxr : Blk wr X (grB g av cv aa ca ae ce) 30 := H5.out.1.only ho (by have := H5.out.2.2.2.2.2; omega)
        have y5 : wr.cell? ⟨X, 5, none⟩ = some (.slice ae g.es.length ce) := hxr.cell 5
        have hbw : Below w.heap.size w wr := H5.out.2.2.1.trans (ho.old H4.out.2.2.2.2.2.2.2 H5.out.2.2.1.size)
        have HR2 := Lib.hid (And.intro hrw (And.intro ho (And.intro hxr hbw)))
        clear x5
        by_cases hlt : k < g.es.length
        · have hbi : (k : Int) + 1 ≤ 9223372036854775807 := by have := HM0.out; omega
          have hii : (k : Int) < (g.es.length : Int) := by omega
          obtain ⟨b, o, rfl, hc⟩ := (HG.out.2.2.2.2.1.keep (keeps_below hbw)).row.resolve_left (by omega)
          obtain ⟨k0, k1, -⟩ := eds_at hc k hlt
          have hf := HG.out.2.2.2.2.2.1 g.es[k] (List.getElem_mem hlt)
          have ht := HG.out.2.2.2.2.2.2.1 g.es[k] (List.getElem_mem hlt)
          have hge : g.es.getD k noE = g.es[k] := by rw [List.getD_eq_getElem?_getD, List.getElem?_eq_getElem hlt, Option.getD_some]
          have hpt := HG.out.1
          obtain ⟨P, hP⟩ : ∃ P : Nat, g.es[k].fr = P := ⟨g.es[k].fr.toNat, by omega⟩
          obtain ⟨T, hT⟩ : ∃ T : Nat, g.es[k].dt = T := ⟨g.es[k].dt.toNat, by omega⟩
          rw [hP] at k0 hf
          rw [hT] at k1 ht
          have hPi : (P : Int) < (n : Int) := by omega
          have hTi : (T : Int) < (n : Int) := by omega
          have hTn : T < n := by omega
          have hrA : wr.rowIs A 3 n (natsV aT) := H5.out.2.2.2.2.1.of_block (ho.block A H5.out.2.2.2.2.1.lt (by have := H4.out.2.2.2.2.2.1; omega))
          have cP : wr.cell? ⟨A, P, none⟩ = some (natsV aT P) := hrA.cell (by omega)
          have cT : wr.cell? ⟨A, T, none⟩ = some (natsV aT T) := hrA.cell hTn
          unfold natsV at cP cT
          have hib : isBack aT g.es[k] = decide (((aT.getD T 0 : Nat) : Int) ≤ ((aT.getD P 0 : Nat) : Int)) := by
            unfold isBack
            rw [hP, hT, Int.toNat_natCast, Int.toNat_natCast]
            exact decide_eq_decide.2 (by omega)
          obtain ⟨u1, hu1⟩ : ∃ u : Int, ((aT.getD T 0 : Nat) : Int) = u := ⟨_, rfl⟩
          obtain ⟨u2, hu2⟩ : ∃ u : Int, ((aT.getD P 0 : Nat) : Int) = u := ⟨_, rfl⟩
          rw [hu2] at cP
          rw [hu1] at cT
          rw [hu1, hu2] at hib
          have hstep : backT n aT g.es (k + 1) = (backT n aT g.es k).set T ((backT n aT g.es k).getD T false || isBack aT g.es[k]) := by rw [backT, hge, hT, Int.toNat_natCast]
          have cB := hrw.cell hTn
          have fB := hrw.frozen T
          obtain ⟨D, hD⟩ : ∃ d, decide (u1 ≤ u2) = d := ⟨_, rfl⟩
          rw [hib, hD] at hstep
          have HS := Lib.hid (And.intro hstep hTn)
          clear hrw ho hxr hbw hc hf ht hge hpt hP hT hrA hib hu1 hu2 hstep hTn
          cases D with
          | true =>
            go_upto_region 11 with fail
            go_quiet (fail)
            go_wp2_with fail
            go_roundw
            case rel =>
              refine ⟨k + 1, by go_num, by omega, (HR2.out.1.set T (.bool true)).congr (fun j _ => ?_), (HR2.out.2.1.trans (Only.below (bel_drewN (Below.refl _ wr) _))).setCell (p := ⟨Hd, T, none⟩) rfl _⟩
              rw [HS.out.1, Bool.or_true]
              exact boolsV_set _ T (by rw [backT_len]; exact HS.out.2) j
            case measure => simp [intOf]; omega
          | false =>
            go_upto_region 11 with fail
            go_quiet (fail)
            go_wp2_with fail
            go_roundw
            case rel =>
              refine ⟨k + 1, by go_num, by omega, HR2.out.1.congr (fun j _ => ?_), HR2.out.2.1.trans (Only.below (bel_drewN (Below.refl _ wr) _))⟩
              rw [HS.out.1, Bool.or_false]
              exact bools_same _ T j
            case measure => simp [intOf]; omega
        · obtain rfl : k = g.es.length := by omega
          obtain ⟨bT, hbT⟩ : ∃ b, backT n aT g.es g.es.length = b := ⟨_, rfl⟩
          have hres : tgtT n g.es l = trueT bT n := by rw [← hbT, ← H5.out.2.2.2.1]; unfold tgtT; rw [HG.out.2.2.2.2.2.2.2.1]
          rw [hbT] at hrw
          obtain ⟨w6, hw6⟩ : ∃ x, x = wr := ⟨_, rfl⟩
          subst hw6
          obtain ⟨H, hH⟩ : ∃ H, w6.heap.size = H := ⟨_, rfl⟩
          have hHdH : Hd < H := by rw [← hH]; exact hrw.lt
          have hXH : X < H := by rw [← hH]; exact hxr.lt
          have hwH : w.heap.size ≤ H := by rw [← hH]; exact hbw.size
          have H6 := Lib.hid (And.intro hrw (And.intro hxr (And.intro hbw (And.intro hH (And.intro hHdH (And.intro hXH (And.intro hwH hres)))))))
          have y3 : w6.cell? ⟨X, 3, none⟩ = some (.int .i64 (n : Int)) := by rw [← HG.out.1]; exact hxr.cell 3
          clear hrw ho hxr hbw hH hHdH hXH hwH hres hbT
          go_wp2_with fail
          go_loopw [8, 9] (fun ov x wr => ∃ i : Nat, x = .int .i64 i ∧ i ≤ n ∧ wr.ownsRow H 3 1 ov (trueT bT i).length (cellsN (trueT bT i)) ∧ Below H w6 wr) (fun _ x _ => n - (intOf x).toNat)
          case atStart => exact ⟨0, rfl, by omega, by simpa [trueT, cellsN] using World.ownsRow_nil _ _ _ _, Below.refl _ _⟩
          case round =>
            obtain ⟨i, rfl, hi, hov, hbr⟩ := hrel
            have hbr6 : Below w6.heap.size w6 wr := by rw [H6.out.2.2.2.1]; exact hbr
            have z3 : wr.cell? ⟨X, 3, none⟩ = some (.int .i64 (n : Int)) := by rw [← HG.out.1]; exact (H6.out.2.1.next hbr6).cell 3
            have HOW := Lib.hid (And.intro hov hbr)
            clear y3
            by_cases hlt : i < n
            · have hbi : (i : Int) + 1 ≤ 9223372036854775807 := by have := HN0.out; omega
              have hii : (i : Int) < (n : Int) := by omega
              have hbc : wr.cell? ⟨Hd, i, none⟩ = some (boolsV bT i) := (H6.out.1.of_block (hbr.block Hd H6.out.2.2.2.2.1)).cell hlt
              have hnx := trueT_succ bT i
              have hlen := trueT_len bT i
              unfold boolsV at hbc
              obtain ⟨d, hd⟩ : ∃ b, bT.getD i false = b := ⟨_, rfl⟩
              rw [hd] at hbc hnx
              obtain ⟨r, hr⟩ : ∃ r, trueT bT i = r := ⟨_, rfl⟩
              rw [hr] at hov hlen HOW hnx
              obtain ⟨M, hM⟩ : ∃ N, r.length = N := ⟨_, rfl⟩
              rw [hM] at hov hlen HOW
              have HNX := Lib.hid (And.intro hnx hM)
              have HN1 := Lib.hid (show M + 1 ≤ maxLen ∧ (M + 1) * 8 ≤ 140737488355328 from ⟨by unfold maxLen; have := HN0.out; omega, by have := HN0.out; omega⟩)
              clear hov hbr hnx hd hr hM hbr6 hlen
              cases d with
              | false =>
                go_wp2_with fail
                go_roundw
                case rel => exact ⟨i + 1, by go_num, by omega, by rw [HNX.out.1]; simp only [Bool.false_eq_true, if_false, List.append_nil]; rw [HNX.out.2]; exact HOW.out.1, HOW.out.2⟩
                case measure => simp [intOf]; omega
              | true =>
                have HNW := Lib.hid (World.news_of_block (cs := #[.int .i64 (i : Int)]) (t := 3) (fr := (0, 0)) (heap_alloc_new wr (.cells #[.int .i64 (i : Int)] 3)))
                have HSZ := Lib.hid (show H ≤ (wr.alloc (.cells #[.int .i64 (i : Int)] 3)).heap.size by rw [World.size_alloc]; have h1 := HOW.out.2.size; have h2 := H6.out.2.2.2.1; omega)
                go_wp2_with (first | (at_builtin; (with_reducible refine wpList_append_lies _ rfl (.tmp 75) (.tmp 77) 44 rfl H 3 i0 _ 1 8 Tryz.underlying44 HI0.out.1 HI0.out.2.1 HI0.out.2.2.1 HI0.out.2.2.2 rfl (by omega) _ M (cellsN r) rfl (HOW.out.1.alloc _) ⟨_, 0, none⟩ 1 1 [.int .i64 (i : Int)] rfl rfl HNW.out (one_int _) (by omega) HN1.out.1 HN1.out.2 HSZ.out _ rfl ?_); (intro gg cap w7 hown6 hgrow hat hlt6)) | fail)
                go_roundw
                case rel =>
                  refine ⟨i + 1, by go_num, by omega, ?_, ?_⟩
                  · rw [HNX.out.1]
                    simp only [if_true]
                    rw [List.length_append, HNX.out.2, cellsN_snoc]
                    exact hown6
                  · have h5 : Below H w6 (wr.alloc (.cells #[.int .i64 (i : Int)] 3)) := HOW.out.2.alloc (by have h1 := HOW.out.2.size; have h2 := H6.out.2.2.2.1; omega) _
                    exact h5.grown hgrow HSZ.out (fun k hk => (HOW.out.1.lt k hk).1)
                case measure => simp [intOf]; omega
            · obtain rfl : n = i := by omega
              have HBW := Lib.hid (bel H6.out.2.2.1 hbr6)
              clear hov hbr hbr6
              go_wp2_with fail
              go_ret
              exact ⟨_, rfl, by rw [H6.out.2.2.2.2.2.2.2]; exact HOW.out.1.mono H6.out.2.2.2.2.2.2.1, HBW.out⟩
end Go.Proofs.YtjpopelbdhgidaaGreatDoor
