/-
  The document's graphs: walk: proved is that it goes the plain walk of every graph that is one.
-/
import Derived.Test.YtjpopelbdhgidaaGreatDoorQGsD
import Derived.Test.YtjpopelbdhgidaaGreatDoorQGrJ
import Derived.Test.YtjpopelbdhgidaaGreatDoorQGrI
import Derived.Test.YtjpopelbdhgidaaGreatDoorQGrE
/-
  The document's graphs: Out, and the comparing of numbers: proved is what they tell.
-/
namespace Go.Proofs.YtjpopelbdhgidaaGreatDoor
open Go Go.RowKit Go.Maps

theorem NumsAt.own {w : World} {base : Nat} {l : List Nat} {v : Value} (h : w.ownsRow base 3 1 v l.length (cellsN l)) : ∃ a c, v = .slice a l.length c ∧ l.length ≤ c ∧ c ≤ maxLen ∧ NumsAt w l a := by
  obtain ⟨a, c, h1, h2, h3, h4⟩ := own_len h
  refine ⟨a, c, h1, h2, h3, h4.imp id ?_⟩
  rintro ⟨g, h5, -, -, h6⟩
  exact ⟨g, h5, fun i hi => h6 i _ (by simp [cellsN, hi])⟩
set_option maxRecDepth 100000 in
set_option maxHeartbeats 4000000 in
theorem ints_any (l : List Nat) (hl : l.length ≤ 1099511627776) (a b : Option Addr) (c d : Nat) (w : World) (ha : NumsAt w l a) (hb : NumsAt w l b) :
    Calls Tryz.prog 17 #[.slice a l.length c, .slice b l.length d] w (fun e w' => e = .returned (.bool true) ∧ Below w.heap.size w w') := by
  obtain ⟨n, hn⟩ : ∃ n, l.length = n := ⟨_, rfl⟩
  have HA := Lib.hid (And.intro ha (And.intro hb hn))
  rw [hn] at hl ⊢
  clear ha hb hn
  have hne : ((n : Int) != (n : Int)) = false := by simp
  go_enter Tryz.func17, Tryz.ntmps17
  go_wp2_with fail
  go_loopw [5] (fun x wr => ∃ i : Nat, x = .int .i64 i ∧ i ≤ n ∧ Below w.heap.size w wr) (fun x _ => n - (intOf x).toNat)
  case atStart => exact ⟨0, rfl, by omega, Below.refl _ _⟩
  case round =>
    obtain ⟨i, rfl, hi, hbr⟩ := hrel
    by_cases hlt : i < n
    · have hbi : (i : Int) + 1 ≤ 9223372036854775807 := by omega
      obtain ⟨ga, rfl, h1⟩ := (HA.out.1.keep (keeps_below hbr)).resolve_left (by have := HA.out.2.2; omega)
      obtain ⟨gb, rfl, h2⟩ := (HA.out.2.1.keep (keeps_below hbr)).resolve_left (by have := HA.out.2.2; omega)
      have k1 := h1 i (by have := HA.out.2.2; omega)
      have k2 := h2 i (by have := HA.out.2.2; omega)
      obtain ⟨x, hx⟩ : ∃ x, l[i]'(by have := HA.out.2.2; omega) = x := ⟨_, rfl⟩
      rw [hx] at k1 k2
      have hii : (i : Int) < (n : Int) := by omega
      have hxx : ((x : Int) != (x : Int)) = false := by simp
      have HBR := Lib.hid hbr
      clear h1 h2 hx hbr
      go_upto_region 6 with fail
      go_quiet (fail)
      go_wp2_with fail
      go_roundw
      case rel => exact ⟨i + 1, by go_num, by omega, bel_drewN HBR.out _⟩
      case measure => simp [intOf]; omega
    · obtain rfl : i = n := by omega
      have HBR := Lib.hid hbr
      clear hbr
      go_wp2_with fail
      go_ret
      exact ⟨rfl, HBR.out⟩
set_option maxRecDepth 100000 in
set_option maxHeartbeats 8000000 in
theorem sout_any (g : Gf) (p : Nat) (av aa ae : Option Addr) (cv ca ce : Nat) (w : World) (hes : EdsAt w g.es (.slice ae g.es.length ce)) (hm : g.es.length ≤ 8192) :
    Calls Tryz.prog 18 #[grS g av cv aa ca ae ce, .int .i64 (p : Int)] w (fun e w' => ∃ v, e = .returned v ∧ w'.ownsRow w.heap.size 3 1 v (outL g.es p).length (cellsN (outL g.es p)) ∧ Below w.heap.size w w') := by
  obtain ⟨W1, hW1⟩ : ∃ W1, w.alloc (.cells (grB g av cv aa ca ae ce) 30) = W1 := ⟨_, rfl⟩
  obtain ⟨X, hX⟩ : ∃ X, w.heap.size = X := ⟨_, rfl⟩
  have hx1 : Blk W1 X (grB g av cv aa ca ae ce) 30 := by rw [← hW1, ← hX]; exact Blk.new w _ _
  have hb1 : Below w.heap.size w W1 := by rw [← hW1]; exact (Below.refl _ w).alloc (Nat.le_refl _) _
  obtain ⟨i0, hi0, hz0, hz1, hz2⟩ := info_parts info_icell
  have HI0 := Lib.hid (And.intro hi0 (And.intro hz0 (And.intro hz1 hz2)))
  have hes1 := hes.keep (keeps_below hb1)
  obtain ⟨B, hB⟩ : ∃ B, W1.heap.size = B := ⟨_, rfl⟩
  have hXB : X < B := by rw [← hB]; exact hx1.lt
  have x5 : W1.cell? ⟨X, 5, none⟩ = some (.slice ae g.es.length ce) := hx1.cell 5
  have H1 := Lib.hid (And.intro hx1 (And.intro hb1 (And.intro hes1 (And.intro hB (And.intro hXB hm)))))
  have HE := Lib.hid (And.intro hW1 hX)
  clear hx1 hb1 hes1 hB hXB hes hi0 hz0 hz1 hz2 hW1 hX x5
  go_enter Tryz.func18, Tryz.ntmps18
  go_upto_region 1 with fail
  rw [HE.out.1, HE.out.2]
  go_wp2_with fail
  go_loopw [5, 6] (fun ov x wr => ∃ i : Nat, x = .int .i64 i ∧ i ≤ g.es.length ∧ wr.ownsRow B 3 1 ov (outT g.es i p).length (cellsN (outT g.es i p)) ∧ Below B W1 wr) (fun _ x _ => g.es.length - (intOf x).toNat)
  case atStart => exact ⟨0, rfl, by omega, by simpa [outT, cellsN] using World.ownsRow_nil _ _ _ _, Below.refl _ _⟩
  case round =>
    obtain ⟨i, rfl, hi, hov, hbr⟩ := hrel
    have hbw : Below w.heap.size w wr := H1.out.2.1.trans (hbr.mono (by have := HE.out.2; have := H1.out.2.2.2.2.1; omega))
    have hbr1 : Below W1.heap.size W1 wr := by rw [H1.out.2.2.2.1]; exact hbr
    have x5 : wr.cell? ⟨X, 5, none⟩ = some (.slice ae g.es.length ce) := (H1.out.1.next hbr1).cell 5
    have hesr := H1.out.2.2.1.keep (keeps_below hbr1)
    by_cases hlt : i < g.es.length
    · have hbi : (i : Int) + 1 ≤ 9223372036854775807 := by omega
      have hii : (i : Int) < (g.es.length : Int) := by omega
      obtain ⟨b, o, rfl, hc⟩ := hesr.row.resolve_left (by omega)
      obtain ⟨k0, -⟩ := eds_at hc i hlt
      have hmem : g.es.getD i noE = g.es[i] := by rw [List.getD_eq_getElem?_getD, List.getElem?_eq_getElem hlt, Option.getD_some]
      have hnx := outT_succ g.es i p
      rw [hmem] at hnx
      obtain ⟨f, hf⟩ : ∃ f, g.es[i].fr = f := ⟨_, rfl⟩
      rw [hf] at k0 hnx
      obtain ⟨l, hl⟩ : ∃ l, outT g.es i p = l := ⟨_, rfl⟩
      have hlen : l.length ≤ 8192 := by rw [← hl]; have := outT_len g.es i p; omega
      rw [hl] at hov hnx
      obtain ⟨N, hN⟩ : ∃ N, l.length = N := ⟨_, rfl⟩
      rw [hN] at hov hlen
      obtain ⟨c, hcc⟩ : ∃ c, (f == (p : Int)) = c := ⟨_, rfl⟩
      rw [hcc] at hnx
      have HNX := Lib.hid (And.intro hnx hN)
      have HOV := Lib.hid (And.intro hov hbr)
      clear hov hbr hbr1 hbw hesr hc hmem hnx hf hl hN hm
      cases c with
      | false =>
        go_wp2_with fail
        go_roundw
        case rel => exact ⟨i + 1, by go_num, by omega, by rw [HNX.out.1]; simp only [Bool.false_eq_true, if_false, List.append_nil]; rw [HNX.out.2]; exact HOV.out.1, HOV.out.2⟩
        case measure => simp [intOf]; omega
      | true =>
        have HNW := Lib.hid (World.news_of_block (cs := #[.int .i64 (i : Int)]) (t := 3) (fr := (0, 0)) (heap_alloc_new wr (.cells #[.int .i64 (i : Int)] 3)))
        have HSZ := Lib.hid (show B ≤ (wr.alloc (.cells #[.int .i64 (i : Int)] 3)).heap.size by rw [World.size_alloc]; have h1 := HOV.out.2.size; have h2 := H1.out.2.2.2.1; omega)
        have HNN := Lib.hid (And.intro (show N + 1 ≤ maxLen by unfold maxLen; omega) (show (N + 1) * 8 ≤ 140737488355328 by omega))
        clear hlen
        go_wp2_with (first | (at_builtin; (with_reducible refine wpList_append_lies _ rfl (.tmp 22) (.tmp 24) 44 rfl B 3 i0 _ 1 8 Tryz.underlying44 HI0.out.1 HI0.out.2.1 HI0.out.2.2.1 HI0.out.2.2.2 rfl (by omega) _ N (cellsN l) rfl (HOV.out.1.alloc _) ⟨_, 0, none⟩ 1 1 [.int .i64 (i : Int)] rfl rfl HNW.out (one_int _) (by omega) HNN.out.1 HNN.out.2 HSZ.out _ rfl ?_); (intro gg cap w6 hown6 hgrow hat hlt6)) | fail)
        go_roundw
        case rel =>
          refine ⟨i + 1, by go_num, by omega, ?_, ?_⟩
          · rw [HNX.out.1]
            simp only [if_true]
            rw [List.length_append, HNX.out.2, cellsN_snoc]
            exact hown6
          · have h5 : Below B W1 (wr.alloc (.cells #[.int .i64 (i : Int)] 3)) := HOV.out.2.alloc (by have h1 := HOV.out.2.size; have h2 := H1.out.2.2.2.1; omega) _
            exact h5.grown hgrow HSZ.out (fun k hk => (HOV.out.1.lt k hk).1)
        case measure => simp [intOf]; omega
    · obtain rfl : i = g.es.length := by omega
      have HOV := Lib.hid (And.intro hov hbw)
      clear hbr hov hbr1 hbw hesr
      go_wp2_with fail
      go_ret
      exact ⟨_, rfl, HOV.out.1.mono (by have := HE.out.2; have := H1.out.2.2.2.2.1; omega), HOV.out.2⟩
end Go.Proofs.YtjpopelbdhgidaaGreatDoor

/-
  The document's graphs: the walk's own function: proved is that it goes the plain walk.
-/
namespace Go.Proofs.YtjpopelbdhgidaaGreatDoor
open Go Go.RowKit Go.Maps

/-- The walk's block. -/
abbrev visB (K : Vk) (q0 q1 q2 q3 q4 dv : Value) : Array Value := #[q0, q1, q2, q3, q4, .slice K.ae K.es.length K.ce, .slice (some ⟨K.L, 0, none⟩) K.n K.n, .slice (some ⟨K.B, 0, none⟩) K.n K.n, dv]
/-- What no walk writes. -/
structure OldS (K : Vk) (w : World) : Prop where
  rows : ∀ p, p < K.n → ∃ a c, Cs K w K.L p (.slice a (outL K.es p).length c) ∧ ((outL K.es p).length = 0 ∨ ∃ g, a = some ⟨g, 0, none⟩ ∧ ∀ i (hi : i < (outL K.es p).length), Cs K w g i (.int .i64 ((outL K.es p)[i] : Int)))
  es : K.es.length = 0 ∨ ∃ b o, K.ae = some ⟨b, o, none⟩ ∧ ∀ i (hi : i < K.es.length), Cs K w b (o + i * 10 + 1) (.int .i64 K.es[i].dt)
theorem OldS.fv {K : Vk} {w w' : World} (h : OldS K w) (hf : Fv K w w') : OldS K w' where
  rows := fun p hp => by
    obtain ⟨a, c, h1, h2⟩ := h.rows p hp
    exact ⟨a, c, h1.fv hf, h2.imp id fun ⟨g, h3, h4⟩ => ⟨g, h3, fun i hi => (h4 i hi).fv hf⟩⟩
  es := h.es.imp id fun ⟨b, o, h1, h2⟩ => ⟨b, o, h1, fun i hi => (h2 i hi).fv hf⟩
/-- A walk in memory. -/
structure VsS (K : Vk) (q0 q1 q2 q3 q4 : Value) (w : World) (s : Vs) : Prop where
  b : w.rowIs K.B 4 K.n (boolsV s.bg)
  d : ∃ dv, Blk w K.Db (visB K q0 q1 q2 q3 q4 dv) 108 ∧ w.ownsRow K.B1 3 1 dv s.dn.length (cellsN s.dn)
  size : K.B1 ≤ w.heap.size
theorem Fv.drewN {K : Vk} {a b : World} (h : Fv K a b) (n : Nat) : Fv K a (b.drewN n) := ⟨h.os, h.tape, h.output, h.size, h.block⟩
theorem VsS.drewN {K : Vk} {q0 q1 q2 q3 q4 : Value} {w : World} {s : Vs} (h : VsS K q0 q1 q2 q3 q4 w s) (n : Nat) : VsS K q0 q1 q2 q3 q4 (w.drewN n) s := by
  obtain ⟨dv, h1, h2⟩ := h.d
  exact ⟨h.b, ⟨dv, h1, h2⟩, h.size⟩
theorem VsS.start {K : Vk} {q0 q1 q2 q3 q4 : Value} {w : World} {s : Vs} (hk : K.ok) (h : VsS K q0 q1 q2 q3 q4 w s) (hl : s.bg.length = K.n) {p : Nat} (hp : p < K.n) : VsS K q0 q1 q2 q3 q4 (w.setCell ⟨K.B, p, none⟩ (.bool true)) (s.start p) ∧ Fv K w (w.setCell ⟨K.B, p, none⟩ (.bool true)) := by
  have ho : Only K.B w (w.setCell ⟨K.B, p, none⟩ (.bool true)) := (Only.refl K.B w).setCell (p := ⟨K.B, p, none⟩) rfl _
  refine ⟨⟨(h.b.set p (.bool true)).congr (fun j _ => boolsV_set s.bg p (by omega) j), ?_, Nat.le_trans h.size ho.size⟩, Fv.only ho (.inl rfl) h.size⟩
  obtain ⟨dv, h1, h2⟩ := h.d
  exact ⟨dv, h1.only ho (fun e => hk.bd e.symm), ownsRow_only h2 ho hk.b1⟩
/-- A point is done: the row grew, and is stored. -/
theorem VsS.fin {K : Vk} {q0 q1 q2 q3 q4 : Value} {w w1 w2 : World} {s : Vs} (hk : K.ok) (h : VsS K q0 q1 q2 q3 q4 w s) (h1 : Below w.heap.size w w1) {p : Nat} {dv v' : Value} (hd : Blk w K.Db (visB K q0 q1 q2 q3 q4 dv) 108) (hdo : w.ownsRow K.B1 3 1 dv s.dn.length (cellsN s.dn)) (hown : w2.ownsRow K.B1 3 1 v' (s.dn.length + 1) (cellsN s.dn ++ [.int .i64 (p : Int)])) (hg : w1.grownBy w2 dv.ownBlock) :
    VsS K q0 q1 q2 q3 q4 (w2.setCell ⟨K.Db, 8, none⟩ v') (s.fin p) ∧ Fv K w (w2.setCell ⟨K.Db, 8, none⟩ v') := by
  have hB1 := h.size
  have h1s := h1.size
  have hb2 : Below K.B1 w w2 := (h1.mono hB1).grown hg (Nat.le_trans hB1 h1s) (fun k hk => (hdo.lt k hk).1)
  have ho : Only K.Db w2 (w2.setCell ⟨K.Db, 8, none⟩ v') := (Only.refl K.Db w2).setCell (p := ⟨K.Db, 8, none⟩) rfl _
  have hs2 : K.B1 ≤ w2.heap.size := Nat.le_trans hB1 hb2.size
  refine ⟨⟨?_, ⟨v', (hd.below hb2 hk.d1).set 8 v', ?_⟩, Nat.le_trans hs2 ho.size⟩, (Fv.below hb2).trans (Fv.only ho (.inr rfl) hs2)⟩
  · exact (h.b.of_block (hb2.block K.B hk.b1)).of_block (ho.block K.B (Nat.lt_of_lt_of_le hk.b1 hs2) hk.bd)
  · show (w2.setCell ⟨K.Db, 8, none⟩ v').ownsRow K.B1 3 1 v' (s.dn ++ [p]).length (cellsN (s.dn ++ [p]))
    rw [List.length_append, cellsN_snoc]
    exact ownsRow_setCell_below hown hk.d1 _
def AtC (K : Vk) (q0 q1 q2 q3 q4 : Value) (f : Nat) : Prop := ∀ (p k : Nat) (s : Vs) (w : World), OldS K w → VsS K q0 q1 q2 q3 q4 w s → Vok K.n k s → s.bg.getD p true = false → s.un ≤ f →
  Calls Tryz.prog 76 #[.pointer (some ⟨K.Db, 0, none⟩), .int .i64 (p : Int)] w (fun e w' => e = .returned (.tuple #[]) ∧ Fv K w w' ∧ VsS K q0 q1 q2 q3 q4 w' (dfs (sucG K.es) f p s))
set_option maxRecDepth 100000 in
set_option maxHeartbeats 8000000 in
theorem at_step (K : Vk) (q0 q1 q2 q3 q4 : Value) (hk : K.ok) (f : Nat) (ih : AtC K q0 q1 q2 q3 q4 f) : AtC K q0 q1 q2 q3 q4 (f + 1) := by
  intro p k s w hold hv hok hp hu
  have hpn : p < K.n := begun_lt hok.len hp
  have hpi : (p : Int) < (K.n : Int) := by omega
  obtain ⟨hst, hfst⟩ := hv.start hk hok.len hpn
  obtain ⟨hok1, hun1⟩ := hok.start hp
  obtain ⟨W1, hW1⟩ : ∃ W1, w.setCell ⟨K.B, p, none⟩ (.bool true) = W1 := ⟨_, rfl⟩
  rw [hW1] at hst hfst
  have hold1 := hold.fv hfst
  obtain ⟨dv0, hd0, -⟩ := hv.d
  have c1 : w.cell? ⟨K.Db, 7, none⟩ = some (.slice (some ⟨K.B, 0, none⟩) K.n K.n) := hd0.cell 7
  have hb0 : w.cell? ⟨K.B, p, none⟩ = some (boolsV s.bg p) := hv.b.cell hpn
  have hbf := hv.b.frozen p
  obtain ⟨a, c, hr, hrow⟩ := hold1.rows p hpn
  obtain ⟨S1, hS1⟩ : ∃ s1, s.start p = s1 := ⟨_, rfl⟩
  rw [hS1] at hst hok1 hun1
  have hlen : (outL K.es p).length ≤ 8192 := Nat.le_trans (outT_len _ _ _) hk.nE
  have H0 := Lib.hid (And.intro hst (And.intro hfst (And.intro hold1 (And.intro hok1 (And.intro (show S1.un ≤ f by omega) (And.intro hS1 hW1))))))
  have HR := Lib.hid (And.intro hrow hr)
  have HL := Lib.hid hlen
  have HK := Lib.hid hk
  have HIH := Lib.hid ih
  clear hst hfst hold1 hok1 hun1 hr hrow hlen hk ih hold hv hok hp hu hS1 hW1 hd0
  go_enter Tryz.func76, Tryz.ntmps76
  go_upto_region 1 with fail
  rw [H0.out.2.2.2.2.2.2]
  clear c1 hb0 hbf
  go_wp2_with fail
  go_loopw [4] (fun x wr => ∃ (i : Nat), x = .int .i64 i ∧ i ≤ (outL K.es p).length ∧ VsS K q0 q1 q2 q3 q4 wr (dfsL (sucG K.es) f ((sucG K.es p).take i) S1) ∧ Fv K W1 wr) (fun x _ => (outL K.es p).length - (intOf x).toNat)
  case atStart => exact ⟨0, rfl, by omega, H0.out.1, Fv.refl _ _⟩
  case round =>
    obtain ⟨i, rfl, hi, hvi, hfi⟩ := hrel
    have HI := Lib.hid (And.intro hvi hfi)
    have hol := H0.out.2.2.1.fv hfi
    have hoki := dfsL_ok (sucG K.es) K.n f ((sucG K.es p).take i) S1 (k + 1) H0.out.2.2.2.1 H0.out.2.2.2.2.1
    obtain ⟨SI, hSI⟩ : ∃ s, dfsL (sucG K.es) f ((sucG K.es p).take i) S1 = s := ⟨_, rfl⟩
    rw [hSI] at hvi hoki
    obtain ⟨dv, hd1, hd2⟩ := hvi.d
    have v5 : wr.cell? ⟨K.Db, 5, none⟩ = some (.slice K.ae K.es.length K.ce) := hd1.cell 5
    have v6 : wr.cell? ⟨K.Db, 6, none⟩ = some (.slice (some ⟨K.L, 0, none⟩) K.n K.n) := hd1.cell 6
    have v7 : wr.cell? ⟨K.Db, 7, none⟩ = some (.slice (some ⟨K.B, 0, none⟩) K.n K.n) := hd1.cell 7
    have d3 := (HR.out.2.fv hfi).get
    by_cases hlt : i < (outL K.es p).length
    · have hbi : (i : Int) + 1 ≤ 9223372036854775807 := by have := HL.out; omega
      have hii : (i : Int) < ((outL K.es p).length : Int) := by omega
      obtain ⟨gg, rfl, hit⟩ := HR.out.1.resolve_left (by omega)
      have hit2 := ((hit i hlt).fv hfi).get
      have hstep := suc_take K.es p i hlt
      have hjl : (outL K.es p)[i] < K.es.length := (outT_lt (List.getElem_mem hlt)).1
      obtain ⟨J, hJ⟩ : ∃ j, (outL K.es p)[i] = j := ⟨_, rfl⟩
      rw [hJ] at hit2 hstep hjl
      obtain ⟨T, hT, hTn⟩ := HK.out.tw J hjl
      rw [hT] at hstep
      have hge : K.es.getD J noE = K.es[J] := by rw [List.getD_eq_getElem?_getD, List.getElem?_eq_getElem hjl, Option.getD_some]
      rw [hge] at hT
      obtain ⟨eb, eo, hae, hed⟩ := hol.es.resolve_left (by omega)
      have hed2 := (hed J hjl).get
      rw [hT] at hed2
      rw [hae] at v5
      have hbc : wr.cell? ⟨K.B, T, none⟩ = some (boolsV SI.bg T) := hvi.b.cell hTn
      have hJi : (J : Int) < (K.es.length : Int) := by omega
      have hTi : (T : Int) < (K.n : Int) := by omega
      obtain ⟨b, hb⟩ : ∃ b, SI.bg.getD T false = b := ⟨_, rfl⟩
      have hbt : SI.bg.getD T true = b := by
        have hTl : T < SI.bg.length := by rw [hoki.1.len]; exact hTn
        rw [← hb, List.getD_eq_getElem?_getD, List.getD_eq_getElem?_getD, List.getElem?_eq_getElem hTl]
        rfl
      unfold boolsV at hbc
      rw [hb] at hbc
      have hnext : dfsL (sucG K.es) f ((sucG K.es p).take (i + 1)) S1 = if b = true then SI else dfs (sucG K.es) f T SI := by
        rw [hstep, show ((T : Int)).toNat = T by omega, dfsL_snoc, hSI, hbt]
      have HC := Lib.hid (fun m => HIH.out T (k + 1) SI (wr.drewN m) (hol.fv ((Fv.refl K wr).drewN m)) (hvi.drewN m) hoki.1)
      have HN := Lib.hid (And.intro hnext (And.intro hvi (And.intro hfi (And.intro hbt (And.intro hoki.2 hlt)))))
      clear hit hstep hjl hJ hT hge hol hed hvi hfi hoki hSI hb hbt hnext hTn hd1 hd2
      cases b with
      | true =>
        go_upto_region 4 with fail
        go_quiet (fail)
        go_wp2_with fail
        go_roundw
        case rel => exact ⟨i + 1, by go_num, by have := HN.out.2.2.2.2.2; omega, by rw [HN.out.1]; exact HN.out.2.1.drewN _, HN.out.2.2.1.drewN _⟩
        case measure => have := HN.out.2.2.2.2.2; simp [intOf]; omega
      | false =>
        have HC2 := Lib.hid (fun m => HC.out m HN.out.2.2.2.1 (by have := HN.out.2.2.2.2.1; have := H0.out.2.2.2.2.1; omega))
        go_upto_region 4 with fail
        go_quiet (fail)
        go_wp2_with (first | (go_at_call 76; (with_reducible refine (HC2.out _).mono ?_); rintro e w2 ⟨rfl, hf2, hv2⟩) | fail)
        go_roundw
        case rel => exact ⟨i + 1, by go_num, by have := HN.out.2.2.2.2.2; omega, by rw [HN.out.1]; exact hv2, (HN.out.2.2.1.drewN _).trans hf2⟩
        case measure => have := HN.out.2.2.2.2.2; simp [intOf]; omega
    · obtain rfl : i = (outL K.es p).length := by omega
      have htk : (sucG K.es p).take (outL K.es p).length = sucG K.es p := by rw [← suc_len, List.take_length]
      rw [htk] at hSI
      have cd : wr.cell? ⟨K.Db, 8, none⟩ = some dv := hd1.cell 8
      have hN : SI.dn.length ≤ 4096 := by have := hoki.1.cnt; have := HK.out.few; omega
      obtain ⟨N, hNN⟩ : ∃ N, SI.dn.length = N := ⟨_, rfl⟩
      have hd3 := hd2
      rw [hNN] at hd3 hN
      obtain ⟨i0, hi0, hz0, hz1, hz2⟩ := info_parts info_icell
      have HI0 := Lib.hid (And.intro hi0 (And.intro hz0 (And.intro hz1 hz2)))
      have HD3 := Lib.hid hd3
      have HNW := Lib.hid (World.news_of_block (cs := #[.int .i64 (p : Int)]) (t := 3) (fr := (0, 0)) (heap_alloc_new wr (.cells #[.int .i64 (p : Int)] 3)))
      have HSZ := Lib.hid (show K.B1 ≤ (wr.alloc (.cells #[.int .i64 (p : Int)] 3)).heap.size by rw [World.size_alloc]; have := hvi.size; omega)
      have hn1 : N + 1 ≤ maxLen := by unfold maxLen; omega
      have hn2 : (N + 1) * 8 ≤ 140737488355328 := by omega
      have HNN := Lib.hid (And.intro hn1 hn2)
      have HF := Lib.hid (And.intro hvi (And.intro hd1 (And.intro hd2 (And.intro hNN (And.intro hSI (And.intro hfi (And.intro HK.out.d1 (hvi.size))))))))
      clear hd3 hi0 hz0 hz1 hz2 hn1 hn2 hvi hd1 hd2 hNN hSI hfi hol hoki hN hlt hi
      go_wp2_with (first | (at_builtin; (with_reducible refine wpList_append_lies _ rfl (.tmp 57) (.tmp 59) 44 rfl K.B1 3 i0 _ 1 8 Tryz.underlying44 HI0.out.1 HI0.out.2.1 HI0.out.2.2.1 HI0.out.2.2.2 rfl (by omega) dv N (cellsN SI.dn) rfl (HD3.out.alloc _) ⟨_, 0, none⟩ 1 1 [.int .i64 (p : Int)] rfl rfl HNW.out (one_int _) (by omega) HNN.out.1 HNN.out.2 HSZ.out _ rfl ?_); (intro g3 cap w3 hown3 hgrow hat hlt3); have e0 : w3.cell? ⟨K.Db, 8, none⟩ = some dv := (blk_grown (HF.out.2.1.alloc _) hgrow (fun e => by have := (HD3.out.lt _ e).1; have := HF.out.2.2.2.2.2.2.1; omega)).cell 8; have e1 : w3.frozen? ⟨K.Db, 8, none⟩ = false := (blk_grown (HF.out.2.1.alloc _) hgrow (fun e => by have := (HD3.out.lt _ e).1; have := HF.out.2.2.2.2.2.2.1; omega)).free 8) | fail)
      go_end0
      obtain ⟨hvi, hd1, hd2, hNN, hSI, hfi, -, -⟩ := HF.out
      obtain ⟨hv3, hf3⟩ := hvi.fin HK.out (w1 := wr.alloc (.cells #[.int .i64 (p : Int)] 3)) ((Below.refl _ wr).alloc (Nat.le_refl _) _) (p := p) hd1 hd2 (v' := .slice (some ⟨g3, 0, none⟩) (N + 1) cap) (by rw [hNN]; exact hown3) hgrow
      refine ⟨rfl, (H0.out.2.1.trans hfi).trans hf3, ?_⟩
      rw [dfs_succ, H0.out.2.2.2.2.2.1, hSI]
      exact hv3
theorem at_any (K : Vk) (q0 q1 q2 q3 q4 : Value) (hk : K.ok) : ∀ f, AtC K q0 q1 q2 q3 q4 f
  | 0 => fun p k s w _ _ _ hp hu => by
    have := un_pos hp
    omega
  | f + 1 => at_step K q0 q1 q2 q3 q4 hk f (at_any K q0 q1 q2 q3 q4 hk f)
end Go.Proofs.YtjpopelbdhgidaaGreatDoor

/-
  A region that draws its order and makes a row grow: proved is that it ends with each operation's value in its place, whatever its order, where one value (the grown row) is known only when its operation has come up, and what has come of memory is told by what has come up; the last operation stores.
-/
namespace Go.Proofs.YtjpopelbdhgidaaGreatDoor
open Go Go.RowKit

theorem wpAny_grow {P : Program} {ops : Array Oper} {Q : Exit → Act → World → Prop} {md : Region.Mode} {a : Act} {w : World} (ds : List Tmp) (vs : Value → Nat → Value) (J : Array Bool → Value → World → Prop) (ia : Nat) (R0 : Value) (hn : ops.size = ds.length + 1) (hvs : ∀ R R' j, j ≠ ia → vs R j = vs R' j)
    (hord : ((List.range ops.size).all fun j => ((ops[j]?).map (fun o => o.after.all fun e => decide (e.on < j))).getD true) = true) (hnd : ds.Nodup) (hsz : (ds.all fun t => decide (t < a.tmps.size)) = true)
    (hstep : ∀ i o, ops[i]? = some o → i < ds.length → ∀ (l : Array Bool) (R : Value) (aa : Act), l.size = ops.size → l.getD i true = false → (∀ e ∈ o.after, Region.binds md e = true → l.getD e.on false = true) → (∀ e ∈ o.after, Region.binds md e = true → aa.tmps[ds.getD e.on 0]? = some (vs R e.on)) → (∀ t, t ∉ ds → aa.tmps[t]? = a.tmps[t]?) → ∀ w', J l R w' → wpOp P ops Q i (fun a' w2 => ∃ R', (i ≠ ia → R' = R) ∧ a' = aa.put (some (ds.getD i 0)) (vs R' i) ∧ J (l.setIfInBounds i true) R' w2) aa w')
    (hlast : ∀ o, ops[ds.length]? = some o → ∀ (l : Array Bool) (R : Value) (aa : Act), l.size = ops.size → l.getD ds.length true = false → (∀ e ∈ o.after, Region.binds md e = true → l.getD e.on false = true) → (∀ e ∈ o.after, Region.binds md e = true → aa.tmps[ds.getD e.on 0]? = some (vs R e.on)) → (∀ t, t ∉ ds → aa.tmps[t]? = a.tmps[t]?) → ∀ w', J l R w' → wpOp P ops Q ds.length (fun a' w2 => a' = aa ∧ J (l.setIfInBounds ds.length true) R w2) aa w')
    (hend : ∀ l R w', (∀ j, j < ops.size → l.getD j false = true) → J l R w' → Q .normal (putF ds (vs R) 0 a) w') (hJ : J (Array.replicate ops.size false) R0 w) : wpAny P md ops Q ops.size (Array.replicate ops.size false) a w := by
  have hsz2 : ∀ j (hj : j < ds.length), ds[j] < a.tmps.size := fun j hj => by
    have := List.all_eq_true.1 hsz _ (List.getElem_mem hj)
    simpa using this
  have hgd : ∀ j (hj : j < ds.length), ds.getD j 0 = ds[j] := fun j hj => by rw [List.getD_eq_getElem?_getD, List.getElem?_eq_getElem hj, Option.getD_some]
  have hon : ∀ (i : Nat) (o : Oper), ops[i]? = some o → ∀ e ∈ o.after, e.on < i := fun i o ho e he => by
    have h1 := List.all_eq_true.1 hord i (List.mem_range.2 (Array.getElem?_eq_some_iff.1 ho).1)
    rw [ho] at h1
    simp only [Option.map_some, Option.getD_some] at h1
    have h2 := Array.all_eq_true_iff_forall_mem.1 h1 e he
    simpa using h2
  refine wpAny_iv (fun l a' w' => ∃ R, l.size = ops.size ∧ ((∀ j, j < ds.length → l.getD j false = true → a'.tmps[ds.getD j 0]? = some (vs R j)) ∧ (∀ t, t ∉ ds → a'.tmps[t]? = a.tmps[t]?) ∧ a'.tmps.size = a.tmps.size ∧ a'.defers = a.defers) ∧ J l R w') ?_ ?_ _ _ _ _ ?_ ?_
  · rintro l a' w' ⟨R, hl, ⟨hv, ho', hs, hd⟩, hJ⟩ i o ho h0 hall
    have hi : i < ds.length + 1 := by
      have := (Array.getElem?_eq_some_iff.1 ho).1
      omega
    have hvv : ∀ e ∈ o.after, Region.binds md e = true → a'.tmps[ds.getD e.on 0]? = some (vs R e.on) := fun e he hb => hv _ (by have := hon i o ho e he; omega) (hall e he hb)
    by_cases hil : i < ds.length
    · refine wpOp_mono ?_ (hstep i o ho hil l R a' hl h0 hall hvv ho' w' hJ)
      rintro a2 w2 ⟨R', hR, rfl, hJ2⟩
      refine ⟨R', by simp [hl], ⟨fun j hjl hj => ?_, fun t ht => ?_, by rw [put_size]; exact hs, hd⟩, hJ2⟩
      · rw [put_get, hgd i hil]
        by_cases h : j = i
        · subst h
          rw [hgd j hjl, if_pos rfl, if_pos (by rw [hs]; exact hsz2 j hjl)]
        · rw [getD_set_ne false (fun e => h e.symm)] at hj
          rw [hgd j hjl, if_neg (fun (e : ds[i] = ds[j]) => h ((List.getElem_inj hnd).1 e).symm)]
          rw [← hgd j hjl, hv j hjl hj]
          by_cases hia : i = ia
          · rw [hvs R R' j (fun e => h (e.trans hia.symm))]
          · rw [hR hia]
      · rw [put_get, hgd i hil, if_neg (fun (e : ds[i] = t) => ht (e ▸ List.getElem_mem hil))]
        exact ho' t ht
    · obtain rfl : i = ds.length := by omega
      refine wpOp_mono ?_ (hlast o ho l R a' hl h0 hall hvv ho' w' hJ)
      rintro a2 w2 ⟨rfl, hJ2⟩
      refine ⟨R, by simp [hl], ⟨fun j hjl hj => ?_, ho', hs, hd⟩, hJ2⟩
      rw [getD_set_ne false (by omega)] at hj
      exact hv j hjl hj
  · rintro l a' w' ⟨R, hl, ⟨hv, ho', hs, hd⟩, hJ⟩ hr
    have hu := all_up hord l hr hl
    have e : a' = putF ds (vs R) 0 a := by
      have e1 : a'.tmps = (putF ds (vs R) 0 a).tmps := by
        apply Array.ext_getElem?
        intro t
        by_cases ht : t ∈ ds
        · obtain ⟨j, hj, rfl⟩ := List.mem_iff_getElem.1 ht
          rw [putF_at ds _ 0 a j hj hnd (hsz2 j hj), Nat.zero_add, ← hgd j hj]
          exact hv j hj (hu j (by omega))
        · rw [putF_other ds _ 0 a t ht]
          exact ho' t ht
      have e2 : a'.defers = (putF ds (vs R) 0 a).defers := by rw [putF_defers]; exact hd
      cases a'
      cases hq : putF ds (vs R) 0 a
      rw [hq] at e1 e2
      simp only at e1 e2
      rw [e1, e2]
    rw [e]
    exact hend l R w' hu hJ
  · simp
  · refine ⟨R0, by simp, ⟨fun j hjl hj => ?_, fun _ _ => rfl, rfl, rfl⟩, hJ⟩
    rw [Array.getD_eq_getD_getElem?, Array.getElem?_replicate] at hj
    split at hj <;> cases hj
end Go.Proofs.YtjpopelbdhgidaaGreatDoor

/-
  The document's graphs: walk: proved is that it goes the plain walk of every graph that is one.
-/
namespace Go.Proofs.YtjpopelbdhgidaaGreatDoor
open Go Go.RowKit Go.Maps

/-- What the walk's beginning made. -/
structure Wm (w1 w2 : World) (L B V n : Nat) (c : Array Value) : Prop where
  below : Below w1.heap.size w1 w2
  rows : RwIn w2 L n (fun _ => []) (fun _ => .slice none 0 0)
  bools : w2.rowIs B 4 n (fun _ => .bool false)
  blk : Blk w2 V c 108
  l : w1.heap.size ≤ L
  b : w1.heap.size ≤ B
  lb : L ≠ B
  lv : L < V
  bv : B < V
  size : w2.heap.size = V + 1
theorem Wm.drew {w1 w2 : World} {L B V n : Nat} {c : Array Value} (h : Wm w1 w2 L B V n c) : Wm w1 w2.drew L B V n c := ⟨h.below.drew, h.rows.below (Below.refl _ _).drew, h.bools, h.blk, h.l, h.b, h.lb, h.lv, h.bv, h.size⟩
/-- What the document's rows may write. -/
def kx (L V : Nat) : Vk := ⟨0, [], 0, L, 0, L, 0, none, 0, L, 0, V + 1⟩
theorem kx_heap {L V : Nat} {w w' : World} (h : Fv (kx L V) w w') {b : Nat} (h1 : b ≤ V) (h2 : b ≠ L) : w'.heap[b]? = w.heap[b]? := h.block b (by show b < V + 1; omega) h2 h2
theorem made_a (w : World) (n : Nat) (c : Array Value) : Wm w (((w.alloc (.cells (madeCells #[.slice none 0 0] n) 44)).alloc (.cells (madeCells #[.bool false] n) 4)).alloc (.cells c 108)) w.heap.size (w.heap.size + 1) (w.heap.size + 2) n c := by
  obtain ⟨w2, h2⟩ : ∃ x, w.alloc (.cells (madeCells #[.slice none 0 0] n) 44) = x := ⟨_, rfl⟩
  have hs2 : w2.heap.size = w.heap.size + 1 := by rw [← h2, World.size_alloc]
  have hr : RwIn w2 w.heap.size n (fun _ => []) (fun _ => .slice none 0 0) := by rw [← h2]; exact RwIn.made w n
  have hb : Below w.heap.size w w2 := by rw [← h2]; exact (Below.refl _ w).alloc (Nat.le_refl _) _
  rw [h2]
  obtain ⟨w3, h3⟩ : ∃ x, w2.alloc (.cells (madeCells #[.bool false] n) 4) = x := ⟨_, rfl⟩
  have hs3 : w3.heap.size = w.heap.size + 2 := by rw [← h3, World.size_alloc, hs2]
  have hb3 : Below w2.heap.size w2 w3 := by rw [← h3]; exact (Below.refl _ w2).alloc (Nat.le_refl _) _
  have hbo : w3.rowIs (w.heap.size + 1) 4 n (fun _ => .bool false) := by rw [← h3, ← hs2]; exact World.rowIs_made w2 (.bool false) n _
  rw [h3]
  have hb4 : Below w3.heap.size w3 (w3.alloc (.cells c 108)) := (Below.refl _ w3).alloc (Nat.le_refl _) _
  exact ⟨bel hb (bel hb3 hb4), (hr.below hb3).below hb4, hbo.of_block (hb4.block _ (by omega)), by rw [← hs3]; exact Blk.new w3 _ _, Nat.le_refl _, by omega, by omega, by omega, by omega, by rw [World.size_alloc, hs3]⟩
theorem made_b (w : World) (n : Nat) (c : Array Value) : Wm w (((w.alloc (.cells (madeCells #[.bool false] n) 4)).alloc (.cells (madeCells #[.slice none 0 0] n) 44)).alloc (.cells c 108)) (w.heap.size + 1) w.heap.size (w.heap.size + 2) n c := by
  obtain ⟨w2, h2⟩ : ∃ x, w.alloc (.cells (madeCells #[.bool false] n) 4) = x := ⟨_, rfl⟩
  have hs2 : w2.heap.size = w.heap.size + 1 := by rw [← h2, World.size_alloc]
  have hbo : w2.rowIs w.heap.size 4 n (fun _ => .bool false) := by rw [← h2]; exact World.rowIs_made w (.bool false) n _
  have hb : Below w.heap.size w w2 := by rw [← h2]; exact (Below.refl _ w).alloc (Nat.le_refl _) _
  rw [h2]
  obtain ⟨w3, h3⟩ : ∃ x, w2.alloc (.cells (madeCells #[.slice none 0 0] n) 44) = x := ⟨_, rfl⟩
  have hs3 : w3.heap.size = w.heap.size + 2 := by rw [← h3, World.size_alloc, hs2]
  have hb3 : Below w2.heap.size w2 w3 := by rw [← h3]; exact (Below.refl _ w2).alloc (Nat.le_refl _) _
  have hr : RwIn w3 (w.heap.size + 1) n (fun _ => []) (fun _ => .slice none 0 0) := by rw [← h3, ← hs2]; exact RwIn.made w2 n
  rw [h3]
  have hb4 : Below w3.heap.size w3 (w3.alloc (.cells c 108)) := (Below.refl _ w3).alloc (Nat.le_refl _) _
  exact ⟨bel hb (bel hb3 hb4), hr.below hb4, (hbo.of_block (hb3.block _ (by omega))).of_block (hb4.block _ (by omega)), by rw [← hs3]; exact Blk.new w3 _ _, by omega, Nat.le_refl _, by omega, by omega, by omega, by rw [World.size_alloc, hs3]⟩
abbrev visG (g : Gf) (av : Option Addr) (cv : Nat) (aa : Option Addr) (ca : Nat) (ae : Option Addr) (ce n L B : Nat) (dv : Value) : Array Value := #[.slice av g.vs.length cv, .int .i64 g.tmp, .slice aa g.ar.length ca, .int .i64 (n : Int), .int .i64 g.ext, .slice ae g.es.length ce, .slice (some ⟨L, 0, none⟩) n n, .slice (some ⟨B, 0, none⟩) n n, dv]
/-- How far a grown row's region has come. -/
def Jg (W : World) (ob : Obj) (A : Addr) (PA : Value → World → Prop) (l : Array Bool) (r : Value) (w' : World) : Prop :=
  (l.getD 24 false = false ∧ l.getD 26 false = false ∧ w' = if l.getD 23 false = true then W.alloc ob else W) ∨ (l.getD 24 false = true ∧ l.getD 21 false = true ∧ l.getD 23 false = true ∧ l.getD 26 false = false ∧ PA r w') ∨ (l.getD 26 false = true ∧ l.getD 24 false = true ∧ l.getD 21 false = true ∧ l.getD 23 false = true ∧ ∃ w0, PA r w0 ∧ w' = w0.setCell A r)
theorem getD_set_self {l : Array Bool} {i : Nat} (h : i < l.size) : (l.setIfInBounds i true).getD i false = true := by simp [h]
theorem Jg.set {W : World} {ob : Obj} {A : Addr} {PA : Value → World → Prop} {l : Array Bool} {r : Value} {w' : World} (h : Jg W ob A PA l r w') {i : Nat} (h1 : i ≠ 23) (h2 : i ≠ 24) (h3 : i ≠ 26) : Jg W ob A PA (l.setIfInBounds i true) r w' := by
  rcases h with ⟨a, b, c⟩ | ⟨a, b, c, d, e⟩ | ⟨a, b, c, d, e⟩
  · exact .inl ⟨by rw [getD_set_ne false h2]; exact a, by rw [getD_set_ne false h3]; exact b, by rw [getD_set_ne false h1]; exact c⟩
  · exact .inr (.inl ⟨getD_set_true a, getD_set_true b, getD_set_true c, by rw [getD_set_ne false h3]; exact d, e⟩)
  · exact .inr (.inr ⟨getD_set_true a, getD_set_true b, getD_set_true c, getD_set_true d, e⟩)
theorem Jg.first {W : World} {ob : Obj} {A : Addr} {PA : Value → World → Prop} {l : Array Bool} {r : Value} {w' : World} (h : Jg W ob A PA l r w') (h1 : l.getD 23 false = false ∨ l.getD 24 false = false) : l.getD 24 false = false ∧ l.getD 26 false = false ∧ w' = if l.getD 23 false = true then W.alloc ob else W := by
  rcases h with h | ⟨a, -, c, -, -⟩ | ⟨-, a, -, c, -⟩
  · exact h
  · rw [a, c] at h1; simp at h1
  · rw [a, c] at h1; simp at h1
theorem Jg.row {W : World} {ob : Obj} {A : Addr} {PA : Value → World → Prop} {l : Array Bool} {r : Value} {w' : World} (h : Jg W ob A PA l r w') (h1 : l.getD 21 false = false) : w' = W.alloc ob ∨ w' = W := by
  rcases h with ⟨-, -, c⟩ | ⟨-, a, -⟩ | ⟨-, -, a, -⟩
  · by_cases hb : l.getD 23 false = true
    · rw [if_pos hb] at c; exact .inl c
    · rw [if_neg hb] at c; exact .inr c
  · rw [a] at h1; cases h1
  · rw [a] at h1; cases h1
theorem Jg.second {W : World} {ob : Obj} {A : Addr} {PA : Value → World → Prop} {l : Array Bool} {r : Value} {w' : World} (h : Jg W ob A PA l r w') (h1 : l.getD 24 false = true) (h2 : l.getD 26 false = false) : PA r w' := by
  rcases h with ⟨a, -, -⟩ | ⟨-, -, -, -, e⟩ | ⟨a, -⟩
  · rw [a] at h1; cases h1
  · exact e
  · rw [a] at h2; cases h2
theorem Jg.third {W : World} {ob : Obj} {A : Addr} {PA : Value → World → Prop} {l : Array Bool} {r : Value} {w' : World} (h : Jg W ob A PA l r w') (h2 : l.getD 26 false = true) : ∃ w0, PA r w0 ∧ w' = w0.setCell A r := by
  rcases h with ⟨-, a, -⟩ | ⟨-, -, -, a, -⟩ | ⟨-, -, -, -, e⟩
  · rw [a] at h2; cases h2
  · rw [a] at h2; cases h2
  · exact e
/-- Whatever is read but the row, is read at each stage. -/
theorem Jg.cell {W : World} {ob : Obj} {A : Addr} {PA : Value → World → Prop} {l : Array Bool} {r : Value} {w' : World} (h : Jg W ob A PA l r w') {k o : Nat} {u : Value} (hk : k < W.heap.size) (hA : k ≠ A.block) (hP : ∀ r w0, PA r w0 → w0.heap[k]? = W.heap[k]?) (hc : W.cell? ⟨k, o, none⟩ = some u) : w'.cell? ⟨k, o, none⟩ = some u := by
  have hb : w'.heap[k]? = W.heap[k]? := by
    rcases h with ⟨-, -, c⟩ | ⟨-, -, -, -, e⟩ | ⟨-, -, -, -, w0, e, f⟩
    · rw [c]
      split
      · exact ((Below.refl W.heap.size W).alloc (Nat.le_refl _) ob).block k hk
      · rfl
    · exact hP _ _ e
    · rw [f, ← hP _ _ e]
      exact ((Only.refl A.block w0).setCell (p := A) rfl r).block k (by
        rcases Nat.lt_or_ge k w0.heap.size with h | h
        · exact h
        · have := hP _ _ e
          rw [Array.getElem?_eq_none h, Array.getElem?_eq_getElem hk] at this
          cases this) hA
  exact (World.cell?_of_block (w := W) (a := ⟨k, o, none⟩) hb).trans hc
/-- What the document's walk comes to. -/
def WlkTo (w : World) (n : Nat) (s : Vs) (q0 q1 q2 q3 q4 q5 : Value) : Ending → World → Prop := fun e w' => ∃ V B dv, e = .returned (.pointer (some ⟨V, 0, none⟩)) ∧ w.heap.size ≤ B ∧ (∃ q6, Blk w' V #[q0, q1, q2, q3, q4, q5, q6, .slice (some ⟨B, 0, none⟩) n n, dv] 108) ∧ w'.rowIs B 4 n (boolsV s.bg) ∧ w'.ownsRow w.heap.size 3 1 dv s.dn.length (cellsN s.dn) ∧ Below w.heap.size w w'
set_option maxRecDepth 100000 in
set_option maxHeartbeats 8000000 in
theorem walk_any (g : Gf) (av aa ae : Option Addr) (cv ca ce n : Nat) (hn : g.pts = (n : Int)) (hn0 : 0 < n) (hn1 : n ≤ 4096) (hm : g.es.length ≤ 8192) (w : World) (hes : EdsAt w g.es (.slice ae g.es.length ce)) (hfr : ∀ e ∈ g.es, 0 ≤ e.fr ∧ e.fr < g.pts) (hto : ∀ e ∈ g.es, 0 ≤ e.dt ∧ e.dt < g.pts) :
    Calls Tryz.prog 49 #[grS g av cv aa ca ae ce] w (WlkTo w n (walkG g) (.slice av g.vs.length cv) (.int .i64 g.tmp) (.slice aa g.ar.length ca) (.int .i64 (n : Int)) (.int .i64 g.ext) (.slice ae g.es.length ce)) := by
  have hgn : g.n = n := by unfold Gf.n; omega
  show Calls Tryz.prog 49 #[.agg #[.slice av g.vs.length cv, .int .i64 g.tmp, .slice aa g.ar.length ca, .int .i64 g.pts, .int .i64 g.ext, .slice ae g.es.length ce]] w _
  rw [hn] at hfr hto ⊢
  obtain ⟨W1, hW1⟩ : ∃ W1, w.alloc (.cells #[.slice av g.vs.length cv, .int .i64 g.tmp, .slice aa g.ar.length ca, .int .i64 (n : Int), .int .i64 g.ext, .slice ae g.es.length ce] 30) = W1 := ⟨_, rfl⟩
  obtain ⟨X, hX⟩ : ∃ X, w.heap.size = X := ⟨_, rfl⟩
  have hx : Blk W1 X #[.slice av g.vs.length cv, .int .i64 g.tmp, .slice aa g.ar.length ca, .int .i64 (n : Int), .int .i64 g.ext, .slice ae g.es.length ce] 30 := by rw [← hW1, ← hX]; exact Blk.new w _ _
  have hb1 : Below w.heap.size w W1 := by rw [← hW1]; exact (Below.refl _ w).alloc (Nat.le_refl _) _
  obtain ⟨S1, hS1⟩ : ∃ s, W1.heap.size = s := ⟨_, rfl⟩
  have hXS : X + 1 = S1 := by rw [← hS1, ← hW1, World.size_alloc, hX]
  have hxo := fun o => hx.alloc o
  have hxoo := fun o p => (hx.alloc o).alloc p
  have a0 := hx.cell 0
  have a1 := hx.cell 1
  have a2 := hx.cell 2
  have a3 := hx.cell 3
  have a4 := hx.cell 4
  have a5 := hx.cell 5
  have b0 := fun o => (hxo o).cell 0
  have b1 := fun o => (hxo o).cell 1
  have b2 := fun o => (hxo o).cell 2
  have b3 := fun o => (hxo o).cell 3
  have b4 := fun o => (hxo o).cell 4
  have b5 := fun o => (hxo o).cell 5
  have c0 := fun o p => (hxoo o p).cell 0
  have c1 := fun o p => (hxoo o p).cell 1
  have c2 := fun o p => (hxoo o p).cell 2
  have c3 := fun o p => (hxoo o p).cell 3
  have c4 := fun o p => (hxoo o p).cell 4
  have c5 := fun o p => (hxoo o p).cell 5
  simp only [List.getElem?_toArray, List.getElem?_cons_zero, List.getElem?_cons_succ] at a0 a1 a2 a3 a4 a5 b0 b1 b2 b3 b4 b5 c0 c1 c2 c3 c4 c5
  have HMK := fun w => run_make_row' 97 44 (.slice none 0 0) 24 (P := Tryz.prog) (by kernel_rfl) info_rows rfl .i64 .i64 n (by omega) (by omega) w
  have HMB := fun w => run_make_row' 47 4 (.bool false) 1 (P := Tryz.prog) (by kernel_rfl) info_bool rfl .i64 .i64 n (by omega) (by omega) w
  have H1 := Lib.hid (And.intro hx (And.intro hb1 (And.intro hS1 hXS)))
  have HE := Lib.hid (And.intro hW1 hX)
  have HG := Lib.hid (And.intro hgn (And.intro hn0 (And.intro hn1 (And.intro hm (And.intro hes (And.intro hfr hto))))))
  clear hx hb1 hxo hxoo hS1 hXS hgn hn0 hn1 hm hes hfr hto hn hW1 hX
  go_enter Tryz.func49, Tryz.ntmps49
  go_upto_region 1 with fail
  rw [HE.out.1, HE.out.2]
  go_cut [3] (fun s wx => ∃ L B V, s = .pointer (some ⟨V, 0, none⟩) ∧ Wm W1 wx L B V n (visG g av cv aa ca ae ce n L B (.slice none 0 0)))
  case first =>
    go_region
    all_goals go_wp2_with fail
    · go_meet
      exact ⟨_, _, _, rfl, (made_a W1 n _).drew⟩
    · go_meet
      exact ⟨_, _, _, rfl, (made_b W1 n _).drew⟩
  case rest =>
    obtain ⟨L, B, V, rfl, hwm⟩ := hcut
    clear a0 a1 a2 a3 a4 a5 b0 b1 b2 b3 b4 b5 c0 c1 c2 c3 c4 c5 HMK HMB
    obtain ⟨i0, hi0, hz0, hz1, hz2⟩ := info_parts info_icell
    have HI0 := Lib.hid (And.intro hi0 (And.intro hz0 (And.intro hz1 hz2)))
    obtain ⟨w2, hw2⟩ : ∃ x, x = wc := ⟨_, rfl⟩
    subst hw2
    have hxw : Blk w2 X #[.slice av g.vs.length cv, .int .i64 g.tmp, .slice aa g.ar.length ca, .int .i64 (n : Int), .int .i64 g.ext, .slice ae g.es.length ce] 30 := H1.out.1.next hwm.below
    have hXL : X < L := by have := hwm.l; have := H1.out.2.2.1; have := H1.out.2.2.2; omega
    have hwL : w.heap.size ≤ L := by have := HE.out.2; omega
    have hbw2 : Below w.heap.size w w2 := bel H1.out.2.1 hwm.below
    have HW := Lib.hid (And.intro hwm (And.intro hxw (And.intro hXL (And.intro hwL hbw2))))
    clear hwm hxw hXL hwL hbw2 hi0 hz0 hz1 hz2
    go_wp2_with fail
    go_loopw [4] (fun x wr => ∃ (i : Nat) (vs : Nat → Value), x = .int .i64 i ∧ i ≤ g.es.length ∧ RwIn wr L n (outT g.es i) vs ∧ (∀ p k, p < n → (vs p).ownBlock = some k → V < k) ∧ Fv (kx L V) w2 wr) (fun x _ => g.es.length - (intOf x).toNat)
    case atStart => exact ⟨0, _, rfl, by omega, HW.out.1.rows.congr (fun p _ => by simp [outT]), fun p k _ h => by simp [Value.ownBlock] at h, Fv.refl _ _⟩
    case round =>
      obtain ⟨i, vs, rfl, hi, hrw, hgt, hfv⟩ := hrel
      have hlv := HW.out.1.lv
      have hxr : Blk wr X #[.slice av g.vs.length cv, .int .i64 g.tmp, .slice aa g.ar.length ca, .int .i64 (n : Int), .int .i64 g.ext, .slice ae g.es.length ce] 30 := (kx_heap hfv (by have := HW.out.2.2.1; omega) (by have := HW.out.2.2.1; omega)).trans HW.out.2.1
      have hvr : Blk wr V (visG g av cv aa ca ae ce n L B (.slice none 0 0)) 108 := (kx_heap hfv (Nat.le_refl _) (by omega)).trans HW.out.1.blk
      have hbr : wr.rowIs B 4 n (fun _ => .bool false) := HW.out.1.bools.of_block (kx_heap hfv (by have := HW.out.1.bv; omega) (fun e => HW.out.1.lb e.symm))
      have hbw : Below w.heap.size w wr := HW.out.2.2.2.2.trans (hfv.old (by show w.heap.size ≤ V + 1; have := HW.out.2.2.2.1; omega) HW.out.2.2.2.1 HW.out.2.2.2.1)
      have hesr : EdsAt wr g.es (.slice ae g.es.length ce) := HG.out.2.2.2.2.1.keep (keeps_below hbw)
      have x5 : wr.cell? ⟨X, 5, none⟩ = some (.slice ae g.es.length ce) := hxr.cell 5
      have v6 : wr.cell? ⟨V, 6, none⟩ = some (.slice (some ⟨L, 0, none⟩) n n) := hvr.cell 6
      have hVw : V < wr.heap.size := hvr.lt
      have HR := Lib.hid (And.intro hrw (And.intro hgt (And.intro hfv (And.intro hxr (And.intro hvr (And.intro hbr (And.intro hbw (And.intro hesr (And.intro hlv hVw)))))))))
      clear hrw hgt hfv hxr hvr hbr hbw hlv hVw
      by_cases hlt : i < g.es.length
      · have hbi : (i : Int) + 1 ≤ 9223372036854775807 := by have := HG.out.2.2.2.1; omega
        have hii : (i : Int) < (g.es.length : Int) := by omega
        obtain ⟨b, o, rfl, hc⟩ := hesr.row.resolve_left (by omega)
        obtain ⟨k0, -⟩ := eds_at hc i hlt
        have hbX : b < w.heap.size := by
          obtain ⟨b', o', h1, h2⟩ := HG.out.2.2.2.2.1.row.resolve_left (by omega)
          cases h1
          obtain ⟨r0, -⟩ := eds_at h2 i hlt
          have hlt2 := World.block_lt_of_cell? w _ r0
          simpa using hlt2
        have hf := HG.out.2.2.2.2.2.1 g.es[i] (List.getElem_mem hlt)
        have hge : g.es.getD i noE = g.es[i] := by rw [List.getD_eq_getElem?_getD, List.getElem?_eq_getElem hlt, Option.getD_some]
        obtain ⟨P, hP⟩ : ∃ P : Nat, g.es[i].fr = P := ⟨g.es[i].fr.toNat, by omega⟩
        rw [hP] at k0 hf
        have hPn : P < n := by omega
        have hPi : (P : Int) < (n : Int) := hf.2
        obtain ⟨RV, hR⟩ : ∃ R, vs P = R := ⟨_, rfl⟩
        have hrc := HR.out.1.row.cell hPn
        have hrf := HR.out.1.row.frozen P
        have hro := HR.out.1.own P hPn
        rw [hR] at hrc hro
        have hRV : ∀ k, RV.ownBlock = some k → V < k := fun k hk => HR.out.2.1 P k hPn (by rw [hR]; exact hk)
        have hal := fun o => (Below.refl wr.heap.size wr).alloc (Nat.le_refl _) o
        have ka := fun o => keeps_below (hal o)
        have hrc4 := fun o => ka o _ _ _ hrc
        have x54 := fun o => ka o _ _ _ x5
        have v64 := fun o => ka o _ _ _ v6
        have k04 := fun o => ka o _ _ _ k0
        obtain ⟨N, hN⟩ : ∃ N, (outT g.es i P).length = N := ⟨_, rfl⟩
        have hNi : N ≤ i := by rw [← hN]; exact outT_len _ _ _
        rw [hN] at hro
        obtain ⟨CS, hCS⟩ : ∃ C, cellsN (outT g.es i P) = C := ⟨_, rfl⟩
        rw [hCS] at hro
        have HRO := Lib.hid hro
        have HQ := Lib.hid (And.intro hR (And.intro hN (And.intro hCS (And.intro hRV (And.intro hge (And.intro hP (And.intro hNi (And.intro hPn (And.intro k0 hbX)))))))))
        have HNN := Lib.hid (show N + 1 ≤ maxLen ∧ (N + 1) * 8 ≤ 140737488355328 from ⟨by unfold maxLen; have := HG.out.2.2.2.1; omega, by have := HG.out.2.2.2.1; omega⟩)
        clear hc hf hge hP hPn hR hro hRV hal ka hN hCS hNi hbX hesr
        obtain ⟨PA, hPA⟩ : ∃ p : Value → World → Prop, p = fun r w6 => ∃ gg cap, r = .slice (some ⟨gg, 0, none⟩) (N + 1) cap ∧ w6.ownsRow (L + 1) 3 1 (.slice (some ⟨gg, 0, none⟩) (N + 1) cap) (N + 1) (CS ++ [.int .i64 (i : Int)]) ∧ (wr.drew.alloc (.cells #[.int .i64 (i : Int)] 3)).grownBy w6 RV.ownBlock ∧ (RV.ownBlock = some gg ∨ gg = wr.heap.size + 1) := ⟨_, rfl⟩
        have HPA := Lib.hid (fun r w6 (h : ∃ gg cap, r = .slice (some ⟨gg, 0, none⟩) (N + 1) cap ∧ w6.ownsRow (L + 1) 3 1 (.slice (some ⟨gg, 0, none⟩) (N + 1) cap) (N + 1) (CS ++ [.int .i64 (i : Int)]) ∧ (wr.drew.alloc (.cells #[.int .i64 (i : Int)] 3)).grownBy w6 RV.ownBlock ∧ (RV.ownBlock = some gg ∨ gg = wr.heap.size + 1)) => show PA r w6 by rw [hPA]; exact h)
        have HPB := Lib.hid (fun r w6 (h : PA r w6) => show ∃ gg cap, r = .slice (some ⟨gg, 0, none⟩) (N + 1) cap ∧ w6.ownsRow (L + 1) 3 1 (.slice (some ⟨gg, 0, none⟩) (N + 1) cap) (N + 1) (CS ++ [.int .i64 (i : Int)]) ∧ (wr.drew.alloc (.cells #[.int .i64 (i : Int)] 3)).grownBy w6 RV.ownBlock ∧ (RV.ownBlock = some gg ∨ gg = wr.heap.size + 1) by rw [hPA] at h; exact h)
        clear hPA
        have HG6 := Lib.hid (fun r w6 (h : PA r w6) k (h1 : k < wr.heap.size) (h2 : k ≤ V) => show w6.heap[k]? = wr.drew.heap[k]? by
          obtain ⟨gg, cap, -, -, hgrow, -⟩ := HPB.out r w6 h
          exact (hgrow.block k (by rw [World.size_alloc]; show k < wr.heap.size + 1; omega) (fun e => by have := HQ.out.2.2.2.1 k e.symm; omega)).trans (((Below.refl wr.heap.size wr).drew.alloc (Nat.le_refl _) _).block k h1))
        have HPL := Lib.hid (fun r w6 (h : PA r w6) => show ∃ gg cap, r = .slice (some ⟨gg, 0, none⟩) (N + 1) cap ∧ w6.cell? ⟨L, P, none⟩ = some (vs P) ∧ w6.frozen? ⟨L, P, none⟩ = false by
          obtain ⟨gg, cap, hr, -⟩ := HPB.out r w6 h
          have hlv := HR.out.2.2.2.2.2.2.2.2.1
          have hVw := HR.out.2.2.2.2.2.2.2.2.2
          have hL2 : w6.rowIs L 44 n vs := HR.out.1.row.of_block (HG6.out r w6 h L (by omega) (by omega))
          exact ⟨gg, cap, hr, hL2.cell HQ.out.2.2.2.2.2.2.2.1, hL2.frozen P⟩)
        have HJF := Lib.hid (fun l r w' (h : Jg wr.drew (.cells #[.int .i64 (i : Int)] 3) ⟨L, P, none⟩ PA l r w') => show w'.cell? ⟨X, 5, none⟩ = some (.slice (some ⟨b, o, none⟩) g.es.length ce) ∧ w'.cell? ⟨V, 6, none⟩ = some (.slice (some ⟨L, 0, none⟩) n n) ∧ w'.cell? ⟨b, o + i * 10, none⟩ = some (.int .i64 (P : Int)) by
          have hVw := HR.out.2.2.2.2.2.2.2.2.2
          have hlv := HR.out.2.2.2.2.2.2.2.2.1
          have hXL := HW.out.2.2.1
          have hwL := HW.out.2.2.2.1
          have hbX := HQ.out.2.2.2.2.2.2.2.2.2
          exact ⟨h.cell (show X < wr.heap.size by omega) (show X ≠ L by omega) (fun r w0 hp => HG6.out r w0 hp X (by omega) (by omega)) x5, h.cell hVw (show V ≠ L by omega) (fun r w0 hp => HG6.out r w0 hp V hVw (Nat.le_refl _)) v6, h.cell (show b < wr.heap.size by omega) (show b ≠ L by omega) (fun r w0 hp => HG6.out r w0 hp b (by omega) (by omega)) HQ.out.2.2.2.2.2.2.2.2.1⟩)
        have HJR := Lib.hid (fun l r w' (h : Jg wr.drew (.cells #[.int .i64 (i : Int)] 3) ⟨L, P, none⟩ PA l r w') (h1 : l.getD 21 false = false) => show w'.cell? ⟨L, P, none⟩ = some RV by
          rcases h.row h1 with e | e
          · rw [e]; exact hrc4 _
          · rw [e]; exact hrc)
        clear v6 k0 hrc hrf hrc4 x54 v64 k04
        go_upto_region 5 with fail
        clear x5
        refine wp_region_any (by kernel_rfl) ?_
        refine wpAny_grow [21, 22, 23, 24, 25, 26, 27, 28, 29, 30, 31, 32, 33, 34, 35, 36, 37, 38, 39, 40, 41, 42, 43, 44, 45, 46] (fun r j => if j = 24 then r else valsAt [.pointer (some ⟨V, 0, none⟩), .pointer (some ⟨V, 0, none⟩), .pointer (some ⟨V, 6, none⟩), .slice (some ⟨L, 0, none⟩) n n, .pointer (some ⟨X, 5, none⟩), .slice (some ⟨b, o, none⟩) g.es.length ce, .int .i64 (i : Int), .pointer (some ⟨b, o + i * 10, none⟩), .pointer (some ⟨b, o + i * 10, none⟩), .int .i64 (P : Int), .pointer (some ⟨V, 0, none⟩), .pointer (some ⟨V, 0, none⟩), .pointer (some ⟨V, 6, none⟩), .slice (some ⟨L, 0, none⟩) n n, .pointer (some ⟨X, 5, none⟩), .slice (some ⟨b, o, none⟩) g.es.length ce, .int .i64 (i : Int), .pointer (some ⟨b, o + i * 10, none⟩), .pointer (some ⟨b, o + i * 10, none⟩), .int .i64 (P : Int), .pointer (some ⟨L, P, none⟩), RV, .int .i64 (i : Int), .slice (some ⟨wr.heap.size, 0, none⟩) 1 1, undef, .pointer (some ⟨L, P, none⟩)] j) (Jg wr.drew (.cells #[.int .i64 (i : Int)] 3) ⟨L, P, none⟩ PA) 24 undef rfl (fun r r' j hj => by simp only [if_neg hj]) (by kernel_rfl) (by decide) (by kernel_rfl) ?hs ?hl ?he ?hj
        case hj => exact .inl ⟨rfl, rfl, rfl⟩
        case hs =>
          intro i' oo ho hil l r fr0 hl h0 hall hv hx w' hJ
          obtain ⟨c5, c6, c0⟩ := HJF.out l r w' hJ
          have HJ := Lib.hid hJ
          clear hJ
          have hi : i' < 26 := hil
          have hcase : i' = 0 ∨ i' = 1 ∨ i' = 2 ∨ i' = 3 ∨ i' = 4 ∨ i' = 5 ∨ i' = 6 ∨ i' = 7 ∨ i' = 8 ∨ i' = 9 ∨ i' = 10 ∨ i' = 11 ∨ i' = 12 ∨ i' = 13 ∨ i' = 14 ∨ i' = 15 ∨ i' = 16 ∨ i' = 17 ∨ i' = 18 ∨ i' = 19 ∨ i' = 20 ∨ i' = 21 ∨ i' = 22 ∨ i' = 23 ∨ i' = 24 ∨ i' = 25 := by omega
          clear hi hil
          rcases hcase with rfl | rfl | rfl | rfl | rfl | rfl | rfl | rfl | rfl | rfl | rfl | rfl | rfl | rfl | rfl | rfl | rfl | rfl | rfl | rfl | rfl | rfl | rfl | rfl | rfl | rfl
          · obtain rfl := Option.some.inj ho.symm
            clear ho
            have x3 : fr0.tmps[(3 : Nat)]? = some (.pointer (some ⟨V, 0, none⟩)) := hx 3 (by decide)
            clear hv hx hall h0
            refine wpOp_step rfl (fun K hK => ?_)
            go_simp
            exact hK _ _ ⟨r, fun _ => rfl, rfl, HJ.out.set (by decide) (by decide) (by decide)⟩
          · obtain rfl := Option.some.inj ho.symm
            clear ho
            have d0 : fr0.tmps[(21 : Nat)]? = some (.pointer (some ⟨V, 0, none⟩)) := hv ⟨0, .data⟩ (by simp) rfl
            clear hv hx hall h0
            refine wpOp_step rfl (fun K hK => ?_)
            go_simp
            exact hK _ _ ⟨r, fun _ => rfl, rfl, HJ.out.set (by decide) (by decide) (by decide)⟩
          · obtain rfl := Option.some.inj ho.symm
            clear ho
            have d1 : fr0.tmps[(22 : Nat)]? = some (.pointer (some ⟨V, 0, none⟩)) := hv ⟨1, .data⟩ (by simp) rfl
            clear hv hx hall h0
            refine wpOp_step rfl (fun K hK => ?_)
            go_simp
            exact hK _ _ ⟨r, fun _ => rfl, rfl, HJ.out.set (by decide) (by decide) (by decide)⟩
          · obtain rfl := Option.some.inj ho.symm
            clear ho
            have d2 : fr0.tmps[(23 : Nat)]? = some (.pointer (some ⟨V, 6, none⟩)) := hv ⟨2, .data⟩ (by simp) rfl
            clear hv hx hall h0
            refine wpOp_step rfl (fun K hK => ?_)
            go_simp
            exact hK _ _ ⟨r, fun _ => rfl, rfl, HJ.out.set (by decide) (by decide) (by decide)⟩
          · obtain rfl := Option.some.inj ho.symm
            clear ho
            have x1 : fr0.tmps[(1 : Nat)]? = some (.pointer (some ⟨X, 0, none⟩)) := hx 1 (by decide)
            clear hv hx hall h0
            refine wpOp_step rfl (fun K hK => ?_)
            go_simp
            exact hK _ _ ⟨r, fun _ => rfl, rfl, HJ.out.set (by decide) (by decide) (by decide)⟩
          · obtain rfl := Option.some.inj ho.symm
            clear ho
            have d4 : fr0.tmps[(25 : Nat)]? = some (.pointer (some ⟨X, 5, none⟩)) := hv ⟨4, .data⟩ (by simp) rfl
            clear hv hx hall h0
            refine wpOp_step rfl (fun K hK => ?_)
            go_simp
            exact hK _ _ ⟨r, fun _ => rfl, rfl, HJ.out.set (by decide) (by decide) (by decide)⟩
          · obtain rfl := Option.some.inj ho.symm
            clear ho
            have x4 : fr0.tmps[(4 : Nat)]? = some (.int .i64 (i : Int)) := hx 4 (by decide)
            clear hv hx hall h0
            refine wpOp_step rfl (fun K hK => ?_)
            go_simp
            exact hK _ _ ⟨r, fun _ => rfl, rfl, HJ.out.set (by decide) (by decide) (by decide)⟩
          · obtain rfl := Option.some.inj ho.symm
            clear ho
            have d5 : fr0.tmps[(26 : Nat)]? = some (.slice (some ⟨b, o, none⟩) g.es.length ce) := hv ⟨5, .data⟩ (by simp) rfl
            have d6 : fr0.tmps[(27 : Nat)]? = some (.int .i64 (i : Int)) := hv ⟨6, .data⟩ (by simp) rfl
            clear hv hx hall h0
            refine wpOp_step rfl (fun K hK => ?_)
            go_simp
            exact hK _ _ ⟨r, fun _ => rfl, rfl, HJ.out.set (by decide) (by decide) (by decide)⟩
          · obtain rfl := Option.some.inj ho.symm
            clear ho
            have d7 : fr0.tmps[(28 : Nat)]? = some (.pointer (some ⟨b, o + i * 10, none⟩)) := hv ⟨7, .data⟩ (by simp) rfl
            clear hv hx hall h0
            refine wpOp_step rfl (fun K hK => ?_)
            go_simp
            exact hK _ _ ⟨r, fun _ => rfl, rfl, HJ.out.set (by decide) (by decide) (by decide)⟩
          · obtain rfl := Option.some.inj ho.symm
            clear ho
            have d8 : fr0.tmps[(29 : Nat)]? = some (.pointer (some ⟨b, o + i * 10, none⟩)) := hv ⟨8, .data⟩ (by simp) rfl
            clear hv hx hall h0
            refine wpOp_step rfl (fun K hK => ?_)
            go_simp
            exact hK _ _ ⟨r, fun _ => rfl, rfl, HJ.out.set (by decide) (by decide) (by decide)⟩
          · obtain rfl := Option.some.inj ho.symm
            clear ho
            have x3 : fr0.tmps[(3 : Nat)]? = some (.pointer (some ⟨V, 0, none⟩)) := hx 3 (by decide)
            clear hv hx hall h0
            refine wpOp_step rfl (fun K hK => ?_)
            go_simp
            exact hK _ _ ⟨r, fun _ => rfl, rfl, HJ.out.set (by decide) (by decide) (by decide)⟩
          · obtain rfl := Option.some.inj ho.symm
            clear ho
            have d10 : fr0.tmps[(31 : Nat)]? = some (.pointer (some ⟨V, 0, none⟩)) := hv ⟨10, .data⟩ (by simp) rfl
            clear hv hx hall h0
            refine wpOp_step rfl (fun K hK => ?_)
            go_simp
            exact hK _ _ ⟨r, fun _ => rfl, rfl, HJ.out.set (by decide) (by decide) (by decide)⟩
          · obtain rfl := Option.some.inj ho.symm
            clear ho
            have d11 : fr0.tmps[(32 : Nat)]? = some (.pointer (some ⟨V, 0, none⟩)) := hv ⟨11, .data⟩ (by simp) rfl
            clear hv hx hall h0
            refine wpOp_step rfl (fun K hK => ?_)
            go_simp
            exact hK _ _ ⟨r, fun _ => rfl, rfl, HJ.out.set (by decide) (by decide) (by decide)⟩
          · obtain rfl := Option.some.inj ho.symm
            clear ho
            have d12 : fr0.tmps[(33 : Nat)]? = some (.pointer (some ⟨V, 6, none⟩)) := hv ⟨12, .data⟩ (by simp) rfl
            clear hv hx hall h0
            refine wpOp_step rfl (fun K hK => ?_)
            go_simp
            exact hK _ _ ⟨r, fun _ => rfl, rfl, HJ.out.set (by decide) (by decide) (by decide)⟩
          · obtain rfl := Option.some.inj ho.symm
            clear ho
            have x1 : fr0.tmps[(1 : Nat)]? = some (.pointer (some ⟨X, 0, none⟩)) := hx 1 (by decide)
            clear hv hx hall h0
            refine wpOp_step rfl (fun K hK => ?_)
            go_simp
            exact hK _ _ ⟨r, fun _ => rfl, rfl, HJ.out.set (by decide) (by decide) (by decide)⟩
          · obtain rfl := Option.some.inj ho.symm
            clear ho
            have d14 : fr0.tmps[(35 : Nat)]? = some (.pointer (some ⟨X, 5, none⟩)) := hv ⟨14, .data⟩ (by simp) rfl
            clear hv hx hall h0
            refine wpOp_step rfl (fun K hK => ?_)
            go_simp
            exact hK _ _ ⟨r, fun _ => rfl, rfl, HJ.out.set (by decide) (by decide) (by decide)⟩
          · obtain rfl := Option.some.inj ho.symm
            clear ho
            have x4 : fr0.tmps[(4 : Nat)]? = some (.int .i64 (i : Int)) := hx 4 (by decide)
            clear hv hx hall h0
            refine wpOp_step rfl (fun K hK => ?_)
            go_simp
            exact hK _ _ ⟨r, fun _ => rfl, rfl, HJ.out.set (by decide) (by decide) (by decide)⟩
          · obtain rfl := Option.some.inj ho.symm
            clear ho
            have d15 : fr0.tmps[(36 : Nat)]? = some (.slice (some ⟨b, o, none⟩) g.es.length ce) := hv ⟨15, .data⟩ (by simp) rfl
            have d16 : fr0.tmps[(37 : Nat)]? = some (.int .i64 (i : Int)) := hv ⟨16, .data⟩ (by simp) rfl
            clear hv hx hall h0
            refine wpOp_step rfl (fun K hK => ?_)
            go_simp
            exact hK _ _ ⟨r, fun _ => rfl, rfl, HJ.out.set (by decide) (by decide) (by decide)⟩
          · obtain rfl := Option.some.inj ho.symm
            clear ho
            have d17 : fr0.tmps[(38 : Nat)]? = some (.pointer (some ⟨b, o + i * 10, none⟩)) := hv ⟨17, .data⟩ (by simp) rfl
            clear hv hx hall h0
            refine wpOp_step rfl (fun K hK => ?_)
            go_simp
            exact hK _ _ ⟨r, fun _ => rfl, rfl, HJ.out.set (by decide) (by decide) (by decide)⟩
          · obtain rfl := Option.some.inj ho.symm
            clear ho
            have d18 : fr0.tmps[(39 : Nat)]? = some (.pointer (some ⟨b, o + i * 10, none⟩)) := hv ⟨18, .data⟩ (by simp) rfl
            clear hv hx hall h0
            refine wpOp_step rfl (fun K hK => ?_)
            go_simp
            exact hK _ _ ⟨r, fun _ => rfl, rfl, HJ.out.set (by decide) (by decide) (by decide)⟩
          · obtain rfl := Option.some.inj ho.symm
            clear ho
            have d13 : fr0.tmps[(34 : Nat)]? = some (.slice (some ⟨L, 0, none⟩) n n) := hv ⟨13, .data⟩ (by simp) rfl
            have d19 : fr0.tmps[(40 : Nat)]? = some (.int .i64 (P : Int)) := hv ⟨19, .data⟩ (by simp) rfl
            clear hv hx hall h0
            refine wpOp_step rfl (fun K hK => ?_)
            go_simp
            exact hK _ _ ⟨r, fun _ => rfl, rfl, HJ.out.set (by decide) (by decide) (by decide)⟩
          · obtain rfl := Option.some.inj ho.symm
            clear ho
            have d20 : fr0.tmps[(41 : Nat)]? = some (.pointer (some ⟨L, P, none⟩)) := hv ⟨20, .data⟩ (by simp) rfl
            have c1 := HJR.out l r w' HJ.out (getD_both h0)
            clear hv hx hall h0
            refine wpOp_step rfl (fun K hK => ?_)
            go_simp
            exact hK _ _ ⟨r, fun _ => rfl, rfl, HJ.out.set (by decide) (by decide) (by decide)⟩
          · obtain rfl := Option.some.inj ho.symm
            clear ho
            have x4 : fr0.tmps[(4 : Nat)]? = some (.int .i64 (i : Int)) := hx 4 (by decide)
            clear hv hx hall h0
            refine wpOp_step rfl (fun K hK => ?_)
            go_simp
            exact hK _ _ ⟨r, fun _ => rfl, rfl, HJ.out.set (by decide) (by decide) (by decide)⟩
          · obtain rfl := Option.some.inj ho.symm
            clear ho
            have d22 : fr0.tmps[(43 : Nat)]? = some (.int .i64 (i : Int)) := hv ⟨22, .data⟩ (by simp) rfl
            clear hv hx hall
            obtain ⟨e1, e2, rfl⟩ := HJ.out.first (.inl (getD_both h0))
            rw [if_neg (by rw [getD_both h0]; simp)]
            refine wpOp_step rfl (fun K hK => ?_)
            go_simp
            exact hK _ _ ⟨r, fun _ => rfl, rfl, .inl ⟨by rw [getD_set_ne false (by decide)]; exact e1, by rw [getD_set_ne false (by decide)]; exact e2, by rw [if_pos (getD_set_self (by rw [hl]; decide))]; rfl⟩⟩
          · obtain rfl := Option.some.inj ho.symm
            clear ho
            have d21 : fr0.tmps[(42 : Nat)]? = some (RV) := hv ⟨21, .data⟩ (by simp) rfl
            have d23 : fr0.tmps[(44 : Nat)]? = some (.slice (some ⟨wr.heap.size, 0, none⟩) 1 1) := hv ⟨23, .data⟩ (by simp) rfl
            have g21 := hall ⟨21, .data⟩ (by simp) rfl
            have g23 := hall ⟨23, .data⟩ (by simp) rfl
            obtain ⟨e1, e2, rfl⟩ := HJ.out.first (.inr (getD_both h0))
            rw [if_pos g23]
            clear hv hx hall
            refine wpOp_step rfl (fun K hK => ?_)
            refine step_append_lies _ (by rfl) (.tmp 42) (.tmp 44) 44 (by rfl) (L + 1) 3 i0 _ 1 8 Tryz.underlying44 HI0.out.1 HI0.out.2.1 HI0.out.2.2.1 HI0.out.2.2.2 rfl (by omega) RV N CS (by simp [Act.eval, d21]) (HRO.out.drew.alloc _) ⟨wr.heap.size, 0, none⟩ 1 1 [.int .i64 (i : Int)] (by simp [Act.eval, d23]) rfl (World.news_of_block (cs := #[.int .i64 (i : Int)]) (t := 3) (fr := (0, 0)) (heap_alloc_new wr.drew _)) (one_int _) (by omega) HNN.out.1 HNN.out.2 (by rw [World.size_alloc]; have := HR.out.2.2.2.2.2.2.2.2.1; have := HR.out.2.2.2.2.2.2.2.2.2; show L + 1 ≤ wr.heap.size + 1; omega) (wr.heap.size + 1) (World.size_alloc _ _) ?_
            intro gg cap w6 hown2 hgrow hat hlt2
            exact hK _ _ ⟨_, fun h => absurd rfl h, rfl, .inr (.inl ⟨getD_set_self (by rw [hl]; decide), getD_set_true g21, getD_set_true g23, by rw [getD_set_ne false (by decide)]; exact e2, HPA.out _ _ ⟨gg, cap, rfl, hown2, hgrow, hat⟩⟩)⟩
          · obtain rfl := Option.some.inj ho.symm
            clear ho
            have d3 : fr0.tmps[(24 : Nat)]? = some (.slice (some ⟨L, 0, none⟩) n n) := hv ⟨3, .data⟩ (by simp) rfl
            have d9 : fr0.tmps[(30 : Nat)]? = some (.int .i64 (P : Int)) := hv ⟨9, .data⟩ (by simp) rfl
            clear hv hx hall h0
            refine wpOp_step rfl (fun K hK => ?_)
            go_simp
            exact hK _ _ ⟨r, fun _ => rfl, rfl, HJ.out.set (by decide) (by decide) (by decide)⟩
        case hl =>
          intro oo ho l r fr0 hl h0 hall hv hx w' hJ
          have HJ := Lib.hid hJ
          clear hJ
          obtain rfl := Option.some.inj ho.symm
          clear ho
          have d25 : fr0.tmps[(46 : Nat)]? = some (.pointer (some ⟨L, P, none⟩)) := hv ⟨25, .data⟩ (by simp) rfl
          have d24 : fr0.tmps[(45 : Nat)]? = some r := hv ⟨24, .data⟩ (by simp) rfl
          have g21 := hall ⟨21, .phase⟩ (by simp) rfl
          have g23 := hall ⟨23, .phase⟩ (by simp) rfl
          have g24 := hall ⟨24, .data⟩ (by simp) rfl
          clear hv hx hall
          have hpa := HJ.out.second g24 (getD_both h0)
          obtain ⟨gg, cap, hr, m0, m1⟩ := HPL.out _ _ hpa
          have HPP := Lib.hid hpa
          clear hpa
          subst hr
          refine wpOp_step rfl (fun K hK => ?_)
          go_simp
          exact hK _ _ ⟨rfl, .inr (.inr ⟨getD_set_self (by rw [hl]; decide), getD_set_true g24, getD_set_true g21, getD_set_true g23, _, HPP.out, rfl⟩)⟩
        case he =>
          intro l r w' hu hJ
          obtain ⟨w0, hpa, rfl⟩ := hJ.third (hu 26 (by decide))
          obtain ⟨gg, cap, rfl, hown2, hgrow, hat⟩ := HPB.out _ _ hpa
          simp only [putF, valsAt, Nat.reduceAdd, Nat.zero_add, Nat.reduceEqDiff, reduceIte, List.getD_cons_zero, List.getD_cons_succ, Act.put, List.setIfInBounds_toArray, List.set_cons_succ, List.set_cons_zero]
          go_wp2_with fail
          go_roundw
          case rel =>
            obtain ⟨hR, hN, hCS, hRV, hge, hP, hNi, hPn, -, -⟩ := HQ.out
            have hVw := HR.out.2.2.2.2.2.2.2.2.2
            have hb4 : Below wr.heap.size wr (wr.drew.alloc (.cells #[.int .i64 (i : Int)] 3)) := (Below.refl wr.heap.size wr).drew.alloc (Nat.le_refl _) _
            have hpush := HR.out.1.push hb4 (p := P) (x := i) hPn (by rw [hN, hCS]; exact hown2) (by rw [hR]; exact hgrow) (gg := gg) rfl (by rw [hR]; exact hat.imp id fun h => by rw [h]; exact (World.size_alloc _ _).symm)
            refine ⟨i + 1, _, by go_num, by omega, hpush.congr (fun p _ => ?_), fun p k hp hk => ?_, ?_⟩
            · rw [outT_succ, hge, hP]
              by_cases e2 : p = P
              · subst e2; simp
              · have : ((P : Int) == (p : Int)) = false := by simp; omega
                rw [if_neg e2, this]; simp
            · by_cases e2 : p = P
              · subst e2
                simp only [if_true, Value.ownBlock, Option.some.injEq] at hk
                subst hk
                rcases hat with h | h
                · exact hRV _ h
                · omega
              · rw [if_neg e2] at hk
                exact HR.out.2.1 p k hp hk
            · have hb5 : Below (kx L V).B1 wr w0 := (hb4.mono (show V + 1 ≤ wr.heap.size by omega)).grown hgrow (by rw [World.size_alloc]; show V + 1 ≤ wr.heap.size + 1; omega) (fun k hk => hRV k hk)
              exact HR.out.2.2.1.trans ((Fv.below hb5).trans (Fv.only ((Only.refl L w0).setCell (p := ⟨L, P, none⟩) rfl _) (.inl rfl) (Nat.le_trans (show V + 1 ≤ wr.heap.size by omega) hb5.size)))
          case measure => simp [intOf]; omega
      · obtain rfl : i = g.es.length := by omega
        obtain ⟨hrw, hgt, hfv, hxr, hvr, hbr, hbw, -, hlv, hVw⟩ := HR.out
        obtain ⟨hgn, hn0, hn1, hm, hes, hfr, hto⟩ := HG.out
        have hbv := HW.out.1.bv
        have hlb := HW.out.1.lb
        have hBw : w.heap.size ≤ B := by have h1 := HW.out.1.b; have h2 := H1.out.2.1.size; omega
        have hwL := HW.out.2.2.2.1
        obtain ⟨K, hK⟩ : ∃ K : Vk, K = ⟨n, g.es, 0, B, 0, L, 0, ae, ce, V, 0, wr.heap.size⟩ := ⟨_, rfl⟩
        have hk : K.ok := by
          subst hK
          refine ⟨by show B < wr.heap.size; omega, hVw, by show B ≠ V; omega, hn1, fun j hj => ?_, hm⟩
          have hj : j < g.es.length := hj
          have hmem := hto g.es[j] (List.getElem_mem hj)
          refine ⟨g.es[j].dt.toNat, ?_, by show g.es[j].dt.toNat < n; omega⟩
          show (g.es.getD j noE).dt = ((g.es[j].dt.toNat : Nat) : Int)
          rw [List.getD_eq_getElem?_getD, List.getElem?_eq_getElem hj, Option.getD_some]
          omega
        have hold : OldS K wr := by
          subst hK
          refine ⟨fun p hp => ?_, ?_⟩
          · obtain ⟨a, c, hv, -, -, hc, hrow⟩ := hrw.at p hp
            refine ⟨a, c, ⟨by show L < wr.heap.size; omega, hlb, by show L ≠ V; omega, hc⟩, hrow.imp id fun ⟨q, h1, h2, h3, h4⟩ => ?_⟩
            have hq : V < q := hgt p q hp (by rw [hv, h1]; rfl)
            exact ⟨q, h1, fun i hi => ⟨h3, by show q ≠ B; omega, by show q ≠ V; omega, h4 i hi⟩⟩
          · refine hes.row.imp id fun ⟨b, o, h1, h2⟩ => ⟨b, o, h1, fun i hi => ?_⟩
            obtain ⟨-, k1, -⟩ := eds_at h2 i hi
            have hlt := World.block_lt_of_cell? w _ k1
            simp only at hlt
            exact ⟨by show b < wr.heap.size; omega, by show b ≠ B; omega, by show b ≠ V; omega, keeps_below hbw _ _ _ k1⟩
        have hvs : VsS K (.slice av g.vs.length cv) (.int .i64 g.tmp) (.slice aa g.ar.length ca) (.int .i64 (n : Int)) (.int .i64 g.ext) wr (startV n) := by
          subst hK
          refine ⟨hbr.congr fun i hi => ?_, ⟨_, hvr, World.ownsRow_nil _ _ _ _⟩, Nat.le_refl _⟩
          simp [boolsV, startV, hi]
        have hat := at_any K _ _ _ _ _ hk n 0 0 (startV n) wr hold hvs (by subst hK; exact startV_ok n) (by simp [startV, hn0]) (by simp [startV, Vs.un])
        have hwalk : dfs (sucG K.es) n 0 (startV n) = walkG g := by subst hK; unfold walkG; rw [hgn]
        rw [hwalk] at hat
        have hKp : K.Db = V := by subst hK; rfl
        rw [hKp] at hat
        have HV := Lib.hid (show Calls Tryz.prog 76 #[.pointer (some ⟨V, 0, none⟩), .int .i64 0] wr _ from hat)
        have HF := Lib.hid (And.intro hK (And.intro hVw (And.intro hbv (And.intro hlv (And.intro hBw (And.intro hbw hwL))))))
        clear hrw hgt hfv hxr hvr hbr hbw hlv hVw hgn hn0 hn1 hm hes hfr hto hbv hlb hBw hwL hK hk hold hvs hat hwalk hKp hesr v6
        go_wp2_with (first | (go_at_call 76; (with_reducible refine HV.out.mono ?_); rintro e w7 ⟨rfl, hf7, hv7⟩; have H7 := Lib.hid (And.intro hf7 hv7); clear hf7 hv7) | fail)
        go_ret
        obtain ⟨hf7, hv7⟩ := H7.out
        obtain ⟨rfl, hVw, hbv, hlv, hBw, hbw, hwL⟩ := HF.out
        obtain ⟨dv, hd1, hd2⟩ := hv7.d
        have hs := hbw.size
        exact ⟨V, B, dv, rfl, hBw, ⟨_, hd1⟩, hv7.b, hd2.mono hs, hbw.trans (hf7.old hs hBw (by show w.heap.size ≤ V; omega))⟩
end Go.Proofs.YtjpopelbdhgidaaGreatDoor
