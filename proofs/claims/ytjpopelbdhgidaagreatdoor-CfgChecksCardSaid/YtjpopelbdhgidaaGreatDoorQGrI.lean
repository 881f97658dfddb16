/-
  visits: proved is that it answers which points the plain walk began, and which it did, in their order.
-/
import Derived.Test.YtjpopelbdhgidaaGreatDoorQGrArg
import Derived.Test.YtjpopelbdhgidaaGreatDoorQTourH
import Derived.Test.YtjpopelbdhgidaaGreatDoorQCfgV
import Derived.Deep.Onto
/-
  edgesFrom: proved is that it lays, for each point, the numbers of the edges from it, in rows of its own.
-/
namespace Go.Proofs.YtjpopelbdhgidaaGreatDoor
open Go Go.RowKit Go.Maps

theorem info_icell : (Tryz.prog.info? 3).map (fun i => (i.zero, i.size, i.bytes)) = some (some (.int .i64 0), 1, 8) := by kernel_rfl
theorem info_rows : (Tryz.prog.info? 44).map (fun i => (i.zero, i.size, i.bytes)) = some (some (.slice none 0 0), 1, 24) := by kernel_rfl
theorem one_int (x : Int) : ∀ u ∈ [Value.int .i64 x], u.oneCell' = true := by
  intro u hu
  rw [List.mem_singleton.1 hu]
  rfl
set_option maxRecDepth 100000 in
set_option maxHeartbeats 8000000 in
theorem efrom_any (g : Gf) (av aa ae : Option Addr) (cv ca ce n : Nat) (hn : g.pts = (n : Int)) (hn1 : n ≤ 4096) (hm : g.es.length ≤ 8192) (w : World) (hes : EdsAt w g.es (.slice ae g.es.length ce)) (hfr : ∀ e ∈ g.es, 0 ≤ e.fr ∧ e.fr < g.pts) :
    Calls Tryz.prog 44 #[grS g av cv aa ca ae ce] w (fun e w' => ∃ L vs, e = .returned (.slice (some ⟨L, 0, none⟩) n n) ∧ w.heap.size ≤ L ∧ RwIn w' L n (outL g.es) vs ∧ Below w.heap.size w w') := by
  obtain ⟨a, c, hs, hlc, hcm, hrow⟩ := hes
  cases hs
  show Calls Tryz.prog 44 #[.agg #[.slice av g.vs.length cv, .int .i64 g.tmp, .slice aa g.ar.length ca, .int .i64 g.pts, .int .i64 g.ext, .slice ae g.es.length ce]] w _
  rw [hn] at hfr ⊢
  obtain ⟨W1, hW1⟩ : ∃ W1, w.alloc (.cells #[.slice av g.vs.length cv, .int .i64 g.tmp, .slice aa g.ar.length ca, .int .i64 (n : Int), .int .i64 g.ext, .slice ae g.es.length ce] 30) = W1 := ⟨_, rfl⟩
  obtain ⟨X, hX⟩ : ∃ X, w.heap.size = X := ⟨_, rfl⟩
  have hx1 : Blk W1 X #[.slice av g.vs.length cv, .int .i64 g.tmp, .slice aa g.ar.length ca, .int .i64 (n : Int), .int .i64 g.ext, .slice ae g.es.length ce] 30 := by rw [← hW1, ← hX]; exact Blk.new w _ _
  have hb1 : Below w.heap.size w W1 := by rw [← hW1]; exact (Below.refl _ w).alloc (Nat.le_refl _) _
  obtain ⟨L, hL⟩ : ∃ L, W1.heap.size = L := ⟨_, rfl⟩
  have hXL : X + 1 = L := by rw [← hL, ← hW1, World.size_alloc, hX]
  obtain ⟨W2, hW2⟩ : ∃ W2, W1.alloc (.cells (madeCells #[.slice none 0 0] n) 44) = W2 := ⟨_, rfl⟩
  have hr2 : RwIn W2 L n (outT g.es 0) (fun _ => .slice none 0 0) := by
    rw [← hW2, ← hL]
    exact (RwIn.made W1 n).congr (fun p _ => by simp [outT])
  have hx2 : Blk W2 X #[.slice av g.vs.length cv, .int .i64 g.tmp, .slice aa g.ar.length ca, .int .i64 (n : Int), .int .i64 g.ext, .slice ae g.es.length ce] 30 := by rw [← hW2]; exact hx1.alloc _
  have hb2 : Below w.heap.size w W2 := by rw [← hW2]; exact hb1.alloc hb1.size _
  have x3 : W1.cell? ⟨X, 3, none⟩ = some (.int .i64 (n : Int)) := hx1.cell 3
  have x5 : W2.cell? ⟨X, 5, none⟩ = some (.slice ae g.es.length ce) := hx2.cell 5
  have HMK := fun w => run_make_row' 97 44 (.slice none 0 0) 24 (P := Tryz.prog) (by kernel_rfl) info_rows rfl .i64 .i64 n (by omega) (by omega) w
  obtain ⟨i0, hi0, hz0, hz1, hz2⟩ := info_parts info_icell
  have HI0 := Lib.hid (And.intro hi0 (And.intro hz0 (And.intro hz1 hz2)))
  have HROW := Lib.hid hrow
  have HFR := Lib.hid hfr
  have H2 := Lib.hid (And.intro hr2 (And.intro hb2 (And.intro hn1 (And.intro hm hXL))))
  have HE := Lib.hid (And.intro hW1 (And.intro hX (And.intro hW2 hL)))
  clear hrow hfr hr2 hb2 hx1 hx2 hb1 hXL hn1 hW1 hX hW2 hL hi0 hz0 hz1 hz2 hlc hcm hn
  go_enter Tryz.func44, Tryz.ntmps44
  go_upto_region 1 with fail
  rw [HE.out.1, HE.out.2.1]
  go_upto_region 2 with fail
  rw [HE.out.2.2.1, HE.out.2.2.2]
  go_wp2_with fail
  go_loopw [12] (fun x wr => ∃ (i : Nat) (vs : Nat → Value), x = .int .i64 i ∧ i ≤ g.es.length ∧ RwIn wr L n (outT g.es i) vs ∧ Below L W2 wr) (fun x _ => g.es.length - (intOf x).toNat)
  case atStart => exact ⟨0, _, rfl, by omega, H2.out.1, Below.refl _ _⟩
  case round =>
    obtain ⟨i, vs, rfl, hi, hrw, hbr⟩ := hrel
    clear x3 HMK
    have hLs : L < W2.heap.size := H2.out.1.row.lt
    have HBR := Lib.hid (And.intro hbr (And.intro hrw hLs))
    clear hbr hrw hLs
    by_cases hlt : i < g.es.length
    · have hbi : (i : Int) + 1 ≤ 9223372036854775807 := by omega
      obtain ⟨b, o, rfl, hc⟩ := HROW.out.resolve_left (by omega)
      have hbw : Below w.heap.size w wr := H2.out.2.1.trans (HBR.out.1.mono (by have := HE.out.2.1; have := H2.out.2.2.2.2; omega))
      obtain ⟨k0, k1, k2, k3, k4, k5, k6, k7, k8, k9⟩ := eds_at hc i hlt
      have kk := keeps_below hbw
      have m0 := kk _ _ _ k0
      have m1 := kk _ _ _ k1
      have m2 := kk _ _ _ k2
      have m3 := kk _ _ _ k3
      have m4 := kk _ _ _ k4
      have m5 := kk _ _ _ k5
      have m6 := kk _ _ _ k6
      have m7 := kk _ _ _ k7
      have m8 := kk _ _ _ k8
      have m9 := kk _ _ _ k9
      have hf := HFR.out g.es[i] (List.getElem_mem hlt)
      obtain ⟨e, he⟩ : ∃ e, g.es[i] = e := ⟨_, rfl⟩
      have hge : g.es.getD i noE = e := by rw [List.getD_eq_getElem?_getD, List.getElem?_eq_getElem hlt, Option.getD_some, he]
      rw [he] at m0 m1 m2 m3 m4 m5 m6 m7 m8 m9 hf
      obtain ⟨P, hP⟩ : ∃ P : Nat, e.fr = P := ⟨e.fr.toNat, by omega⟩
      rw [hP] at m0 hf
      have hPn : P < n := by omega
      have hPi : (P : Int) < (n : Int) := hf.2
      obtain ⟨Y, hY⟩ : ∃ Y, wr.heap.size = Y := ⟨_, rfl⟩
      obtain ⟨W3, hW3⟩ : ∃ W3, wr.alloc (.cells #[.int .i64 (P : Int), .int .i64 e.dt, .int .i64 e.kd, .int .i64 e.dst, .int .i64 e.arr, .int .i64 e.op, .int .i64 e.av, .int .i64 e.an, .int .i64 e.bv, .int .i64 e.bn] 40) = W3 := ⟨_, rfl⟩
      have hy3 : Blk W3 Y #[.int .i64 (P : Int), .int .i64 e.dt, .int .i64 e.kd, .int .i64 e.dst, .int .i64 e.arr, .int .i64 e.op, .int .i64 e.av, .int .i64 e.an, .int .i64 e.bv, .int .i64 e.bn] 40 := by rw [← hW3, ← hY]; exact Blk.new wr _ _
      have hb3 : Below wr.heap.size wr W3 := by rw [← hW3]; exact (Below.refl _ wr).alloc (Nat.le_refl _) _
      have hr3 := HBR.out.2.1.below hb3
      obtain ⟨V, hV⟩ : ∃ V, vs P = V := ⟨_, rfl⟩
      have hrc := hr3.row.cell hPn
      have hrf := hr3.row.frozen P
      have hro := hr3.own P hPn
      rw [hV] at hrc hro
      have hVL : ∀ k, V.ownBlock = some k → L + 1 ≤ k := fun k hk => (hro.lt k hk).1
      have hyY : ∀ k, V.ownBlock = some k → k ≠ Y := fun k hk e => by
        have := ((HBR.out.2.1.own P hPn).lt k (by rw [hV]; exact hk)).2
        omega
      have hr4 := fun o => hr3.below ((Below.refl W3.heap.size W3).alloc (Nat.le_refl _) o)
      have hrc4 : ∀ o, (W3.alloc o).cell? ⟨L, P, none⟩ = some V := fun o => by rw [← hV]; exact (hr4 o).row.cell hPn
      have y0 : W3.cell? ⟨Y, 0, none⟩ = some (.int .i64 (P : Int)) := hy3.cell 0
      have y4 : ∀ o, (W3.alloc o).cell? ⟨Y, 0, none⟩ = some (.int .i64 (P : Int)) := fun o => (hy3.alloc o).cell 0
      obtain ⟨N, hN⟩ : ∃ N, (outT g.es i P).length = N := ⟨_, rfl⟩
      have hNi : N ≤ i := by rw [← hN]; exact outT_len _ _ _
      rw [hN] at hro
      obtain ⟨CS, hCS⟩ : ∃ C, cellsN (outT g.es i P) = C := ⟨_, rfl⟩
      rw [hCS] at hro
      have hLW : L < W3.heap.size := hr3.row.lt
      have HRO := Lib.hid hro
      have HG := Lib.hid (And.intro hy3 (And.intro hb3 (And.intro hV (And.intro hN (And.intro hCS (And.intro hVL (And.intro hyY (And.intro hge (And.intro hP (And.intro hNi (And.intro hPn (And.intro hLW (And.intro hr3.row hm)))))))))))))
      have HW3 := Lib.hid (And.intro hW3 hY)
      clear hbw k0 k1 k2 k3 k4 k5 k6 k7 k8 k9 kk hf he hge hP hPn hy3 hb3 hr3 hV hro hVL hyY hr4 hN hCS hNi hLW hc hW3 hY hm
      go_upto_region 5 with fail
      rw [HW3.out.1, HW3.out.2]
      go_region_law
        (refine step_append_lies _ (by rfl) _ _ _ (by rfl) (L + 1) 3 i0 _ 1 8 Tryz.underlying44 HI0.out.1 HI0.out.2.1 HI0.out.2.2.1 HI0.out.2.2.2 rfl (by omega) V N CS (by rfl) (HRO.out.drew.alloc _) ⟨W3.heap.size, 0, none⟩ 1 1 [.int .i64 (i : Int)] (by rfl) (by rfl) (World.news_of_block (cs := #[.int .i64 (i : Int)]) (t := 3) (fr := (0, 0)) (heap_alloc_new W3.drew _)) (one_int _) (by omega) (by unfold maxLen; have := HG.out.2.2.2.2.2.2.2.2.2.1; have := HG.out.2.2.2.2.2.2.2.2.2.2.2.2.2; omega) (by have := HG.out.2.2.2.2.2.2.2.2.2.1; have := HG.out.2.2.2.2.2.2.2.2.2.2.2.2.2; omega) (by simp; have := HG.out.2.2.2.2.2.2.2.2.2.2.2.1; omega) (W3.heap.size + 1) (by simp) ?_
         intro gg cap w2 hown2 hgrow hat hlt2
         have q0 : w2.cell? ⟨Y, 0, none⟩ = some (.int .i64 (P : Int)) := (blk_grown ((show Blk W3.drew Y _ _ from HG.out.1).alloc _) hgrow (fun e => HG.out.2.2.2.2.2.2.1 _ e rfl)).cell 0
         have hL2 : w2.rowIs L 44 n vs := (HG.out.2.2.2.2.2.2.2.2.2.2.2.2.1.drew.alloc _).of_block (hgrow.block L (by simp; have := HG.out.2.2.2.2.2.2.2.2.2.2.2.1; omega) (fun e => by have := HG.out.2.2.2.2.2.1 L e.symm; omega))
         have q1 := hL2.cell HG.out.2.2.2.2.2.2.2.2.2.2.1
         have q2 := hL2.frozen P)
      all_goals
        go_wp2_with fail
        go_roundw
        case rel =>
          obtain ⟨-, hb3, hV, hN, hCS, hVL, hyY, hge, hP, hNi, hPn, hLW, -, hm⟩ := HG.out
          have hb4 : Below wr.heap.size wr (W3.drew.alloc (.cells #[.int .i64 (i : Int)] 3)) := hb3.drew.alloc (by have := hb3.size; exact this) _
          have hat2 : (vs P).ownBlock = some gg ∨ gg = (W3.drew.alloc (.cells #[.int .i64 (i : Int)] 3)).heap.size := by
            rw [hV]
            exact hat.imp id fun h => by rw [h, World.size_alloc]; rfl
          have hpush := HBR.out.2.1.push hb4 (p := P) (x := i) hPn (by rw [hN, hCS]; exact hown2) (by rw [hV]; exact hgrow) (gg := gg) rfl hat2
          refine ⟨i + 1, _, by go_num, by omega, hpush.congr (fun p _ => ?_), ?_⟩
          · rw [outT_succ, hge, hP]
            by_cases e2 : p = P
            · subst e2; simp
            · have : ((P : Int) == (p : Int)) = false := by simp; omega
              rw [if_neg e2, this]; simp
          · have h5 := HBR.out.1.trans (hb4.mono (Nat.le_of_lt HBR.out.2.1.row.lt))
            exact (h5.grown hgrow (Nat.le_trans (Nat.le_of_lt HBR.out.2.2) h5.size) (fun k hk => by have := hVL k hk; omega)).setCell (Nat.le_refl L) _
        case measure => simp [intOf]; omega
    · obtain rfl : i = g.es.length := by omega
      go_wp2_with fail
      go_ret
      exact ⟨L, vs, rfl, by have := HE.out.2.1; have := H2.out.2.2.2.2; omega, HBR.out.2.1, H2.out.2.1.trans (HBR.out.1.mono (by have := HE.out.2.1; have := H2.out.2.2.2.2; omega))⟩
end Go.Proofs.YtjpopelbdhgidaaGreatDoor

/-
  visits, its closure: proved is that it goes the plain walk.
-/
namespace Go.Proofs.YtjpopelbdhgidaaGreatDoor
open Go Go.RowKit Go.Maps

/-- Where a walk's things lie. -/
structure Vk where
  n : Nat
  es : List Ed
  Bb : Nat
  B : Nat
  Fb : Nat
  L : Nat
  Cb : Nat
  ae : Option Addr
  ce : Nat
  Db : Nat
  Vb : Nat
  B1 : Nat
structure Vk.ok (K : Vk) : Prop where
  b1 : K.B < K.B1
  d1 : K.Db < K.B1
  bd : K.B ≠ K.Db
  few : K.n ≤ 4096
  tw : ∀ j, j < K.es.length → ∃ t : Nat, (K.es.getD j noE).dt = (t : Int) ∧ t < K.n
  nE : K.es.length ≤ 8192
/-- A cell that no walk writes. -/
def Cs (K : Vk) (w : World) (b o : Nat) (u : Value) : Prop := b < K.B1 ∧ b ≠ K.B ∧ b ≠ K.Db ∧ w.cell? ⟨b, o, none⟩ = some u
abbrev visitV (K : Vk) : Value := .func (.func 69) #[] #[.pointer (some ⟨K.Bb, 0, none⟩), .pointer (some ⟨K.Fb, 0, none⟩), .pointer (some ⟨K.Cb, 0, none⟩), .pointer (some ⟨K.Vb, 0, none⟩), .pointer (some ⟨K.Db, 0, none⟩)]
/-- What no walk writes. -/
structure Old (K : Vk) (w : World) : Prop where
  bb : Cs K w K.Bb 0 (.slice (some ⟨K.B, 0, none⟩) K.n K.n)
  fb : Cs K w K.Fb 0 (.slice (some ⟨K.L, 0, none⟩) K.n K.n)
  rows : ∀ p, p < K.n → ∃ a c, Cs K w K.L p (.slice a (outL K.es p).length c) ∧ ((outL K.es p).length = 0 ∨ ∃ g, a = some ⟨g, 0, none⟩ ∧ ∀ i (hi : i < (outL K.es p).length), Cs K w g i (.int .i64 ((outL K.es p)[i] : Int)))
  ce : Cs K w K.Cb 5 (.slice K.ae K.es.length K.ce)
  es : K.es.length = 0 ∨ ∃ b o, K.ae = some ⟨b, o, none⟩ ∧ ∀ i (hi : i < K.es.length), Cs K w b (o + i * 10 + 1) (.int .i64 K.es[i].dt)
  vb : Cs K w K.Vb 0 (visitV K)
/-- A walk in memory. -/
structure VsIn (K : Vk) (w : World) (s : Vs) : Prop where
  b : w.rowIs K.B 4 K.n (boolsV s.bg)
  d : ∃ dv, Blk w K.Db #[dv] 44 ∧ w.ownsRow K.B1 3 1 dv s.dn.length (cellsN s.dn)
  size : K.B1 ≤ w.heap.size
/-- w' is w but for the walk's things. -/
structure Fv (K : Vk) (w w' : World) : Prop where
  os : w'.os = w.os
  tape : w'.tape = w.tape
  output : w'.output = w.output
  size : w.heap.size ≤ w'.heap.size
  block : ∀ b, b < K.B1 → b ≠ K.B → b ≠ K.Db → w'.heap[b]? = w.heap[b]?
theorem Fv.refl (K : Vk) (w : World) : Fv K w w := ⟨rfl, rfl, rfl, Nat.le_refl _, fun _ _ _ _ => rfl⟩
theorem Fv.trans {K : Vk} {a b c : World} (h : Fv K a b) (k : Fv K b c) : Fv K a c := ⟨k.os.trans h.os, k.tape.trans h.tape, k.output.trans h.output, Nat.le_trans h.size k.size, fun i h1 h2 h3 => (k.block i h1 h2 h3).trans (h.block i h1 h2 h3)⟩
theorem Fv.drew {K : Vk} {a b : World} (h : Fv K a b) : Fv K a b.drew := ⟨h.os, h.tape, h.output, h.size, h.block⟩
theorem Fv.only {K : Vk} {w w' : World} {X : Nat} (ho : Only X w w') (hX : X = K.B ∨ X = K.Db) (hs : K.B1 ≤ w.heap.size) : Fv K w w' := ⟨ho.os, ho.tape, ho.output, ho.size, fun b h1 h2 h3 => ho.block b (by omega) (by rcases hX with rfl | rfl <;> assumption)⟩
theorem Fv.below {K : Vk} {w w' : World} (hb : Below K.B1 w w') : Fv K w w' := ⟨hb.os, hb.tape, hb.output, hb.size, fun b h1 _ _ => hb.block b h1⟩
theorem Cs.fv {K : Vk} {w w' : World} {b o : Nat} {u : Value} (h : Cs K w b o u) (hf : Fv K w w') : Cs K w' b o u := ⟨h.1, h.2.1, h.2.2.1, (World.cell?_of_block (w := w) (a := ⟨b, o, none⟩) (hf.block b h.1 h.2.1 h.2.2.1)).trans h.2.2.2⟩
theorem Cs.get {K : Vk} {w : World} {b o : Nat} {u : Value} (h : Cs K w b o u) : w.cell? ⟨b, o, none⟩ = some u := h.2.2.2
theorem Old.fv {K : Vk} {w w' : World} (h : Old K w) (hf : Fv K w w') : Old K w' where
  bb := h.bb.fv hf
  fb := h.fb.fv hf
  rows := fun p hp => by
    obtain ⟨a, c, h1, h2⟩ := h.rows p hp
    exact ⟨a, c, h1.fv hf, h2.imp id fun ⟨g, h3, h4⟩ => ⟨g, h3, fun i hi => (h4 i hi).fv hf⟩⟩
  ce := h.ce.fv hf
  es := h.es.imp id fun ⟨b, o, h1, h2⟩ => ⟨b, o, h1, fun i hi => (h2 i hi).fv hf⟩
  vb := h.vb.fv hf
theorem boolsV_set (l : List Bool) (p : Nat) (hp : p < l.length) (j : Nat) : (if j = p then Value.bool true else boolsV l j) = boolsV (l.set p true) j := by
  unfold boolsV
  by_cases h : j = p
  · subst h
    rw [if_pos rfl, List.getD_eq_getElem?_getD, List.getElem?_set_self hp]
    rfl
  · rw [if_neg h, List.getD_eq_getElem?_getD, List.getD_eq_getElem?_getD, List.getElem?_set_ne (fun e => h e.symm)]
theorem VsIn.start {K : Vk} {w : World} {s : Vs} (hk : K.ok) (h : VsIn K w s) (hl : s.bg.length = K.n) {p : Nat} (hp : p < K.n) : VsIn K (w.setCell ⟨K.B, p, none⟩ (.bool true)) (s.start p) ∧ Fv K w (w.setCell ⟨K.B, p, none⟩ (.bool true)) := by
  have ho : Only K.B w (w.setCell ⟨K.B, p, none⟩ (.bool true)) := (Only.refl K.B w).setCell (p := ⟨K.B, p, none⟩) rfl _
  refine ⟨⟨(h.b.set p (.bool true)).congr (fun j _ => boolsV_set s.bg p (by omega) j), ?_, Nat.le_trans h.size ho.size⟩, Fv.only ho (.inl rfl) h.size⟩
  obtain ⟨dv, h1, h2⟩ := h.d
  exact ⟨dv, h1.only ho (fun e => hk.bd e.symm), ownsRow_only h2 ho hk.b1⟩
/-- A point is done: the row grew, and is stored. -/
theorem VsIn.fin {K : Vk} {w w1 w2 : World} {s : Vs} (hk : K.ok) (h : VsIn K w s) (h1 : Below w.heap.size w w1) {p : Nat} {dv v' : Value} (hd : Blk w K.Db #[dv] 44) (hdo : w.ownsRow K.B1 3 1 dv s.dn.length (cellsN s.dn)) (hown : w2.ownsRow K.B1 3 1 v' (s.dn.length + 1) (cellsN s.dn ++ [.int .i64 (p : Int)])) (hg : w1.grownBy w2 dv.ownBlock) :
    VsIn K (w2.setCell ⟨K.Db, 0, none⟩ v') (s.fin p) ∧ Fv K w (w2.setCell ⟨K.Db, 0, none⟩ v') := by
  have hB1 := h.size
  have h1s := h1.size
  have hne : ∀ b, b < K.B1 → some b ≠ dv.ownBlock := fun b hb e => by have := (hdo.lt b e.symm).1; omega
  have hb2 : Below K.B1 w w2 := (h1.mono hB1).grown hg (Nat.le_trans hB1 h1s) (fun k hk => (hdo.lt k hk).1)
  have ho : Only K.Db w2 (w2.setCell ⟨K.Db, 0, none⟩ v') := (Only.refl K.Db w2).setCell (p := ⟨K.Db, 0, none⟩) rfl _
  have hs2 : K.B1 ≤ w2.heap.size := Nat.le_trans hB1 hb2.size
  refine ⟨⟨?_, ⟨v', (hd.below hb2 hk.d1).set 0 v', ?_⟩, Nat.le_trans hs2 ho.size⟩, (Fv.below hb2).trans (Fv.only ho (.inr rfl) hs2)⟩
  · exact (h.b.of_block (hb2.block K.B hk.b1)).of_block (ho.block K.B (Nat.lt_of_lt_of_le hk.b1 hs2) hk.bd)
  · show (w2.setCell ⟨K.Db, 0, none⟩ v').ownsRow K.B1 3 1 v' (s.dn ++ [p]).length (cellsN (s.dn ++ [p]))
    rw [List.length_append, cellsN_snoc]
    exact ownsRow_setCell_below hown hk.d1 _
theorem suc_len (es : List Ed) (p : Nat) : (sucG es p).length = (outL es p).length := by simp [sucG]
theorem suc_take (es : List Ed) (p i : Nat) (h : i < (outL es p).length) : (sucG es p).take (i + 1) = (sucG es p).take i ++ [(es.getD (outL es p)[i] noE).dt.toNat] := by
  have h2 : i < (sucG es p).length := by rw [suc_len]; exact h
  rw [← List.take_append_getElem h2]
  congr 1
  simp [sucG]
def VisitC (K : Vk) (f : Nat) : Prop := ∀ (p k : Nat) (s : Vs) (w : World), Old K w → VsIn K w s → Vok K.n k s → s.bg.getD p true = false → s.un ≤ f →
  Calls Tryz.prog 69 #[.int .i64 (p : Int), .pointer (some ⟨K.Bb, 0, none⟩), .pointer (some ⟨K.Fb, 0, none⟩), .pointer (some ⟨K.Cb, 0, none⟩), .pointer (some ⟨K.Vb, 0, none⟩), .pointer (some ⟨K.Db, 0, none⟩)] w (fun e w' => e = .returned (.tuple #[]) ∧ Fv K w w' ∧ VsIn K w' (dfs (sucG K.es) f p s))
set_option maxRecDepth 100000 in
set_option maxHeartbeats 8000000 in
theorem visit_step (K : Vk) (hk : K.ok) (f : Nat) (ih : VisitC K f) : VisitC K (f + 1) := by
  intro p k s w hold hv hok hp hu
  have hpn : p < K.n := begun_lt hok.len hp
  have hpi : (p : Int) < (K.n : Int) := by omega
  obtain ⟨hst, hfst⟩ := hv.start hk hok.len hpn
  obtain ⟨hok1, hun1⟩ := hok.start hp
  obtain ⟨W1, hW1⟩ : ∃ W1, w.setCell ⟨K.B, p, none⟩ (.bool true) = W1 := ⟨_, rfl⟩
  rw [hW1] at hst hfst
  have hold1 := hold.fv hfst
  have c1 := hold.bb.get
  have hb0 : w.cell? ⟨K.B, p, none⟩ = some (boolsV s.bg p) := hv.b.cell hpn
  have hbf := hv.b.frozen p
  have d2 := hold1.fb.get
  obtain ⟨a, c, hr, hrow⟩ := hold1.rows p hpn
  have d3 := hr.get
  obtain ⟨S1, hS1⟩ : ∃ s1, s.start p = s1 := ⟨_, rfl⟩
  rw [hS1] at hst hok1 hun1
  have hlen : (outL K.es p).length ≤ 8192 := Nat.le_trans (outT_len _ _ _) hk.nE
  have H0 := Lib.hid (And.intro hst (And.intro hfst (And.intro hold1 (And.intro hok1 (And.intro (show S1.un ≤ f by omega) (And.intro hS1 hW1))))))
  have HR := Lib.hid (And.intro hrow hr)
  have HL := Lib.hid hlen
  have HK := Lib.hid hk
  have HIH := Lib.hid ih
  clear hst hfst hold1 hok1 hun1 hr hrow hlen hk ih hold hv hok hp hu hS1 hW1
  go_enter Tryz.func69, Tryz.ntmps69
  go_upto_region 1 with fail
  rw [H0.out.2.2.2.2.2.2]
  clear c1 hb0 hbf
  go_wp2_with fail
  go_loopw [18] (fun x wr => ∃ (i : Nat), x = .int .i64 i ∧ i ≤ (outL K.es p).length ∧ VsIn K wr (dfsL (sucG K.es) f ((sucG K.es p).take i) S1) ∧ Fv K W1 wr) (fun x _ => (outL K.es p).length - (intOf x).toNat)
  case atStart => exact ⟨0, rfl, by omega, H0.out.1, Fv.refl _ _⟩
  case round =>
    obtain ⟨i, rfl, hi, hvi, hfi⟩ := hrel
    have HI := Lib.hid (And.intro hvi hfi)
    have hol := H0.out.2.2.1.fv hfi
    have hoki := dfsL_ok (sucG K.es) K.n f ((sucG K.es p).take i) S1 (k + 1) H0.out.2.2.2.1 H0.out.2.2.2.2.1
    obtain ⟨SI, hSI⟩ : ∃ s, dfsL (sucG K.es) f ((sucG K.es p).take i) S1 = s := ⟨_, rfl⟩
    rw [hSI] at hvi hoki
    clear d2 d3 hpi
    by_cases hlt : i < (outL K.es p).length
    · have hbi : (i : Int) + 1 ≤ 9223372036854775807 := by have := HL.out; omega
      obtain ⟨gg, rfl, hit⟩ := HR.out.1.resolve_left (by omega)
      have hit2 := ((hit i hlt).fv hfi).get
      have hstep := suc_take K.es p i hlt
      have hjl : (outL K.es p)[i] < K.es.length := (outT_lt (List.getElem_mem hlt)).1
      obtain ⟨J, hJ⟩ : ∃ j, (outL K.es p)[i] = j := ⟨_, rfl⟩
      rw [hJ] at hit2 hstep hjl
      obtain ⟨T, hT, hTn⟩ := HK.out.tw J hjl
      rw [hT] at hstep
      have hge : K.es.getD J noE = K.es[J] := by rw [List.getD_eq_getElem?_getD, List.getElem?_eq_getElem hjl, Option.getD_some]
      rw [hge] at hT
      have hce := hol.ce.get
      obtain ⟨eb, eo, hae, hed⟩ := hol.es.resolve_left (by omega)
      have hed2 := (hed J hjl).get
      rw [hT] at hed2
      rw [hae] at hce
      have hbb := hol.bb.get
      have hbc : wr.cell? ⟨K.B, T, none⟩ = some (boolsV SI.bg T) := hvi.b.cell hTn
      have hvb := hol.vb.get
      have hJi : (J : Int) < (K.es.length : Int) := by omega
      have hTi : (T : Int) < (K.n : Int) := by omega
      obtain ⟨b, hb⟩ : ∃ b, SI.bg.getD T false = b := ⟨_, rfl⟩
      have hbt : SI.bg.getD T true = b := by
        have hTl : T < SI.bg.length := by rw [hoki.1.len]; exact hTn
        rw [← hb, List.getD_eq_getElem?_getD, List.getD_eq_getElem?_getD, List.getElem?_eq_getElem hTl]
        rfl
      unfold boolsV at hbc
      rw [hb] at hbc
      have hnext : dfsL (sucG K.es) f ((sucG K.es p).take (i + 1)) S1 = if b = true then SI else dfs (sucG K.es) f T SI := by
        rw [hstep, show ((T : Int)).toNat = T by omega, dfsL_snoc, hSI, hbt]
      have HC := Lib.hid (HIH.out T (k + 1) SI wr hol hvi hoki.1)
      have HN := Lib.hid (And.intro hnext (And.intro hvi (And.intro hfi (And.intro hbt (And.intro hoki.2 hlt)))))
      clear hit hstep hjl hJ hT hge hol hed hvi hfi hoki hSI hb hbt hnext hTn
      cases b with
      | true =>
        go_wp2_with fail
        go_roundw
        case rel => exact ⟨i + 1, by go_num, by have := HN.out.2.2.2.2.2; omega, by rw [HN.out.1]; exact HN.out.2.1, HN.out.2.2.1⟩
        case measure => have := HN.out.2.2.2.2.2; simp [intOf]; omega
      | false =>
        have HC2 := Lib.hid (HC.out HN.out.2.2.2.1 (by have := HN.out.2.2.2.2.1; have := H0.out.2.2.2.2.1; omega))
        go_wp2_with (first | (go_at_call 69; (with_reducible refine HC2.out.mono ?_); rintro e w2 ⟨rfl, hf2, hv2⟩) | fail)
        go_roundw
        case rel => exact ⟨i + 1, by go_num, by have := HN.out.2.2.2.2.2; omega, by rw [HN.out.1]; exact hv2, HN.out.2.2.1.trans hf2⟩
        case measure => have := HN.out.2.2.2.2.2; simp [intOf]; omega
    · obtain rfl : i = (outL K.es p).length := by omega
      have htk : (sucG K.es p).take (outL K.es p).length = sucG K.es p := by rw [← suc_len, List.take_length]
      rw [htk] at hSI
      obtain ⟨dv, hd1, hd2⟩ := hvi.d
      have cd := hd1.cell 0
      have cf := hd1.free 0
      have hN : SI.dn.length ≤ 4096 := by have := hoki.1.cnt; have := HK.out.few; omega
      obtain ⟨N, hNN⟩ : ∃ N, SI.dn.length = N := ⟨_, rfl⟩
      have hd3 := hd2
      rw [hNN] at hd3 hN
      obtain ⟨i0, hi0, hz0, hz1, hz2⟩ := info_parts info_icell
      have HI0 := Lib.hid (And.intro hi0 (And.intro hz0 (And.intro hz1 hz2)))
      have HD3 := Lib.hid hd3
      have HNW := Lib.hid (World.news_of_block (cs := #[.int .i64 (p : Int)]) (t := 3) (fr := (0, 0)) (heap_alloc_new wr (.cells #[.int .i64 (p : Int)] 3)))
      have HSZ := Lib.hid (show K.B1 ≤ (wr.alloc (.cells #[.int .i64 (p : Int)] 3)).heap.size by rw [World.size_alloc]; have := hvi.size; omega)
      have hn1 : N + 1 ≤ maxLen := by unfold maxLen; omega
      have hn2 : (N + 1) * 8 ≤ 140737488355328 := by omega
      have HNN := Lib.hid (And.intro hn1 hn2)
      have HF := Lib.hid (And.intro hvi (And.intro hd1 (And.intro hd2 (And.intro hNN (And.intro hSI (And.intro hfi (And.intro HK.out.d1 (hvi.size))))))))
      have cd2 : (wr.alloc (.cells #[.int .i64 (p : Int)] 3)).cell? ⟨K.Db, 0, none⟩ = some dv := (hd1.alloc _).cell 0
      clear hd3 hi0 hz0 hz1 hz2 hn1 hn2 hvi hd1 hd2 hNN hSI hfi hol hoki hN hlt hi
      go_wp2_with (first | (at_builtin; (with_reducible refine wpList_append_lies _ rfl (.tmp 37) (.tmp 39) 44 rfl K.B1 3 i0 _ 1 8 Tryz.underlying44 HI0.out.1 HI0.out.2.1 HI0.out.2.2.1 HI0.out.2.2.2 rfl (by omega) dv N (cellsN SI.dn) rfl (HD3.out.alloc _) ⟨_, 0, none⟩ 1 1 [.int .i64 (p : Int)] rfl rfl HNW.out (one_int _) (by omega) HNN.out.1 HNN.out.2 HSZ.out _ rfl ?_); (intro g3 cap w3 hown3 hgrow hat hlt3); have e0 : w3.cell? ⟨K.Db, 0, none⟩ = some dv := (blk_grown (HF.out.2.1.alloc _) hgrow (fun e => by have := (HD3.out.lt _ e).1; have := HF.out.2.2.2.2.2.2.1; omega)).cell 0; have e1 : w3.frozen? ⟨K.Db, 0, none⟩ = false := (blk_grown (HF.out.2.1.alloc _) hgrow (fun e => by have := (HD3.out.lt _ e).1; have := HF.out.2.2.2.2.2.2.1; omega)).free 0) | fail)
      go_end0
      obtain ⟨hvi, hd1, hd2, hNN, hSI, hfi, -, -⟩ := HF.out
      obtain ⟨hv3, hf3⟩ := hvi.fin HK.out (w1 := wr.alloc (.cells #[.int .i64 (p : Int)] 3)) ((Below.refl _ wr).alloc (Nat.le_refl _) _) (p := p) hd1 hd2 (v' := .slice (some ⟨g3, 0, none⟩) (N + 1) cap) (by rw [hNN]; exact hown3) hgrow
      refine ⟨rfl, (H0.out.2.1.trans hfi).trans hf3, ?_⟩
      rw [dfs_succ, H0.out.2.2.2.2.2.1, hSI]
      exact hv3
theorem visit_any (K : Vk) (hk : K.ok) : ∀ f, VisitC K f
  | 0 => fun p k s w _ _ _ hp hu => by
    have := un_pos hp
    omega
  | f + 1 => visit_step K hk f (visit_any K hk f)
end Go.Proofs.YtjpopelbdhgidaaGreatDoor

/-
  visits: proved is that it answers which points the plain walk began, and which it did, in their order.
-/
namespace Go.Proofs.YtjpopelbdhgidaaGreatDoor
open Go Go.RowKit Go.Maps

theorem results_two {fn : Func} {p u : Tmp} (h : fn.results = #[.cell p 47, .cell u 44]) (tmps : Array Value) (w : World) (g g' : Nat) (v v' : Value)
    (hp : tmps.getD p undef = .pointer (some ⟨g, 0, none⟩)) (hu : tmps.getD u undef = .pointer (some ⟨g', 0, none⟩)) (hg : w.cell? ⟨g, 0, none⟩ = some v) (hg' : w.cell? ⟨g', 0, none⟩ = some v') :
    (results fn tmps).run Tryz.prog w = .ok (.tuple #[v, v']) w := by
  have hp' : tmps[p]?.getD undef = .pointer (some ⟨g, 0, none⟩) := by simpa using hp
  have hu' : tmps[u]?.getD undef = .pointer (some ⟨g', 0, none⟩) := by simpa using hu
  simp only [results, h]
  simp [hp', hu', asAddr, Sem.run_bind, Result.andThen, go_sem, hg, hg']
theorem Fv.old {K : Vk} {w w' : World} {H : Nat} (h : Fv K w w') (h1 : H ≤ K.B1) (h2 : H ≤ K.B) (h3 : H ≤ K.Db) : Below H w w' := ⟨h.os, h.tape, h.output, h.size, fun b hb => h.block b (by omega) (by omega) (by omega)⟩
theorem info_bool : (Tryz.prog.info? 4).map (fun i => (i.zero, i.size, i.bytes)) = some (some (.bool false), 1, 1) := by kernel_rfl
/-- What a walk of a graph comes to. -/
def VisTo (w : World) (n : Nat) (s : Vs) : Ending → World → Prop := fun e w' => ∃ B a c, e = .returned (.tuple #[.slice (some ⟨B, 0, none⟩) n n, .slice a s.dn.length c]) ∧ w.heap.size ≤ B ∧ w'.rowIs B 4 n (boolsV s.bg) ∧ w'.ownsRow (B + 1) 3 1 (.slice a s.dn.length c) s.dn.length (cellsN s.dn) ∧ Below w.heap.size w w'
set_option maxRecDepth 100000 in
set_option maxHeartbeats 8000000 in
theorem visits_any (g : Gf) (av aa ae : Option Addr) (cv ca ce n : Nat) (hn : g.pts = (n : Int)) (hn0 : 0 < n) (hn1 : n ≤ 4096) (hm : g.es.length ≤ 8192) (w : World) (hes : EdsAt w g.es (.slice ae g.es.length ce)) (hfr : ∀ e ∈ g.es, 0 ≤ e.fr ∧ e.fr < g.pts) (hto : ∀ e ∈ g.es, 0 ≤ e.dt ∧ e.dt < g.pts) :
    Calls Tryz.prog 45 #[grS g av cv aa ca ae ce] w (VisTo w n (walkG g)) := by
  have hgn : g.n = n := by unfold Gf.n; omega
  obtain ⟨W1, hW1⟩ : ∃ W1, ((w.alloc (.cells (grB g av cv aa ca ae ce) 30)).alloc (.cells #[.slice none 0 0] 47)).alloc (.cells #[.slice none 0 0] 44) = W1 := ⟨_, rfl⟩
  obtain ⟨X, hX⟩ : ∃ X, w.heap.size = X := ⟨_, rfl⟩
  have hs1 : W1.heap.size = X + 3 := by rw [← hW1, ← hX]; simp
  have hx1 : Blk W1 X (grB g av cv aa ca ae ce) 30 := by rw [← hW1, ← hX]; exact ((Blk.new w _ _).alloc _).alloc _
  have hbb1 : Blk W1 (X + 1) #[.slice none 0 0] 47 := by rw [← hW1, ← hX]; exact (Blk.at (by simp)).alloc _
  have hdb1 : Blk W1 (X + 2) #[.slice none 0 0] 44 := by rw [← hW1, ← hX]; exact Blk.at (by simp)
  have hb1 : Below w.heap.size w W1 := by rw [← hW1]; exact (((Below.refl _ w).alloc (Nat.le_refl _) _).alloc (by simp) _).alloc (by simp; omega) _
  obtain ⟨Bb, hBb⟩ : ∃ b, X + 1 = b := ⟨_, rfl⟩
  obtain ⟨Db, hDb⟩ : ∃ b, X + 2 = b := ⟨_, rfl⟩
  obtain ⟨B, hB⟩ : ∃ b, X + 3 = b := ⟨_, rfl⟩
  rw [hBb] at hbb1
  rw [hDb] at hdb1
  rw [hB] at hs1
  obtain ⟨W2, hW2⟩ : ∃ W2, (W1.alloc (.cells (madeCells #[.bool false] n) 4)).setCell ⟨Bb, 0, none⟩ (.slice (some ⟨B, 0, none⟩) n n) = W2 := ⟨_, rfl⟩
  have hro2 : W2.rowIs B 4 n (fun _ => .bool false) := by
    rw [← hW2, ← hs1]
    exact (World.rowIs_made W1 (.bool false) n _).setOther (a := ⟨Bb, 0, none⟩) (by show W1.heap.size ≠ Bb; omega) _
  have hbb2 : Blk W2 Bb #[.slice (some ⟨B, 0, none⟩) n n] 47 := by rw [← hW2]; exact (hbb1.alloc _).set 0 _
  have hdb2 : Blk W2 Db #[.slice none 0 0] 44 := by rw [← hW2]; exact (hdb1.alloc _).other (a := ⟨Bb, 0, none⟩) (by show Db ≠ Bb; omega) _
  have hx2 : Blk W2 X (grB g av cv aa ca ae ce) 30 := by rw [← hW2]; exact (hx1.alloc _).other (a := ⟨Bb, 0, none⟩) (by show X ≠ Bb; omega) _
  have hb2 : Below w.heap.size w W2 := by rw [← hW2]; exact (hb1.alloc hb1.size _).setCell (by show w.heap.size ≤ Bb; omega) _
  have hs2 : W2.heap.size = B + 1 := by rw [← hW2]; simp [hs1]
  have x3 : W1.cell? ⟨X, 3, none⟩ = some (.int .i64 (n : Int)) := by rw [← hn]; exact hx1.cell 3
  have b0 : ∀ o, (W1.alloc o).cell? ⟨Bb, 0, none⟩ = some (.slice none 0 0) := fun o => (hbb1.alloc o).cell 0
  have bf : ∀ o, (W1.alloc o).frozen? ⟨Bb, 0, none⟩ = false := fun o => (hbb1.alloc o).free 0
  have y : ∀ i, W2.cell? ⟨X, i, none⟩ = (grB g av cv aa ca ae ce)[i]? := fun i => hx2.cell i
  have y0 := y 0
  have y1 := y 1
  have y2 := y 2
  have y3 := y 3
  have y4 := y 4
  have y5 := y 5
  simp only [grB, List.getElem?_toArray, List.getElem?_cons_zero, List.getElem?_cons_succ] at y0 y1 y2 y3 y4 y5
  have HMK := fun w => run_make_row' 47 4 (.bool false) 1 (P := Tryz.prog) (by kernel_rfl) info_bool rfl .i64 .i64 n (by omega) (by omega) w
  have HFR := Lib.hid (efrom_any g av aa ae cv ca ce n hn hn1 hm W2 (hes.keep (keeps_below hb2)) hfr)
  have H2 := Lib.hid (And.intro hro2 (And.intro hbb2 (And.intro hdb2 (And.intro hx2 (And.intro hb2 hs2)))))
  have HDB := Lib.hid (show Bb + 1 = Db by omega)
  have HE := Lib.hid (And.intro hW1 (And.intro hX (And.intro hBb (And.intro hDb (And.intro hB (And.intro hW2 hs1))))))
  have HG := Lib.hid (And.intro hgn (And.intro hn0 (And.intro hn1 (And.intro hm (And.intro hes (And.intro hto hn))))))
  clear y hro2 hbb2 hdb2 hx2 hb2 hs2 hW1 hX hBb hDb hB hW2 hs1 hx1 hbb1 hdb1 hb1 hgn hn0 hn1 hm hes hfr hto hn
  have hsf := fun (a : Addr) (k : Nat) (cs : Array Value) (w : World) => run_store Tryz.prog w a (.func (.func k) #[] cs) .plain rfl
  go_enter Tryz.func45, Tryz.ntmps45
  go_upto_region 1 with fail
  rw [HE.out.1, HE.out.2.1, HE.out.2.2.1, HDB.out]
  go_upto_region 2 with fail
  rw [HE.out.2.2.2.2.2.2, HE.out.2.2.2.2.2.1]
  clear x3 b0 bf HMK
  go_upto_region 3 with (first | (go_at_call 44; (with_reducible refine HFR.out.mono ?_); rintro e w4 ⟨L, vs, rfl, hL, hrw, hb4⟩; have HF := Lib.hid (And.intro hL (And.intro hrw hb4)); clear hL hrw hb4 y0 y1 y2 y3 y4 y5) | fail)
  go_upto_region 5 with fail
  obtain ⟨Fb, hFb⟩ : ∃ b, w4.heap.size = b := ⟨_, rfl⟩
  obtain ⟨Vb, hVb⟩ : ∃ b, Fb + 1 = b := ⟨_, rfl⟩
  obtain ⟨W6, hW6⟩ : ∃ W6, (w4.alloc (.cells #[.slice (some ⟨L, 0, none⟩) n n] 97)).alloc (.cells #[.func (.func 69) #[] #[.pointer (some ⟨Bb, 0, none⟩), .pointer (some ⟨Fb, 0, none⟩), .pointer (some ⟨X, 0, none⟩), .pointer (some ⟨Vb, 0, none⟩), .pointer (some ⟨Db, 0, none⟩)]] 118) = W6 := ⟨_, rfl⟩
  rw [hFb, hVb, hW6]
  obtain ⟨hL, hrw, hb4⟩ := HF.out
  obtain ⟨hro2, hbb2, hdb2, hx2, hb2, hs2⟩ := H2.out
  obtain ⟨-, hX, hBb, hDb, hB, -, hs1⟩ := HE.out
  obtain ⟨hgn, hn0, hn1, hm, hes, hto, hn⟩ := HG.out
  have hL2 : B + 1 ≤ L := by omega
  have hLw : L < w4.heap.size := hrw.row.lt
  have h46 : Below w4.heap.size w4 W6 := by rw [← hW6]; exact ((Below.refl _ w4).alloc (Nat.le_refl _) _).alloc (by simp) _
  have hs6 : W6.heap.size = Vb + 1 := by rw [← hW6]; simp; omega
  have h26 : Below W2.heap.size W2 W6 := bel hb4 h46
  have hrw6 := hrw.below h46
  have hfb6 : Blk W6 Fb #[.slice (some ⟨L, 0, none⟩) n n] 97 := by rw [← hW6, ← hFb]; exact (Blk.new w4 _ _).alloc _
  have hvb6 : Blk W6 Vb #[.func (.func 69) #[] #[.pointer (some ⟨Bb, 0, none⟩), .pointer (some ⟨Fb, 0, none⟩), .pointer (some ⟨X, 0, none⟩), .pointer (some ⟨Vb, 0, none⟩), .pointer (some ⟨Db, 0, none⟩)]] 118 := by rw [← hW6]; exact Blk.at (by simp; omega)
  have hbb6 := hbb2.below h26 hbb2.lt
  have hdb6 := hdb2.below h26 hdb2.lt
  have hx6 := hx2.below h26 hx2.lt
  have hro6 : W6.rowIs B 4 n (fun _ => .bool false) := hro2.of_block (h26.block B hro2.lt)
  have hw6 : Below w.heap.size w W6 := bel hb2 h26
  obtain ⟨K, hK⟩ : ∃ K : Vk, K = ⟨n, g.es, Bb, B, Fb, L, X, ae, ce, Db, Vb, Vb + 1⟩ := ⟨_, rfl⟩
  have hk : K.ok := by
    subst hK
    refine ⟨by show B < Vb + 1; omega, by show Db < Vb + 1; omega, by show B ≠ Db; omega, hn1, fun j hj => ?_, hm⟩
    have hj : j < g.es.length := hj
    have hmem := hto g.es[j] (List.getElem_mem hj)
    refine ⟨g.es[j].dt.toNat, ?_, by show g.es[j].dt.toNat < n; omega⟩
    show (g.es.getD j noE).dt = ((g.es[j].dt.toNat : Nat) : Int)
    rw [List.getD_eq_getElem?_getD, List.getElem?_eq_getElem hj, Option.getD_some]
    omega
  have hold : Old K W6 := by
    subst hK
    refine ⟨⟨by show Bb < Vb + 1; omega, by show Bb ≠ B; omega, by show Bb ≠ Db; omega, hbb6.cell 0⟩, ⟨by show Fb < Vb + 1; omega, by show Fb ≠ B; omega, by show Fb ≠ Db; omega, hfb6.cell 0⟩, fun p hp => ?_, ⟨by show X < Vb + 1; omega, by show X ≠ B; omega, by show X ≠ Db; omega, hx6.cell 5⟩, ?_, ⟨by show Vb < Vb + 1; omega, by show Vb ≠ B; omega, by show Vb ≠ Db; omega, hvb6.cell 0⟩⟩
    · obtain ⟨a, c, -, -, -, hc, hrow⟩ := hrw.at p hp
      have kk := keeps_below h46
      refine ⟨a, c, ⟨by show L < Vb + 1; omega, by show L ≠ B; omega, by show L ≠ Db; omega, kk _ _ _ hc⟩, hrow.imp id fun ⟨q, h1, h2, h3, h4⟩ => ⟨q, h1, fun i hi => ⟨by show q < Vb + 1; omega, by show q ≠ B; omega, by show q ≠ Db; omega, kk _ _ _ (h4 i hi)⟩⟩⟩
    · obtain ⟨_, _, hsl, -, -, her⟩ := hes
      cases hsl
      refine her.imp id fun ⟨b, o, h1, h2⟩ => ⟨b, o, h1, fun i hi => ?_⟩
      obtain ⟨-, k1, -⟩ := eds_at h2 i hi
      have hlt := World.block_lt_of_cell? w _ k1
      simp only at hlt
      exact ⟨by show b < Vb + 1; omega, by show b ≠ B; omega, by show b ≠ Db; omega, keeps_below hw6 _ _ _ k1⟩
  have hvs : VsIn K W6 (startV n) := by
    subst hK
    refine ⟨hro6.congr fun i hi => ?_, ⟨_, hdb6, World.ownsRow_nil _ _ _ _⟩, by rw [hs6]; exact Nat.le_refl _⟩
    simp [boolsV, startV, hi]
  have hvis := visit_any K hk n 0 0 (startV n) W6 hold hvs (by subst hK; exact startV_ok n) (by simp [startV, hn0]) (by simp [startV, Vs.un])
  have hwalk : dfs (sucG K.es) n 0 (startV n) = walkG g := by subst hK; unfold walkG; rw [hgn]
  rw [hwalk] at hvis
  have hKp : K.Bb = Bb ∧ K.B = B ∧ K.Fb = Fb ∧ K.Cb = X ∧ K.Vb = Vb ∧ K.Db = Db ∧ K.B1 = Vb + 1 ∧ K.n = n := by subst hK; exact ⟨rfl, rfl, rfl, rfl, rfl, rfl, rfl, rfl⟩
  obtain ⟨p1, p2, p3, p4, p5, p6, p7, p8⟩ := hKp
  rw [p1, p3, p4, p5, p6] at hvis
  have HV := Lib.hid (show Calls Tryz.prog 69 #[.int .i64 0, .pointer (some ⟨Bb, 0, none⟩), .pointer (some ⟨Fb, 0, none⟩), .pointer (some ⟨X, 0, none⟩), .pointer (some ⟨Vb, 0, none⟩), .pointer (some ⟨Db, 0, none⟩)] W6 _ from hvis)
  have v0 := hvb6.cell 0
  simp only [List.getElem?_toArray, List.getElem?_cons_zero] at v0
  have H6 := Lib.hid (And.intro hbb6 (And.intro hw6 (And.intro p2 (And.intro p6 (And.intro p7 (And.intro p8 (And.intro hX (And.intro hBb (And.intro hDb hB)))))))))
  have HVB := Lib.hid (show B < Vb ∧ Db < Vb ∧ Bb < Vb by omega)
  clear hW6 hL hrw hb4 hro2 hbb2 hdb2 hx2 hb2 hs2 hX hBb hDb hB hs1 hgn hn0 hn1 hm hes hto hn hL2 hLw h46 hs6 h26 hrw6 hfb6 hvb6 hbb6 hdb6 hx6 hro6 hw6 hk hold hvs hvis hwalk p1 p2 p3 p4 p5 p6 p7 p8 hFb hVb hK
  go_upto_region 6 with (first | (go_at_call 69; (with_reducible refine HV.out.mono ?_); rintro e w7 ⟨rfl, hf7, hv7⟩; have HW := Lib.hid (And.intro hf7 hv7); clear hf7 hv7 v0) | fail)
  obtain ⟨hf7, hv7⟩ := HW.out
  obtain ⟨hbb6, hw6, p2, p6, p7, p8, hX, hBb, hDb, hB⟩ := H6.out
  obtain ⟨g1, g2, g3⟩ := HVB.out
  have hbb7 : Blk w7 Bb #[.slice (some ⟨B, 0, none⟩) n n] 47 := (hf7.block Bb (by rw [p7]; omega) (by rw [p2]; omega) (by rw [p6]; omega)).trans hbb6
  obtain ⟨dv, hd1, hd2⟩ := hv7.d
  rw [p6] at hd1
  rw [p7] at hd2
  obtain ⟨da, dc, rfl, -⟩ := own_len hd2
  have hb7 := hv7.b
  rw [p2, p8] at hb7
  have c0 : w7.cell? ⟨Bb, 0, none⟩ = some (.slice (some ⟨B, 0, none⟩) n n) := hbb7.cell 0
  have c1 : w7.frozen? ⟨Bb, 0, none⟩ = false := hbb7.free 0
  have c2 : w7.cell? ⟨Db, 0, none⟩ = some (.slice da (walkG g).dn.length dc) := hd1.cell 0
  have c3 : w7.frozen? ⟨Db, 0, none⟩ = false := hd1.free 0
  have hne : Bb ≠ Db := by omega
  have H7 := Lib.hid (And.intro hbb7 (And.intro hd1 (And.intro hd2 (And.intro hb7 (And.intro (hw6.trans (hf7.old (by rw [p7]; omega) (by rw [p2]; omega) (by rw [p6]; omega))) (And.intro hBb (And.intro hDb (And.intro hB (And.intro hX g1)))))))))
  clear hf7 hv7 hbb6 hw6 p2 p6 p7 p8 hX hBb hDb hB g1 g2 g3 hbb7 hd1 hd2 hb7
  go_region
  go_wp2_with fail
  obtain ⟨hbb7, hd1, hd2, hb7, hw7, hBb, hDb, hB, hX, g1⟩ := H7.out
  have hbs := (hbb7.set 0 (.slice (some ⟨B, 0, none⟩) n n)).other (a := ⟨Db, 0, none⟩) (by show Bb ≠ Db; exact hne) (.slice da (walkG g).dn.length dc)
  have hds := (hd1.other (a := ⟨Bb, 0, none⟩) (by show Db ≠ Bb; exact fun e => hne e.symm) (.slice (some ⟨B, 0, none⟩) n n)).set 0 (.slice da (walkG g).dn.length dc)
  refine bodyPost_ret (results_two rfl _ _ Bb Db (.slice (some ⟨B, 0, none⟩) n n) (.slice da (walkG g).dn.length dc) rfl rfl (hbs.cell 0) (hds.cell 0)) rfl ?_
  refine ⟨B, da, dc, rfl, by omega, (hb7.setOther (a := ⟨Bb, 0, none⟩) (by show B ≠ Bb; omega) _).setOther (a := ⟨Db, 0, none⟩) (by show B ≠ Db; omega) _, ?_, ((hw7.setCell (p := ⟨Bb, 0, none⟩) (by show w.heap.size ≤ Bb; omega) _).setCell (p := ⟨Db, 0, none⟩) (by show w.heap.size ≤ Db; omega) _).drew⟩
  exact (ownsRow_setCell_below (ownsRow_setCell_below hd2 (a := ⟨Bb, 0, none⟩) (by show Bb < Vb + 1; omega) _) (a := ⟨Db, 0, none⟩) (by show Db < Vb + 1; omega) _).mono (by omega)
end Go.Proofs.YtjpopelbdhgidaaGreatDoor
