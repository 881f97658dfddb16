/-
  Heads: proved is that it tells the plain row of heads of every graph that is one, or the error.
-/
import Derived.Test.YtjpopelbdhgidaaGreatDoorQGrJ
import Derived.Test.YtjpopelbdhgidaaGreatDoorQGsI
import Derived.StillTailTactics
/-
  Reached, Out: proved is what they tell of every graph.
-/
namespace Go.Proofs.YtjpopelbdhgidaaGreatDoor
open Go Go.RowKit Go.Maps

/-- What Reached tells. -/
def RchTo (w : World) (g : Gf) : Ending → World → Prop := fun e w' => Below w.heap.size w w' ∧ ((chkG g = 0 ∧ ∃ B, e = .returned (.tuple #[.slice (some ⟨B, 0, none⟩) g.n g.n, .int .i64 0]) ∧ w.heap.size ≤ B ∧ w'.rowIs B 4 g.n (boolsV (walkG g).bg)) ∨ (chkG g ≠ 0 ∧ e = .returned (.tuple #[.slice none 0 0, .int .i64 (chkG g)])))
set_option maxRecDepth 100000 in
set_option maxHeartbeats 8000000 in
theorem reached_any (g : Gf) (av aa ae : Option Addr) (cv ca ce : Nat) (w : World) (hg : GrIn w g (.slice av g.vs.length cv) (.slice aa g.ar.length ca) (.slice ae g.es.length ce)) (hnv : g.vs.length ≤ 9223372036854775807) (htab : TabF w) :
    Calls Tryz.prog 13 #[grS g av cv aa ca ae ce] w (RchTo w g) := by
  obtain ⟨W1, hW1⟩ : ∃ W1, w.alloc (.cells (grB g av cv aa ca ae ce) 30) = W1 := ⟨_, rfl⟩
  obtain ⟨X, hX⟩ : ∃ X, w.heap.size = X := ⟨_, rfl⟩
  have hx1 : Blk W1 X (grB g av cv aa ca ae ce) 30 := by rw [← hW1, ← hX]; exact Blk.new w _ _
  have hb1 : Below w.heap.size w W1 := by rw [← hW1]; exact (Below.refl _ w).alloc (Nat.le_refl _) _
  have HCK := Lib.hid (check_any g av aa ae cv ca ce W1 (hg.next hb1) hnv (htab.next hb1))
  obtain ⟨F, hF⟩ : ∃ f, chkG g = f := ⟨_, rfl⟩
  unfold RchTo
  rw [hF] at HCK ⊢
  have x0 := hx1.cell 0
  have x1 := hx1.cell 1
  have x2 := hx1.cell 2
  have x3 := hx1.cell 3
  have x4 := hx1.cell 4
  have x5 := hx1.cell 5
  simp only [grB, List.getElem?_toArray, List.getElem?_cons_zero, List.getElem?_cons_succ] at x0 x1 x2 x3 x4 x5
  have H1 := Lib.hid (And.intro hx1 (And.intro hb1 (And.intro hF hg)))
  have HE := Lib.hid (And.intro hW1 hX)
  clear hx1 hb1 hW1 hX hg hnv htab hF
  by_cases hz : F = 0
  · subst hz
    obtain ⟨q0, qf⟩ := chk_zero H1.out.2.2.1
    obtain ⟨q1, q2, q3, q4, q5⟩ := out_zero q0
    obtain ⟨n, hn⟩ : ∃ n : Nat, g.pts = n := ⟨g.pts.toNat, by omega⟩
    have hgn : g.n = n := by unfold Gf.n; omega
    have HVI := Lib.hid (fun w' (hb : Below w.heap.size w w') => visits_any g av aa ae cv ca ce n hn (by omega) (by omega) (by omega) w' (H1.out.2.2.2.next hb).es (right_fr (frm_right qf)) (right_to (frm_right qf)))
    rw [hgn]
    clear q0 qf q1 q2 q3 q4 q5 hn hgn
    go_enter Tryz.func13, Tryz.ntmps13
    go_upto_region 1 with fail
    rw [HE.out.1, HE.out.2]
    go_upto_region 4 with (first | (go_at_call 16; (with_reducible refine HCK.out.mono ?_); rintro e w2 ⟨rfl, hb2⟩; have HB2 := Lib.hid (And.intro (H1.out.1.next hb2) (H1.out.2.1.trans (hb2.mono H1.out.2.1.size))); clear hb2 x0 x1 x2 x3 x4 x5) | fail)
    have x0 := HB2.out.1.cell 0
    have x1 := HB2.out.1.cell 1
    have x2 := HB2.out.1.cell 2
    have x3 := HB2.out.1.cell 3
    have x4 := HB2.out.1.cell 4
    have x5 := HB2.out.1.cell 5
    simp only [grB, List.getElem?_toArray, List.getElem?_cons_zero, List.getElem?_cons_succ] at x0 x1 x2 x3 x4 x5
    go_wp2_with (first | (go_at_call 45; (with_reducible refine (HVI.out _ HB2.out.2).mono ?_); rintro e w3 ⟨B, da, dc, rfl, hB, hbo, hdo, hb3⟩; have HV := Lib.hid (And.intro hB (And.intro hbo (And.intro hdo hb3))); clear hB hbo hdo hb3 x0 x1 x2 x3 x4 x5) | fail)
    go_ret2
    exact ⟨bel HB2.out.2 HV.out.2.2.2, .inl ⟨trivial, B, rfl, Nat.le_trans HB2.out.2.size HV.out.1, HV.out.2.1⟩⟩
  · have t1 : (F != 0) = true := by simpa using hz
    have HZ := Lib.hid hz
    clear hz
    go_enter Tryz.func13, Tryz.ntmps13
    go_upto_region 1 with fail
    rw [HE.out.1, HE.out.2]
    go_wp2_with (first | (go_at_call 16; (with_reducible refine HCK.out.mono ?_); rintro e w2 ⟨rfl, hb2⟩; have HB2 := Lib.hid (H1.out.2.1.trans (hb2.mono H1.out.2.1.size)); clear hb2) | fail)
    go_ret2
    exact ⟨HB2.out, .inr ⟨HZ.out, rfl⟩⟩
/-- What Out tells. -/
def OutTo (w : World) (g : Gf) (p : Int) : Ending → World → Prop := fun e w' => Below w.heap.size w w' ∧ ((chkG g = 0 ∧ amg p g.pts = true ∧ ∃ a c, e = .returned (.tuple #[.slice a (outL g.es p.toNat).length c, .int .i64 0]) ∧ (outL g.es p.toNat).length ≤ c ∧ c ≤ maxLen ∧ NumsAt w' (outL g.es p.toNat) a) ∨ (chkG g = 0 ∧ amg p g.pts = false ∧ e = .returned (.tuple #[.slice none 0 0, .int .i64 92])) ∨ (chkG g ≠ 0 ∧ e = .returned (.tuple #[.slice none 0 0, .int .i64 (chkG g)])))
set_option maxRecDepth 100000 in
set_option maxHeartbeats 8000000 in
theorem gout_any (g : Gf) (p : Int) (av aa ae : Option Addr) (cv ca ce : Nat) (w : World) (hg : GrIn w g (.slice av g.vs.length cv) (.slice aa g.ar.length ca) (.slice ae g.es.length ce)) (hnv : g.vs.length ≤ 9223372036854775807) (htab : TabF w) :
    Calls Tryz.prog 12 #[grS g av cv aa ca ae ce, .int .i64 p] w (OutTo w g p) := by
  obtain ⟨W1, hW1⟩ : ∃ W1, w.alloc (.cells (grB g av cv aa ca ae ce) 30) = W1 := ⟨_, rfl⟩
  obtain ⟨X, hX⟩ : ∃ X, w.heap.size = X := ⟨_, rfl⟩
  have hx1 : Blk W1 X (grB g av cv aa ca ae ce) 30 := by rw [← hW1, ← hX]; exact Blk.new w _ _
  have hb1 : Below w.heap.size w W1 := by rw [← hW1]; exact (Below.refl _ w).alloc (Nat.le_refl _) _
  have HCK := Lib.hid (check_any g av aa ae cv ca ce W1 (hg.next hb1) hnv (htab.next hb1))
  obtain ⟨F, hF⟩ : ∃ f, chkG g = f := ⟨_, rfl⟩
  unfold OutTo
  rw [hF] at HCK ⊢
  have x0 := hx1.cell 0
  have x1 := hx1.cell 1
  have x2 := hx1.cell 2
  have x3 := hx1.cell 3
  have x4 := hx1.cell 4
  have x5 := hx1.cell 5
  simp only [grB, List.getElem?_toArray, List.getElem?_cons_zero, List.getElem?_cons_succ] at x0 x1 x2 x3 x4 x5
  have H1 := Lib.hid (And.intro hx1 (And.intro hb1 (And.intro hF hg)))
  have HE := Lib.hid (And.intro hW1 hX)
  clear hx1 hb1 hW1 hX hg hnv htab hF
  by_cases hz : F = 0
  · subst hz
    obtain ⟨q0, qf⟩ := chk_zero H1.out.2.2.1
    obtain ⟨q1, q2, q3, q4, q5⟩ := out_zero q0
    obtain ⟨n, hn⟩ : ∃ n : Nat, g.pts = n := ⟨g.pts.toNat, by omega⟩
    have HFR := Lib.hid (fun w' (hb : Below w.heap.size w w') => efrom_any g av aa ae cv ca ce n hn (by omega) (by omega) w' (H1.out.2.2.2.next hb).es (right_fr (frm_right qf)))
    have HAM := Lib.hid (fun w => among_any p g.pts w)
    obtain ⟨AM, hAM⟩ : ∃ b, amg p g.pts = b := ⟨_, rfl⟩
    rw [hAM] at HAM ⊢
    cases AM with
    | false =>
      clear q0 qf q1 q2 q3 q4 q5 hn
      go_enter Tryz.func12, Tryz.ntmps12
      go_upto_region 1 with fail
      rw [HE.out.1, HE.out.2]
      go_upto_region 4 with (first | (go_at_call 16; (with_reducible refine HCK.out.mono ?_); rintro e w2 ⟨rfl, hb2⟩; have HB2 := Lib.hid (And.intro (H1.out.1.next hb2) (H1.out.2.1.trans (hb2.mono H1.out.2.1.size))); clear hb2 x0 x1 x2 x3 x4 x5) | fail)
      have x3 := HB2.out.1.cell 3
      simp only [grB, List.getElem?_toArray, List.getElem?_cons_zero, List.getElem?_cons_succ] at x3
      go_wp2_with (first | (go_at_call 43; (with_reducible refine (HAM.out _).mono ?_); rintro q w3 ⟨rfl, rfl⟩) | fail)
      go_ret2
      exact ⟨HB2.out.2, .inr (.inl ⟨trivial, trivial, rfl⟩)⟩
    | true =>
      obtain ⟨P, hP⟩ : ∃ P : Nat, p = P := ⟨p.toNat, by have := amg_true hAM; omega⟩
      subst hP
      have hPn : P < n := by have := amg_true hAM; omega
      have hPi : (P : Int) < (n : Int) := by omega
      rw [Int.toNat_natCast]
      have HPN := Lib.hid hPn
      clear q0 qf q1 q2 q3 q4 q5 hn hPn hAM
      go_enter Tryz.func12, Tryz.ntmps12
      go_upto_region 1 with fail
      rw [HE.out.1, HE.out.2]
      go_upto_region 4 with (first | (go_at_call 16; (with_reducible refine HCK.out.mono ?_); rintro e w2 ⟨rfl, hb2⟩; have HB2 := Lib.hid (And.intro (H1.out.1.next hb2) (H1.out.2.1.trans (hb2.mono H1.out.2.1.size))); clear hb2 x0 x1 x2 x3 x4 x5) | fail)
      have x0 := HB2.out.1.cell 0
      have x1 := HB2.out.1.cell 1
      have x2 := HB2.out.1.cell 2
      have x3 := HB2.out.1.cell 3
      have x4 := HB2.out.1.cell 4
      have x5 := HB2.out.1.cell 5
      simp only [grB, List.getElem?_toArray, List.getElem?_cons_zero, List.getElem?_cons_succ] at x0 x1 x2 x3 x4 x5
      go_wp2_with (first | (go_at_call 43; (with_reducible refine (HAM.out _).mono ?_); rintro q w3 ⟨rfl, rfl⟩) | (go_at_call 44; (with_reducible refine (HFR.out _ HB2.out.2).mono ?_); rintro q w3 ⟨L, vs, rfl, hL, hrw, hb3⟩; obtain ⟨a, c, hv, hlc, hcm, hcl, hrow⟩ := hrw.at P HPN.out; have HR := Lib.hid (And.intro hlc (And.intro hcm (And.intro hrow hb3))); clear hL hrw hb3 hv hlc hcm hrow x0 x1 x2 x3 x4 x5) | fail)
      go_ret2
      exact ⟨bel HB2.out.2 HR.out.2.2.2, .inl ⟨trivial, trivial, a, c, rfl, HR.out.1, HR.out.2.1, HR.out.2.2.1.imp id fun ⟨b, h1, _, _, h4⟩ => ⟨b, h1, h4⟩⟩⟩
  · have t1 : (F != 0) = true := by simpa using hz
    have HZ := Lib.hid hz
    clear hz
    go_enter Tryz.func12, Tryz.ntmps12
    go_upto_region 1 with fail
    rw [HE.out.1, HE.out.2]
    go_wp2_with (first | (go_at_call 16; (with_reducible refine HCK.out.mono ?_); rintro e w2 ⟨rfl, hb2⟩; have HB2 := Lib.hid (H1.out.2.1.trans (hb2.mono H1.out.2.1.size)); clear hb2) | fail)
    go_ret2
    exact ⟨HB2.out, .inr (.inr ⟨HZ.out, rfl⟩)⟩
end Go.Proofs.YtjpopelbdhgidaaGreatDoor

/-
  targets, Heads: proved is that they tell the plain row of heads, for every graph.
-/
namespace Go.Proofs.YtjpopelbdhgidaaGreatDoor
open Go Go.RowKit Go.Maps

/-- How far a region that stores at last has come. -/
def Jt (W : World) (A : Addr) (v : Value) (l : Array Bool) (w' : World) : Prop := (l.getD 22 false = false ∧ w' = W) ∨ (l.getD 22 false = true ∧ (∀ j, j < 22 → l.getD j false = true) ∧ w' = W.setCell A v)
theorem Jt.first {W : World} {A : Addr} {v : Value} {l : Array Bool} {w' : World} (h : Jt W A v l w') {i : Nat} (hi : i < 22) (h0 : l.getD i false = false) : l.getD 22 false = false ∧ w' = W := by
  rcases h with h | ⟨-, h, -⟩
  · exact h
  · rw [h i hi] at h0; cases h0
theorem Jt.last {W : World} {A : Addr} {v : Value} {l : Array Bool} {w' : World} (h : Jt W A v l w') (h0 : l.getD 22 false = false) : w' = W := by
  rcases h with h | ⟨h, -⟩
  · exact h.2
  · rw [h] at h0; cases h0
theorem Jt.done {W : World} {A : Addr} {v : Value} {l : Array Bool} {w' : World} (h : Jt W A v l w') (h0 : l.getD 22 false = true) : w' = W.setCell A v := by
  rcases h with ⟨h, -⟩ | ⟨-, -, h⟩
  · rw [h] at h0; cases h0
  · exact h
set_option maxRecDepth 100000 in
set_option maxHeartbeats 8000000 in
theorem targets_any (es : List Ed) (l : List Nat) (n : Nat) (ae oa : Option Addr) (ce oc : Nat) (hn0 : 0 < n) (hn1 : n ≤ 4096) (hm : es.length ≤ 8192) (w : World) (hes : EdsAt w es (.slice ae es.length ce)) (hfr : ∀ e ∈ es, 0 ≤ e.fr ∧ e.fr < (n : Int)) (hto : ∀ e ∈ es, 0 ≤ e.dt ∧ e.dt < (n : Int)) (hol : l.length = n) (hoa : ∀ i (hi : i < l.length), l.getD i 0 = l[i] ∧ l[i] < n) (hnum : NumsAt w l oa) :
    Calls Tryz.prog 46 #[.slice ae es.length ce, .slice oa n oc] w (fun e w' => ∃ u, e = .returned u ∧ w'.ownsRow w.heap.size 3 1 u (tgtT n es l).length (cellsN (tgtT n es l)) ∧ Below w.heap.size w w') := by
  have HMB := fun w => run_make_row' 47 4 (.bool false) 1 (P := Tryz.prog) (by kernel_rfl) info_bool rfl .i64 .i64 n (by omega) (by omega) w
  have HMI := fun w => run_make_row' 44 3 (.int .i64 0) 8 (P := Tryz.prog) (by kernel_rfl) info_icell rfl .i64 .i64 n (by omega) (by omega) w
  obtain ⟨i0, hi0, hz0, hz1, hz2⟩ := info_parts info_icell
  have HI0 := Lib.hid (And.intro hi0 (And.intro hz0 (And.intro hz1 hz2)))
  obtain ⟨A, hA⟩ : ∃ A, w.heap.size = A := ⟨_, rfl⟩
  obtain ⟨W4, hW4⟩ : ∃ W4, w.alloc (.cells (madeCells #[.int .i64 0] n) 3) = W4 := ⟨_, rfl⟩
  have hro : W4.rowIs A 3 n (fun _ => .int .i64 0) := by rw [← hW4, ← hA]; exact World.rowIs_made w (.int .i64 0) n _
  have hb4 : Below w.heap.size w W4 := by rw [← hW4]; exact (Below.refl _ w).alloc (Nat.le_refl _) _
  have HG := Lib.hid (And.intro hn0 (And.intro hn1 (And.intro hm (And.intro hes (And.intro hfr (And.intro hto (And.intro hol (And.intro hoa hnum))))))))
  have H4 := Lib.hid (And.intro hro (And.intro (hnum.keep (keeps_below hb4)) hb4))
  have HE4 := Lib.hid (And.intro hW4 hA)
  have HN0 := Lib.hid hn1
  clear hn0 hn1 hm hes hfr hto hol hoa hnum hA hW4 hro hb4 hi0 hz0 hz1 hz2
  go_enter Tryz.func46, Tryz.ntmps46
  go_upto_region 2 with fail
  rw [HE4.out.1, HE4.out.2]
  go_wp2_with fail
  go_loopw [18] (fun x wr => ∃ i : Nat, x = .int .i64 i ∧ i ≤ n ∧ wr.rowIs A 3 n (natsV (atT n l i)) ∧ Only A W4 wr) (fun x _ => n - (intOf x).toNat)
  case atStart => exact ⟨0, rfl, by omega, H4.out.1.congr (fun j hj => by simp [natsV, atT, hj]), Only.refl _ _⟩
  case round =>
    obtain ⟨i, rfl, hi, hrw, ho⟩ := hrel
    have HR := Lib.hid (And.intro hrw ho)
    have hA4 : A < W4.heap.size := H4.out.1.lt
    by_cases hlt : i < n
    · have hbi : (i : Int) + 1 ≤ 9223372036854775807 := by have := HN0.out; omega
      have hii : (i : Int) < (n : Int) := by omega
      have hil : i < l.length := by rw [HG.out.2.2.2.2.2.2.1]; exact hlt
      obtain ⟨gd, rfl, hds⟩ := H4.out.2.1.resolve_left (by omega)
      have c0 := hds i hil
      have hgl := World.block_lt_of_cell? W4 _ c0
      simp only at hgl
      have hgA : gd ≠ A := fun e => by
        obtain ⟨gd', h0, h1⟩ := HG.out.2.2.2.2.2.2.2.2.resolve_left (by omega)
        cases h0
        have h2 := World.block_lt_of_cell? w _ (h1 i hil)
        simp only at h2
        have h3 := HE4.out.2
        omega
      have c1 : wr.cell? ⟨gd, i, none⟩ = some (.int .i64 (l[i] : Int)) := (World.cell?_of_block (w := W4) (a := ⟨gd, i, none⟩) (ho.block gd hgl hgA)).trans c0
      obtain ⟨hg1, hg2⟩ := HG.out.2.2.2.2.2.2.2.1 i hil
      obtain ⟨P, hP⟩ : ∃ P, l[i] = P := ⟨_, rfl⟩
      rw [hP] at c1 hg1 hg2
      have hPi : (P : Int) < (n : Int) := by omega
      have c2 := hrw.cell hg2
      have c3 := hrw.frozen P
      have HP := Lib.hid (And.intro hg1 hg2)
      clear hrw ho hds c0 hgl hgA hP hg1 hg2 hil hA4 HMB HMI
      go_wp2_with fail
      go_roundw
      case rel =>
        refine ⟨i + 1, by go_num, by omega, (HR.out.1.set P (.int .i64 (i : Int))).congr (fun j _ => ?_), HR.out.2.setCell (p := ⟨A, P, none⟩) rfl _⟩
        rw [atT, HP.out.1]
        exact natsV_set _ P i (by rw [atT_len]; exact HP.out.2) j
      case measure => simp [intOf]; omega
    · obtain rfl : n = i := by omega
      obtain ⟨w5, hw5⟩ : ∃ x, x = wr := ⟨_, rfl⟩
      subst hw5
      obtain ⟨Hd, hHd⟩ : ∃ H, w5.heap.size = H := ⟨_, rfl⟩
      obtain ⟨W6, hW6⟩ : ∃ W, w5.alloc (.cells (madeCells #[.bool false] n) 4) = W := ⟨_, rfl⟩
      have hbo6 : W6.rowIs Hd 4 n (fun _ => .bool false) := by rw [← hW6, ← hHd]; exact World.rowIs_made w5 (.bool false) n _
      have hb56 : Below w5.heap.size w5 W6 := by rw [← hW6]; exact (Below.refl _ w5).alloc (Nat.le_refl _) _
      have hAH : A < Hd := by rw [← hHd]; exact hrw.lt
      have hwA : w.heap.size ≤ A := by have := HE4.out.2; omega
      have hbw5 : Below w.heap.size w w5 := H4.out.2.2.trans (ho.old hwA H4.out.2.2.size)
      have hbw6 : Below w.heap.size w W6 := bel hbw5 hb56
      obtain ⟨aT, haT⟩ : ∃ t, atT n l n = t := ⟨_, rfl⟩
      rw [haT] at hrw
      have hrA6 : W6.rowIs A 3 n (natsV aT) := hrw.of_block (hb56.block A (by omega))
      have H5 := Lib.hid (And.intro hbo6 (And.intro hbw6 (And.intro haT (And.intro hrA6 (And.intro hAH hwA)))))
      have HE5 := Lib.hid (And.intro hW6 hHd)
      have HM0 := Lib.hid HG.out.2.2.1
      clear hHd hW6 hbo6 hb56 hAH hwA hbw5 hbw6 haT hrw hrA6 ho hA4 HMI
      go_upto_region 8 with fail
      rw [HE5.out.1, HE5.out.2]
      clear HMB
      go_wp2_with fail
      go_loopw [33] (fun x wr => ∃ k : Nat, x = .int .i64 k ∧ k ≤ es.length ∧ wr.rowIs Hd 4 n (boolsV (backT n aT es k)) ∧ Only Hd W6 wr) (fun x _ => es.length - (intOf x).toNat)
      case atStart => exact ⟨0, rfl, by omega, H5.out.1.congr (fun j hj => by simp [boolsV, backT, hj]), Only.refl _ _⟩
      case round =>
        obtain ⟨k, rfl, hk, hrw, ho⟩ := hrel
        have hbw : Below w.heap.size w wr := H5.out.2.1.trans (ho.old (by have := H5.out.2.2.2.2; omega) H5.out.2.1.size)
        have HR2 := Lib.hid (And.intro hrw (And.intro ho hbw))
        by_cases hlt : k < es.length
        · have hbi : (k : Int) + 1 ≤ 9223372036854775807 := by have := HM0.out; omega
          have hii : (k : Int) < (es.length : Int) := by omega
          obtain ⟨b, o, rfl, hc⟩ := (HG.out.2.2.2.1.keep (keeps_below hbw)).row.resolve_left (by omega)
          obtain ⟨k0, k1, k2, k3, k4, k5, k6, k7, k8, k9⟩ := eds_at hc k hlt
          have hf := HG.out.2.2.2.2.1 es[k] (List.getElem_mem hlt)
          have ht := HG.out.2.2.2.2.2.1 es[k] (List.getElem_mem hlt)
          have hge : es.getD k noE = es[k] := by rw [List.getD_eq_getElem?_getD, List.getElem?_eq_getElem hlt, Option.getD_some]
          obtain ⟨e, he⟩ : ∃ e, es[k] = e := ⟨_, rfl⟩
          rw [he] at k0 k1 k2 k3 k4 k5 k6 k7 k8 k9 hf ht hge
          obtain ⟨P, hP⟩ : ∃ P : Nat, e.fr = P := ⟨e.fr.toNat, by omega⟩
          obtain ⟨T, hT⟩ : ∃ T : Nat, e.dt = T := ⟨e.dt.toNat, by omega⟩
          rw [hP] at k0 hf
          rw [hT] at k1 ht
          have hPi : (P : Int) < (n : Int) := by omega
          have hTi : (T : Int) < (n : Int) := by omega
          have hTn : T < n := by omega
          have hib : isBack aT e = decide (((aT.getD T 0 : Nat) : Int) ≤ ((aT.getD P 0 : Nat) : Int)) := by
            unfold isBack
            rw [hP, hT, Int.toNat_natCast, Int.toNat_natCast]
            exact decide_eq_decide.2 (by omega)
          have hstep : backT n aT es (k + 1) = (backT n aT es k).set T ((backT n aT es k).getD T false || isBack aT e) := by rw [backT, hge, hT, Int.toNat_natCast]
          obtain ⟨Y, hY⟩ : ∃ Y, wr.heap.size = Y := ⟨_, rfl⟩
          obtain ⟨W7, hW7⟩ : ∃ W, wr.alloc (.cells #[.int .i64 (P : Int), .int .i64 (T : Int), .int .i64 e.kd, .int .i64 e.dst, .int .i64 e.arr, .int .i64 e.op, .int .i64 e.av, .int .i64 e.an, .int .i64 e.bv, .int .i64 e.bn] 40) = W := ⟨_, rfl⟩
          have hy : Blk W7 Y #[.int .i64 (P : Int), .int .i64 (T : Int), .int .i64 e.kd, .int .i64 e.dst, .int .i64 e.arr, .int .i64 e.op, .int .i64 e.av, .int .i64 e.an, .int .i64 e.bv, .int .i64 e.bn] 40 := by rw [← hW7, ← hY]; exact Blk.new wr _ _
          have hb7 : Below wr.heap.size wr W7 := by rw [← hW7]; exact (Below.refl _ wr).alloc (Nat.le_refl _) _
          have hr7 : W7.rowIs Hd 4 n (boolsV (backT n aT es k)) := hrw.of_block (hb7.block Hd hrw.lt)
          have hrA : W7.rowIs A 3 n (natsV aT) := (H5.out.2.2.2.1.of_block (ho.block A H5.out.2.2.2.1.lt (by have := H5.out.2.2.2.2.1; omega))).of_block (hb7.block A (Nat.lt_of_lt_of_le H5.out.2.2.2.1.lt ho.size))
          have cP : W7.cell? ⟨A, P, none⟩ = some (natsV aT P) := hrA.cell (by omega)
          have cT : W7.cell? ⟨A, T, none⟩ = some (natsV aT T) := hrA.cell hTn
          unfold natsV at cP cT
          obtain ⟨u1, hu1⟩ : ∃ u : Int, ((aT.getD T 0 : Nat) : Int) = u := ⟨_, rfl⟩
          obtain ⟨u2, hu2⟩ : ∃ u : Int, ((aT.getD P 0 : Nat) : Int) = u := ⟨_, rfl⟩
          rw [hu2] at cP
          rw [hu1] at cT
          rw [hu1, hu2] at hib
          have cB : W7.cell? ⟨Hd, T, none⟩ = some (boolsV (backT n aT es k) T) := hr7.cell hTn
          have fB := hr7.frozen T
          unfold boolsV at cB
          obtain ⟨D, hD⟩ : ∃ d, decide (u1 ≤ u2) = d := ⟨_, rfl⟩
          rw [hib, hD] at hstep
          obtain ⟨O, hO⟩ : ∃ d, (backT n aT es k).getD T false = d := ⟨_, rfl⟩
          rw [hO] at cB
          have y0 : W7.cell? ⟨Y, 0, none⟩ = some (.int .i64 (P : Int)) := hy.cell 0
          have y1 : W7.cell? ⟨Y, 1, none⟩ = some (.int .i64 (T : Int)) := hy.cell 1
          have HS := Lib.hid (And.intro hstep (And.intro hTn (And.intro hO (And.intro hr7 (Only.trans ho (Only.below hb7))))))
          have HE7 := Lib.hid (And.intro hW7 hY)
          clear hrw ho hbw hc hf ht hge he hP hT hib hstep hTn hY hW7 hy hb7 hr7 hrA hu1 hu2 hO
          have hfin : ∀ V : Bool, V = (O || D) → ∃ k2 : Nat, Value.int .i64 ((k : Int) + 1) = .int .i64 k2 ∧ k2 ≤ es.length ∧ (W7.drew.setCell ⟨Hd, T, none⟩ (.bool V)).rowIs Hd 4 n (boolsV (backT n aT es k2)) ∧ Only Hd W6 (W7.drew.setCell ⟨Hd, T, none⟩ (.bool V)) := fun V hV => by
            refine ⟨k + 1, by go_num, by omega, ((show W7.drew.rowIs Hd 4 n (boolsV (backT n aT es k)) from HS.out.2.2.2.1).set T (.bool V)).congr (fun j _ => ?_), (HS.out.2.2.2.2.trans (Only.below (Below.refl _ W7).drew)).setCell (p := ⟨Hd, T, none⟩) rfl _⟩
            rw [HS.out.1, HS.out.2.2.1, ← hV]
            have hlen : T < (backT n aT es k).length := by rw [backT_len]; exact HS.out.2.1
            unfold boolsV
            by_cases h : j = T
            · subst h
              rw [if_pos rfl, List.getD_eq_getElem?_getD, List.getElem?_set_self hlen]
              rfl
            · rw [if_neg h, List.getD_eq_getElem?_getD, List.getD_eq_getElem?_getD, List.getElem?_set_ne (fun e => h e.symm)]
          have HFI := Lib.hid hfin
          clear hfin
          cases O with
          | true =>
            go_upto_region 11 with fail
            rw [HE7.out.1, HE7.out.2]
            clear k0 k1 k2 k3 k4 k5 k6 k7 k8 k9
            refine wp_region_any (by kernel_rfl) ?_
            refine wpAny_grow [37, 38, 39, 40, 41, 42, 43, 44, 45, 46, 47, 48, 49, 50, 51, 52, 53, 54, 55, 56, 57, 58] (fun _ j => valsAt [.slice (some ⟨Hd, 0, none⟩) n n, .pointer (some ⟨Y, 1, none⟩), .int .i64 (T : Int), .slice (some ⟨Hd, 0, none⟩) n n, .pointer (some ⟨Y, 1, none⟩), .int .i64 (T : Int), .pointer (some ⟨Hd, T, none⟩), .bool true, .bool true, undef, undef, undef, undef, undef, undef, undef, undef, undef, undef, undef, .bool true, .pointer (some ⟨Hd, T, none⟩)] j) (fun l _ w' => Jt W7.drew ⟨Hd, T, none⟩ (.bool true) l w') 100 undef rfl (fun _ _ _ _ => rfl) (by kernel_rfl) (by decide) (by kernel_rfl) ?hs ?hl ?he ?hj
            case hj => exact .inl ⟨rfl, rfl⟩
            case hs =>
              intro i' oo ho hil l r fr0 hl h0 hall hv hx w' hJ
              obtain ⟨e1, rfl⟩ := hJ.first hil (getD_both h0)
              have E1 := Lib.hid e1
              have hi : i' < 22 := hil
              clear hJ hall e1
              have hcase : i' = 0 ∨ i' = 1 ∨ i' = 2 ∨ i' = 3 ∨ i' = 4 ∨ i' = 5 ∨ i' = 6 ∨ i' = 7 ∨ i' = 8 ∨ i' = 9 ∨ i' = 10 ∨ i' = 11 ∨ i' = 12 ∨ i' = 13 ∨ i' = 14 ∨ i' = 15 ∨ i' = 16 ∨ i' = 17 ∨ i' = 18 ∨ i' = 19 ∨ i' = 20 ∨ i' = 21 := by omega
              clear hi hil
              rcases hcase with rfl | rfl | rfl | rfl | rfl | rfl | rfl | rfl | rfl | rfl | rfl | rfl | rfl | rfl | rfl | rfl | rfl | rfl | rfl | rfl | rfl | rfl
              · obtain rfl := Option.some.inj ho.symm
                clear ho
                have x8 : fr0.tmps[(8 : Nat)]? = some (.slice (some ⟨Hd, 0, none⟩) n n) := hx 8 (by decide)
                clear hv hx h0
                refine wpOp_step rfl (fun K hK => ?_)
                go_simp
                exact hK _ _ ⟨r, fun _ => rfl, rfl, .inl ⟨by rw [getD_set_ne false (by decide)]; exact E1.out, rfl⟩⟩
              · obtain rfl := Option.some.inj ho.symm
                clear ho
                have x10 : fr0.tmps[(10 : Nat)]? = some (.pointer (some ⟨Y, 0, none⟩)) := hx 10 (by decide)
                clear hv hx h0
                refine wpOp_step rfl (fun K hK => ?_)
                go_simp
                exact hK _ _ ⟨r, fun _ => rfl, rfl, .inl ⟨by rw [getD_set_ne false (by decide)]; exact E1.out, rfl⟩⟩
              · obtain rfl := Option.some.inj ho.symm
                clear ho
                have d1 : fr0.tmps[(38 : Nat)]? = some (.pointer (some ⟨Y, 1, none⟩)) := hv ⟨1, .data⟩ (by simp) rfl
                clear hv hx h0
                refine wpOp_step rfl (fun K hK => ?_)
                go_simp
                exact hK _ _ ⟨r, fun _ => rfl, rfl, .inl ⟨by rw [getD_set_ne false (by decide)]; exact E1.out, rfl⟩⟩
              · obtain rfl := Option.some.inj ho.symm
                clear ho
                have x8 : fr0.tmps[(8 : Nat)]? = some (.slice (some ⟨Hd, 0, none⟩) n n) := hx 8 (by decide)
                clear hv hx h0
                refine wpOp_step rfl (fun K hK => ?_)
                go_simp
                exact hK _ _ ⟨r, fun _ => rfl, rfl, .inl ⟨by rw [getD_set_ne false (by decide)]; exact E1.out, rfl⟩⟩
              · obtain rfl := Option.some.inj ho.symm
                clear ho
                have x10 : fr0.tmps[(10 : Nat)]? = some (.pointer (some ⟨Y, 0, none⟩)) := hx 10 (by decide)
                clear hv hx h0
                refine wpOp_step rfl (fun K hK => ?_)
                go_simp
                exact hK _ _ ⟨r, fun _ => rfl, rfl, .inl ⟨by rw [getD_set_ne false (by decide)]; exact E1.out, rfl⟩⟩
              · obtain rfl := Option.some.inj ho.symm
                clear ho
                have d4 : fr0.tmps[(41 : Nat)]? = some (.pointer (some ⟨Y, 1, none⟩)) := hv ⟨4, .data⟩ (by simp) rfl
                clear hv hx h0
                refine wpOp_step rfl (fun K hK => ?_)
                go_simp
                exact hK _ _ ⟨r, fun _ => rfl, rfl, .inl ⟨by rw [getD_set_ne false (by decide)]; exact E1.out, rfl⟩⟩
              · obtain rfl := Option.some.inj ho.symm
                clear ho
                have d3 : fr0.tmps[(40 : Nat)]? = some (.slice (some ⟨Hd, 0, none⟩) n n) := hv ⟨3, .data⟩ (by simp) rfl
                have d5 : fr0.tmps[(42 : Nat)]? = some (.int .i64 (T : Int)) := hv ⟨5, .data⟩ (by simp) rfl
                clear hv hx h0
                refine wpOp_step rfl (fun K hK => ?_)
                go_simp
                exact hK _ _ ⟨r, fun _ => rfl, rfl, .inl ⟨by rw [getD_set_ne false (by decide)]; exact E1.out, rfl⟩⟩
              · obtain rfl := Option.some.inj ho.symm
                clear ho
                have d6 : fr0.tmps[(43 : Nat)]? = some (.pointer (some ⟨Hd, T, none⟩)) := hv ⟨6, .data⟩ (by simp) rfl
                clear hv hx h0
                refine wpOp_step rfl (fun K hK => ?_)
                go_simp
                exact hK _ _ ⟨r, fun _ => rfl, rfl, .inl ⟨by rw [getD_set_ne false (by decide)]; exact E1.out, rfl⟩⟩
              · obtain rfl := Option.some.inj ho.symm
                clear ho
                have d7 : fr0.tmps[(44 : Nat)]? = some (.bool true) := hv ⟨7, .data⟩ (by simp) rfl
                clear hv hx h0
                refine wpOp_step rfl (fun K hK => ?_)
                go_simp
                exact hK _ _ ⟨r, fun _ => rfl, rfl, .inl ⟨by rw [getD_set_ne false (by decide)]; exact E1.out, rfl⟩⟩
              · obtain rfl := Option.some.inj ho.symm
                clear ho
                have d8 : fr0.tmps[(45 : Nat)]? = some (.bool true) := hv ⟨8, .guard⟩ (by simp) rfl
                have x5 : fr0.tmps[(5 : Nat)]? = some (.slice (some ⟨A, 0, none⟩) n n) := hx 5 (by decide)
                clear hv hx h0
                refine wpOp_step rfl (fun K hK => ?_)
                go_simp
                exact hK _ _ ⟨r, fun _ => rfl, rfl, .inl ⟨by rw [getD_set_ne false (by decide)]; exact E1.out, rfl⟩⟩
              · obtain rfl := Option.some.inj ho.symm
                clear ho
                have d8 : fr0.tmps[(45 : Nat)]? = some (.bool true) := hv ⟨8, .guard⟩ (by simp) rfl
                have x10 : fr0.tmps[(10 : Nat)]? = some (.pointer (some ⟨Y, 0, none⟩)) := hx 10 (by decide)
                clear hv hx h0
                refine wpOp_step rfl (fun K hK => ?_)
                go_simp
                exact hK _ _ ⟨r, fun _ => rfl, rfl, .inl ⟨by rw [getD_set_ne false (by decide)]; exact E1.out, rfl⟩⟩
              · obtain rfl := Option.some.inj ho.symm
                clear ho
                have d10 : fr0.tmps[(47 : Nat)]? = some (undef) := hv ⟨10, .data⟩ (by simp) rfl
                have d8 : fr0.tmps[(45 : Nat)]? = some (.bool true) := hv ⟨8, .guard⟩ (by simp) rfl
                clear hv hx h0
                refine wpOp_step rfl (fun K hK => ?_)
                go_simp
                exact hK _ _ ⟨r, fun _ => rfl, rfl, .inl ⟨by rw [getD_set_ne false (by decide)]; exact E1.out, rfl⟩⟩
              · obtain rfl := Option.some.inj ho.symm
                clear ho
                have d9 : fr0.tmps[(46 : Nat)]? = some (undef) := hv ⟨9, .data⟩ (by simp) rfl
                have d11 : fr0.tmps[(48 : Nat)]? = some (undef) := hv ⟨11, .data⟩ (by simp) rfl
                have d8 : fr0.tmps[(45 : Nat)]? = some (.bool true) := hv ⟨8, .guard⟩ (by simp) rfl
                clear hv hx h0
                refine wpOp_step rfl (fun K hK => ?_)
                go_simp
                exact hK _ _ ⟨r, fun _ => rfl, rfl, .inl ⟨by rw [getD_set_ne false (by decide)]; exact E1.out, rfl⟩⟩
              · obtain rfl := Option.some.inj ho.symm
                clear ho
                have d12 : fr0.tmps[(49 : Nat)]? = some (undef) := hv ⟨12, .data⟩ (by simp) rfl
                have d8 : fr0.tmps[(45 : Nat)]? = some (.bool true) := hv ⟨8, .guard⟩ (by simp) rfl
                clear hv hx h0
                refine wpOp_step rfl (fun K hK => ?_)
                go_simp
                exact hK _ _ ⟨r, fun _ => rfl, rfl, .inl ⟨by rw [getD_set_ne false (by decide)]; exact E1.out, rfl⟩⟩
              · obtain rfl := Option.some.inj ho.symm
                clear ho
                have d8 : fr0.tmps[(45 : Nat)]? = some (.bool true) := hv ⟨8, .guard⟩ (by simp) rfl
                have x5 : fr0.tmps[(5 : Nat)]? = some (.slice (some ⟨A, 0, none⟩) n n) := hx 5 (by decide)
                clear hv hx h0
                refine wpOp_step rfl (fun K hK => ?_)
                go_simp
                exact hK _ _ ⟨r, fun _ => rfl, rfl, .inl ⟨by rw [getD_set_ne false (by decide)]; exact E1.out, rfl⟩⟩
              · obtain rfl := Option.some.inj ho.symm
                clear ho
                have d8 : fr0.tmps[(45 : Nat)]? = some (.bool true) := hv ⟨8, .guard⟩ (by simp) rfl
                have x10 : fr0.tmps[(10 : Nat)]? = some (.pointer (some ⟨Y, 0, none⟩)) := hx 10 (by decide)
                clear hv hx h0
                refine wpOp_step rfl (fun K hK => ?_)
                go_simp
                exact hK _ _ ⟨r, fun _ => rfl, rfl, .inl ⟨by rw [getD_set_ne false (by decide)]; exact E1.out, rfl⟩⟩
              · obtain rfl := Option.some.inj ho.symm
                clear ho
                have d15 : fr0.tmps[(52 : Nat)]? = some (undef) := hv ⟨15, .data⟩ (by simp) rfl
                have d8 : fr0.tmps[(45 : Nat)]? = some (.bool true) := hv ⟨8, .guard⟩ (by simp) rfl
                clear hv hx h0
                refine wpOp_step rfl (fun K hK => ?_)
                go_simp
                exact hK _ _ ⟨r, fun _ => rfl, rfl, .inl ⟨by rw [getD_set_ne false (by decide)]; exact E1.out, rfl⟩⟩
              · obtain rfl := Option.some.inj ho.symm
                clear ho
                have d14 : fr0.tmps[(51 : Nat)]? = some (undef) := hv ⟨14, .data⟩ (by simp) rfl
                have d16 : fr0.tmps[(53 : Nat)]? = some (undef) := hv ⟨16, .data⟩ (by simp) rfl
                have d8 : fr0.tmps[(45 : Nat)]? = some (.bool true) := hv ⟨8, .guard⟩ (by simp) rfl
                clear hv hx h0
                refine wpOp_step rfl (fun K hK => ?_)
                go_simp
                exact hK _ _ ⟨r, fun _ => rfl, rfl, .inl ⟨by rw [getD_set_ne false (by decide)]; exact E1.out, rfl⟩⟩
              · obtain rfl := Option.some.inj ho.symm
                clear ho
                have d17 : fr0.tmps[(54 : Nat)]? = some (undef) := hv ⟨17, .data⟩ (by simp) rfl
                have d8 : fr0.tmps[(45 : Nat)]? = some (.bool true) := hv ⟨8, .guard⟩ (by simp) rfl
                clear hv hx h0
                refine wpOp_step rfl (fun K hK => ?_)
                go_simp
                exact hK _ _ ⟨r, fun _ => rfl, rfl, .inl ⟨by rw [getD_set_ne false (by decide)]; exact E1.out, rfl⟩⟩
              · obtain rfl := Option.some.inj ho.symm
                clear ho
                have d13 : fr0.tmps[(50 : Nat)]? = some (undef) := hv ⟨13, .data⟩ (by simp) rfl
                have d18 : fr0.tmps[(55 : Nat)]? = some (undef) := hv ⟨18, .data⟩ (by simp) rfl
                have d8 : fr0.tmps[(45 : Nat)]? = some (.bool true) := hv ⟨8, .guard⟩ (by simp) rfl
                clear hv hx h0
                refine wpOp_step rfl (fun K hK => ?_)
                go_simp
                exact hK _ _ ⟨r, fun _ => rfl, rfl, .inl ⟨by rw [getD_set_ne false (by decide)]; exact E1.out, rfl⟩⟩
              · obtain rfl := Option.some.inj ho.symm
                clear ho
                have d8 : fr0.tmps[(45 : Nat)]? = some (.bool true) := hv ⟨8, .data⟩ (by simp) rfl
                have d19 : fr0.tmps[(56 : Nat)]? = some (undef) := hv ⟨19, .data⟩ (by simp) rfl
                clear hv hx h0
                refine wpOp_step rfl (fun K hK => ?_)
                go_simp
                exact hK _ _ ⟨r, fun _ => rfl, rfl, .inl ⟨by rw [getD_set_ne false (by decide)]; exact E1.out, rfl⟩⟩
              · obtain rfl := Option.some.inj ho.symm
                clear ho
                have d0 : fr0.tmps[(37 : Nat)]? = some (.slice (some ⟨Hd, 0, none⟩) n n) := hv ⟨0, .data⟩ (by simp) rfl
                have d2 : fr0.tmps[(39 : Nat)]? = some (.int .i64 (T : Int)) := hv ⟨2, .data⟩ (by simp) rfl
                clear hv hx h0
                refine wpOp_step rfl (fun K hK => ?_)
                go_simp
                exact hK _ _ ⟨r, fun _ => rfl, rfl, .inl ⟨by rw [getD_set_ne false (by decide)]; exact E1.out, rfl⟩⟩
            case hl =>
              intro oo ho l r fr0 hl h0 hall hv hx w' hJ
              obtain rfl := Option.some.inj ho.symm
              clear ho
              have d21 : fr0.tmps[(58 : Nat)]? = some (.pointer (some ⟨Hd, T, none⟩)) := hv ⟨21, .data⟩ (by simp) rfl
              have d20 : fr0.tmps[(57 : Nat)]? = some (.bool true) := hv ⟨20, .data⟩ (by simp) rfl
              have hj : ∀ j, j < 22 → l.getD j false = true := fun j hj => by
                have hcase : j = 0 ∨ j = 1 ∨ j = 2 ∨ j = 3 ∨ j = 4 ∨ j = 5 ∨ j = 6 ∨ j = 7 ∨ j = 8 ∨ j = 9 ∨ j = 10 ∨ j = 11 ∨ j = 12 ∨ j = 13 ∨ j = 14 ∨ j = 15 ∨ j = 16 ∨ j = 17 ∨ j = 18 ∨ j = 19 ∨ j = 20 ∨ j = 21 := by omega
                rcases hcase with rfl | rfl | rfl | rfl | rfl | rfl | rfl | rfl | rfl | rfl | rfl | rfl | rfl | rfl | rfl | rfl | rfl | rfl | rfl | rfl | rfl | rfl
                · exact hall ⟨0, .phase⟩ (by simp) rfl
                · exact hall ⟨1, .phase⟩ (by simp) rfl
                · exact hall ⟨2, .phase⟩ (by simp) rfl
                · exact hall ⟨3, .phase⟩ (by simp) rfl
                · exact hall ⟨4, .phase⟩ (by simp) rfl
                · exact hall ⟨5, .phase⟩ (by simp) rfl
                · exact hall ⟨6, .phase⟩ (by simp) rfl
                · exact hall ⟨7, .phase⟩ (by simp) rfl
                · exact hall ⟨8, .phase⟩ (by simp) rfl
                · exact hall ⟨9, .phase⟩ (by simp) rfl
                · exact hall ⟨10, .phase⟩ (by simp) rfl
                · exact hall ⟨11, .phase⟩ (by simp) rfl
                · exact hall ⟨12, .phase⟩ (by simp) rfl
                · exact hall ⟨13, .phase⟩ (by simp) rfl
                · exact hall ⟨14, .phase⟩ (by simp) rfl
                · exact hall ⟨15, .phase⟩ (by simp) rfl
                · exact hall ⟨16, .phase⟩ (by simp) rfl
                · exact hall ⟨17, .phase⟩ (by simp) rfl
                · exact hall ⟨18, .phase⟩ (by simp) rfl
                · exact hall ⟨19, .phase⟩ (by simp) rfl
                · exact hall ⟨20, .phase⟩ (by simp) rfl
                · exact hall ⟨21, .data⟩ (by simp) rfl
              have HJ := Lib.hid hj
              obtain rfl := hJ.last (getD_both h0)
              clear hv hx hall hj hJ
              refine wpOp_step rfl (fun K hK => ?_)
              go_simp
              exact hK _ _ ⟨rfl, .inr ⟨getD_set_self (by rw [hl]; decide), fun j hj => getD_set_true (HJ.out j hj), rfl⟩⟩
            case he =>
              intro l r w' hu hJ
              obtain rfl := hJ.done (hu 22 (by decide))
              simp only [putF, valsAt, Nat.reduceAdd, Nat.zero_add, List.getD_cons_zero, List.getD_cons_succ, Act.put, List.setIfInBounds_toArray, List.set_cons_succ, List.set_cons_zero]
              go_wp2_with fail
              go_roundw
              case rel => exact HFI.out true rfl
              case measure => simp [intOf]; omega
          | false =>
            cases D with
            | true =>
              go_upto_region 11 with fail
              rw [HE7.out.1, HE7.out.2]
              clear k0 k1 k2 k3 k4 k5 k6 k7 k8 k9
              refine wp_region_any (by kernel_rfl) ?_
              refine wpAny_grow [37, 38, 39, 40, 41, 42, 43, 44, 45, 46, 47, 48, 49, 50, 51, 52, 53, 54, 55, 56, 57, 58] (fun _ j => valsAt [.slice (some ⟨Hd, 0, none⟩) n n, .pointer (some ⟨Y, 1, none⟩), .int .i64 (T : Int), .slice (some ⟨Hd, 0, none⟩) n n, .pointer (some ⟨Y, 1, none⟩), .int .i64 (T : Int), .pointer (some ⟨Hd, T, none⟩), .bool false, .bool false, .slice (some ⟨A, 0, none⟩) n n, .pointer (some ⟨Y, 0, none⟩), .int .i64 (P : Int), .pointer (some ⟨A, P, none⟩), .int .i64 u2, .slice (some ⟨A, 0, none⟩) n n, .pointer (some ⟨Y, 1, none⟩), .int .i64 (T : Int), .pointer (some ⟨A, T, none⟩), .int .i64 u1, .bool true, .bool true, .pointer (some ⟨Hd, T, none⟩)] j) (fun l _ w' => Jt W7.drew ⟨Hd, T, none⟩ (.bool true) l w') 100 undef rfl (fun _ _ _ _ => rfl) (by kernel_rfl) (by decide) (by kernel_rfl) ?hs ?hl ?he ?hj
              case hj => exact .inl ⟨rfl, rfl⟩
              case hs =>
                intro i' oo ho hil l r fr0 hl h0 hall hv hx w' hJ
                obtain ⟨e1, rfl⟩ := hJ.first hil (getD_both h0)
                have E1 := Lib.hid e1
                have hi : i' < 22 := hil
                clear hJ hall e1
                have hcase : i' = 0 ∨ i' = 1 ∨ i' = 2 ∨ i' = 3 ∨ i' = 4 ∨ i' = 5 ∨ i' = 6 ∨ i' = 7 ∨ i' = 8 ∨ i' = 9 ∨ i' = 10 ∨ i' = 11 ∨ i' = 12 ∨ i' = 13 ∨ i' = 14 ∨ i' = 15 ∨ i' = 16 ∨ i' = 17 ∨ i' = 18 ∨ i' = 19 ∨ i' = 20 ∨ i' = 21 := by omega
                clear hi hil
                rcases hcase with rfl | rfl | rfl | rfl | rfl | rfl | rfl | rfl | rfl | rfl | rfl | rfl | rfl | rfl | rfl | rfl | rfl | rfl | rfl | rfl | rfl | rfl
                · obtain rfl := Option.some.inj ho.symm
                  clear ho
                  have x8 : fr0.tmps[(8 : Nat)]? = some (.slice (some ⟨Hd, 0, none⟩) n n) := hx 8 (by decide)
                  clear hv hx h0
                  refine wpOp_step rfl (fun K hK => ?_)
                  go_simp
                  exact hK _ _ ⟨r, fun _ => rfl, rfl, .inl ⟨by rw [getD_set_ne false (by decide)]; exact E1.out, rfl⟩⟩
                · obtain rfl := Option.some.inj ho.symm
                  clear ho
                  have x10 : fr0.tmps[(10 : Nat)]? = some (.pointer (some ⟨Y, 0, none⟩)) := hx 10 (by decide)
                  clear hv hx h0
                  refine wpOp_step rfl (fun K hK => ?_)
                  go_simp
                  exact hK _ _ ⟨r, fun _ => rfl, rfl, .inl ⟨by rw [getD_set_ne false (by decide)]; exact E1.out, rfl⟩⟩
                · obtain rfl := Option.some.inj ho.symm
                  clear ho
                  have d1 : fr0.tmps[(38 : Nat)]? = some (.pointer (some ⟨Y, 1, none⟩)) := hv ⟨1, .data⟩ (by simp) rfl
                  clear hv hx h0
                  refine wpOp_step rfl (fun K hK => ?_)
                  go_simp
                  exact hK _ _ ⟨r, fun _ => rfl, rfl, .inl ⟨by rw [getD_set_ne false (by decide)]; exact E1.out, rfl⟩⟩
                · obtain rfl := Option.some.inj ho.symm
                  clear ho
                  have x8 : fr0.tmps[(8 : Nat)]? = some (.slice (some ⟨Hd, 0, none⟩) n n) := hx 8 (by decide)
                  clear hv hx h0
                  refine wpOp_step rfl (fun K hK => ?_)
                  go_simp
                  exact hK _ _ ⟨r, fun _ => rfl, rfl, .inl ⟨by rw [getD_set_ne false (by decide)]; exact E1.out, rfl⟩⟩
                · obtain rfl := Option.some.inj ho.symm
                  clear ho
                  have x10 : fr0.tmps[(10 : Nat)]? = some (.pointer (some ⟨Y, 0, none⟩)) := hx 10 (by decide)
                  clear hv hx h0
                  refine wpOp_step rfl (fun K hK => ?_)
                  go_simp
                  exact hK _ _ ⟨r, fun _ => rfl, rfl, .inl ⟨by rw [getD_set_ne false (by decide)]; exact E1.out, rfl⟩⟩
                · obtain rfl := Option.some.inj ho.symm
                  clear ho
                  have d4 : fr0.tmps[(41 : Nat)]? = some (.pointer (some ⟨Y, 1, none⟩)) := hv ⟨4, .data⟩ (by simp) rfl
                  clear hv hx h0
                  refine wpOp_step rfl (fun K hK => ?_)
                  go_simp
                  exact hK _ _ ⟨r, fun _ => rfl, rfl, .inl ⟨by rw [getD_set_ne false (by decide)]; exact E1.out, rfl⟩⟩
                · obtain rfl := Option.some.inj ho.symm
                  clear ho
                  have d3 : fr0.tmps[(40 : Nat)]? = some (.slice (some ⟨Hd, 0, none⟩) n n) := hv ⟨3, .data⟩ (by simp) rfl
                  have d5 : fr0.tmps[(42 : Nat)]? = some (.int .i64 (T : Int)) := hv ⟨5, .data⟩ (by simp) rfl
                  clear hv hx h0
                  refine wpOp_step rfl (fun K hK => ?_)
                  go_simp
                  exact hK _ _ ⟨r, fun _ => rfl, rfl, .inl ⟨by rw [getD_set_ne false (by decide)]; exact E1.out, rfl⟩⟩
                · obtain rfl := Option.some.inj ho.symm
                  clear ho
                  have d6 : fr0.tmps[(43 : Nat)]? = some (.pointer (some ⟨Hd, T, none⟩)) := hv ⟨6, .data⟩ (by simp) rfl
                  clear hv hx h0
                  refine wpOp_step rfl (fun K hK => ?_)
                  go_simp
                  exact hK _ _ ⟨r, fun _ => rfl, rfl, .inl ⟨by rw [getD_set_ne false (by decide)]; exact E1.out, rfl⟩⟩
                · obtain rfl := Option.some.inj ho.symm
                  clear ho
                  have d7 : fr0.tmps[(44 : Nat)]? = some (.bool false) := hv ⟨7, .data⟩ (by simp) rfl
                  clear hv hx h0
                  refine wpOp_step rfl (fun K hK => ?_)
                  go_simp
                  exact hK _ _ ⟨r, fun _ => rfl, rfl, .inl ⟨by rw [getD_set_ne false (by decide)]; exact E1.out, rfl⟩⟩
                · obtain rfl := Option.some.inj ho.symm
                  clear ho
                  have d8 : fr0.tmps[(45 : Nat)]? = some (.bool false) := hv ⟨8, .guard⟩ (by simp) rfl
                  have x5 : fr0.tmps[(5 : Nat)]? = some (.slice (some ⟨A, 0, none⟩) n n) := hx 5 (by decide)
                  clear hv hx h0
                  refine wpOp_step rfl (fun K hK => ?_)
                  go_simp
                  exact hK _ _ ⟨r, fun _ => rfl, rfl, .inl ⟨by rw [getD_set_ne false (by decide)]; exact E1.out, rfl⟩⟩
                · obtain rfl := Option.some.inj ho.symm
                  clear ho
                  have d8 : fr0.tmps[(45 : Nat)]? = some (.bool false) := hv ⟨8, .guard⟩ (by simp) rfl
                  have x10 : fr0.tmps[(10 : Nat)]? = some (.pointer (some ⟨Y, 0, none⟩)) := hx 10 (by decide)
                  clear hv hx h0
                  refine wpOp_step rfl (fun K hK => ?_)
                  go_simp
                  exact hK _ _ ⟨r, fun _ => rfl, rfl, .inl ⟨by rw [getD_set_ne false (by decide)]; exact E1.out, rfl⟩⟩
                · obtain rfl := Option.some.inj ho.symm
                  clear ho
                  have d10 : fr0.tmps[(47 : Nat)]? = some (.pointer (some ⟨Y, 0, none⟩)) := hv ⟨10, .data⟩ (by simp) rfl
                  have d8 : fr0.tmps[(45 : Nat)]? = some (.bool false) := hv ⟨8, .guard⟩ (by simp) rfl
                  clear hv hx h0
                  refine wpOp_step rfl (fun K hK => ?_)
                  go_simp
                  exact hK _ _ ⟨r, fun _ => rfl, rfl, .inl ⟨by rw [getD_set_ne false (by decide)]; exact E1.out, rfl⟩⟩
                · obtain rfl := Option.some.inj ho.symm
                  clear ho
                  have d9 : fr0.tmps[(46 : Nat)]? = some (.slice (some ⟨A, 0, none⟩) n n) := hv ⟨9, .data⟩ (by simp) rfl
                  have d11 : fr0.tmps[(48 : Nat)]? = some (.int .i64 (P : Int)) := hv ⟨11, .data⟩ (by simp) rfl
                  have d8 : fr0.tmps[(45 : Nat)]? = some (.bool false) := hv ⟨8, .guard⟩ (by simp) rfl
                  clear hv hx h0
                  refine wpOp_step rfl (fun K hK => ?_)
                  go_simp
                  exact hK _ _ ⟨r, fun _ => rfl, rfl, .inl ⟨by rw [getD_set_ne false (by decide)]; exact E1.out, rfl⟩⟩
                · obtain rfl := Option.some.inj ho.symm
                  clear ho
                  have d12 : fr0.tmps[(49 : Nat)]? = some (.pointer (some ⟨A, P, none⟩)) := hv ⟨12, .data⟩ (by simp) rfl
                  have d8 : fr0.tmps[(45 : Nat)]? = some (.bool false) := hv ⟨8, .guard⟩ (by simp) rfl
                  clear hv hx h0
                  refine wpOp_step rfl (fun K hK => ?_)
                  go_simp
                  exact hK _ _ ⟨r, fun _ => rfl, rfl, .inl ⟨by rw [getD_set_ne false (by decide)]; exact E1.out, rfl⟩⟩
                · obtain rfl := Option.some.inj ho.symm
                  clear ho
                  have d8 : fr0.tmps[(45 : Nat)]? = some (.bool false) := hv ⟨8, .guard⟩ (by simp) rfl
                  have x5 : fr0.tmps[(5 : Nat)]? = some (.slice (some ⟨A, 0, none⟩) n n) := hx 5 (by decide)
                  clear hv hx h0
                  refine wpOp_step rfl (fun K hK => ?_)
                  go_simp
                  exact hK _ _ ⟨r, fun _ => rfl, rfl, .inl ⟨by rw [getD_set_ne false (by decide)]; exact E1.out, rfl⟩⟩
                · obtain rfl := Option.some.inj ho.symm
                  clear ho
                  have d8 : fr0.tmps[(45 : Nat)]? = some (.bool false) := hv ⟨8, .guard⟩ (by simp) rfl
                  have x10 : fr0.tmps[(10 : Nat)]? = some (.pointer (some ⟨Y, 0, none⟩)) := hx 10 (by decide)
                  clear hv hx h0
                  refine wpOp_step rfl (fun K hK => ?_)
                  go_simp
                  exact hK _ _ ⟨r, fun _ => rfl, rfl, .inl ⟨by rw [getD_set_ne false (by decide)]; exact E1.out, rfl⟩⟩
                · obtain rfl := Option.some.inj ho.symm
                  clear ho
                  have d15 : fr0.tmps[(52 : Nat)]? = some (.pointer (some ⟨Y, 1, none⟩)) := hv ⟨15, .data⟩ (by simp) rfl
                  have d8 : fr0.tmps[(45 : Nat)]? = some (.bool false) := hv ⟨8, .guard⟩ (by simp) rfl
                  clear hv hx h0
                  refine wpOp_step rfl (fun K hK => ?_)
                  go_simp
                  exact hK _ _ ⟨r, fun _ => rfl, rfl, .inl ⟨by rw [getD_set_ne false (by decide)]; exact E1.out, rfl⟩⟩
                · obtain rfl := Option.some.inj ho.symm
                  clear ho
                  have d14 : fr0.tmps[(51 : Nat)]? = some (.slice (some ⟨A, 0, none⟩) n n) := hv ⟨14, .data⟩ (by simp) rfl
                  have d16 : fr0.tmps[(53 : Nat)]? = some (.int .i64 (T : Int)) := hv ⟨16, .data⟩ (by simp) rfl
                  have d8 : fr0.tmps[(45 : Nat)]? = some (.bool false) := hv ⟨8, .guard⟩ (by simp) rfl
                  clear hv hx h0
                  refine wpOp_step rfl (fun K hK => ?_)
                  go_simp
                  exact hK _ _ ⟨r, fun _ => rfl, rfl, .inl ⟨by rw [getD_set_ne false (by decide)]; exact E1.out, rfl⟩⟩
                · obtain rfl := Option.some.inj ho.symm
                  clear ho
                  have d17 : fr0.tmps[(54 : Nat)]? = some (.pointer (some ⟨A, T, none⟩)) := hv ⟨17, .data⟩ (by simp) rfl
                  have d8 : fr0.tmps[(45 : Nat)]? = some (.bool false) := hv ⟨8, .guard⟩ (by simp) rfl
                  clear hv hx h0
                  refine wpOp_step rfl (fun K hK => ?_)
                  go_simp
                  exact hK _ _ ⟨r, fun _ => rfl, rfl, .inl ⟨by rw [getD_set_ne false (by decide)]; exact E1.out, rfl⟩⟩
                · obtain rfl := Option.some.inj ho.symm
                  clear ho
                  have d13 : fr0.tmps[(50 : Nat)]? = some (.int .i64 u2) := hv ⟨13, .data⟩ (by simp) rfl
                  have d18 : fr0.tmps[(55 : Nat)]? = some (.int .i64 u1) := hv ⟨18, .data⟩ (by simp) rfl
                  have d8 : fr0.tmps[(45 : Nat)]? = some (.bool false) := hv ⟨8, .guard⟩ (by simp) rfl
                  clear hv hx h0
                  refine wpOp_step rfl (fun K hK => ?_)
                  go_simp
                  exact hK _ _ ⟨r, fun _ => rfl, rfl, .inl ⟨by rw [getD_set_ne false (by decide)]; exact E1.out, rfl⟩⟩
                · obtain rfl := Option.some.inj ho.symm
                  clear ho
                  have d8 : fr0.tmps[(45 : Nat)]? = some (.bool false) := hv ⟨8, .data⟩ (by simp) rfl
                  have d19 : fr0.tmps[(56 : Nat)]? = some (.bool true) := hv ⟨19, .data⟩ (by simp) rfl
                  clear hv hx h0
                  refine wpOp_step rfl (fun K hK => ?_)
                  go_simp
                  exact hK _ _ ⟨r, fun _ => rfl, rfl, .inl ⟨by rw [getD_set_ne false (by decide)]; exact E1.out, rfl⟩⟩
                · obtain rfl := Option.some.inj ho.symm
                  clear ho
                  have d0 : fr0.tmps[(37 : Nat)]? = some (.slice (some ⟨Hd, 0, none⟩) n n) := hv ⟨0, .data⟩ (by simp) rfl
                  have d2 : fr0.tmps[(39 : Nat)]? = some (.int .i64 (T : Int)) := hv ⟨2, .data⟩ (by simp) rfl
                  clear hv hx h0
                  refine wpOp_step rfl (fun K hK => ?_)
                  go_simp
                  exact hK _ _ ⟨r, fun _ => rfl, rfl, .inl ⟨by rw [getD_set_ne false (by decide)]; exact E1.out, rfl⟩⟩
              case hl =>
                intro oo ho l r fr0 hl h0 hall hv hx w' hJ
                obtain rfl := Option.some.inj ho.symm
                clear ho
                have d21 : fr0.tmps[(58 : Nat)]? = some (.pointer (some ⟨Hd, T, none⟩)) := hv ⟨21, .data⟩ (by simp) rfl
                have d20 : fr0.tmps[(57 : Nat)]? = some (.bool true) := hv ⟨20, .data⟩ (by simp) rfl
                have hj : ∀ j, j < 22 → l.getD j false = true := fun j hj => by
                  have hcase : j = 0 ∨ j = 1 ∨ j = 2 ∨ j = 3 ∨ j = 4 ∨ j = 5 ∨ j = 6 ∨ j = 7 ∨ j = 8 ∨ j = 9 ∨ j = 10 ∨ j = 11 ∨ j = 12 ∨ j = 13 ∨ j = 14 ∨ j = 15 ∨ j = 16 ∨ j = 17 ∨ j = 18 ∨ j = 19 ∨ j = 20 ∨ j = 21 := by omega
                  rcases hcase with rfl | rfl | rfl | rfl | rfl | rfl | rfl | rfl | rfl | rfl | rfl | rfl | rfl | rfl | rfl | rfl | rfl | rfl | rfl | rfl | rfl | rfl
                  · exact hall ⟨0, .phase⟩ (by simp) rfl
                  · exact hall ⟨1, .phase⟩ (by simp) rfl
                  · exact hall ⟨2, .phase⟩ (by simp) rfl
                  · exact hall ⟨3, .phase⟩ (by simp) rfl
                  · exact hall ⟨4, .phase⟩ (by simp) rfl
                  · exact hall ⟨5, .phase⟩ (by simp) rfl
                  · exact hall ⟨6, .phase⟩ (by simp) rfl
                  · exact hall ⟨7, .phase⟩ (by simp) rfl
                  · exact hall ⟨8, .phase⟩ (by simp) rfl
                  · exact hall ⟨9, .phase⟩ (by simp) rfl
                  · exact hall ⟨10, .phase⟩ (by simp) rfl
                  · exact hall ⟨11, .phase⟩ (by simp) rfl
                  · exact hall ⟨12, .phase⟩ (by simp) rfl
                  · exact hall ⟨13, .phase⟩ (by simp) rfl
                  · exact hall ⟨14, .phase⟩ (by simp) rfl
                  · exact hall ⟨15, .phase⟩ (by simp) rfl
                  · exact hall ⟨16, .phase⟩ (by simp) rfl
                  · exact hall ⟨17, .phase⟩ (by simp) rfl
                  · exact hall ⟨18, .phase⟩ (by simp) rfl
                  · exact hall ⟨19, .phase⟩ (by simp) rfl
                  · exact hall ⟨20, .phase⟩ (by simp) rfl
                  · exact hall ⟨21, .data⟩ (by simp) rfl
                have HJ := Lib.hid hj
                obtain rfl := hJ.last (getD_both h0)
                clear hv hx hall hj hJ
                refine wpOp_step rfl (fun K hK => ?_)
                go_simp
                exact hK _ _ ⟨rfl, .inr ⟨getD_set_self (by rw [hl]; decide), fun j hj => getD_set_true (HJ.out j hj), rfl⟩⟩
              case he =>
                intro l r w' hu hJ
                obtain rfl := hJ.done (hu 22 (by decide))
                simp only [putF, valsAt, Nat.reduceAdd, Nat.zero_add, List.getD_cons_zero, List.getD_cons_succ, Act.put, List.setIfInBounds_toArray, List.set_cons_succ, List.set_cons_zero]
                go_wp2_with fail
                go_roundw
                case rel => exact HFI.out true rfl
                case measure => simp [intOf]; omega
            | false =>
              go_upto_region 11 with fail
              rw [HE7.out.1, HE7.out.2]
              clear k0 k1 k2 k3 k4 k5 k6 k7 k8 k9
              refine wp_region_any (by kernel_rfl) ?_
              refine wpAny_grow [37, 38, 39, 40, 41, 42, 43, 44, 45, 46, 47, 48, 49, 50, 51, 52, 53, 54, 55, 56, 57, 58] (fun _ j => valsAt [.slice (some ⟨Hd, 0, none⟩) n n, .pointer (some ⟨Y, 1, none⟩), .int .i64 (T : Int), .slice (some ⟨Hd, 0, none⟩) n n, .pointer (some ⟨Y, 1, none⟩), .int .i64 (T : Int), .pointer (some ⟨Hd, T, none⟩), .bool false, .bool false, .slice (some ⟨A, 0, none⟩) n n, .pointer (some ⟨Y, 0, none⟩), .int .i64 (P : Int), .pointer (some ⟨A, P, none⟩), .int .i64 u2, .slice (some ⟨A, 0, none⟩) n n, .pointer (some ⟨Y, 1, none⟩), .int .i64 (T : Int), .pointer (some ⟨A, T, none⟩), .int .i64 u1, .bool false, .bool false, .pointer (some ⟨Hd, T, none⟩)] j) (fun l _ w' => Jt W7.drew ⟨Hd, T, none⟩ (.bool false) l w') 100 undef rfl (fun _ _ _ _ => rfl) (by kernel_rfl) (by decide) (by kernel_rfl) ?hs ?hl ?he ?hj
              case hj => exact .inl ⟨rfl, rfl⟩
              case hs =>
                intro i' oo ho hil l r fr0 hl h0 hall hv hx w' hJ
                obtain ⟨e1, rfl⟩ := hJ.first hil (getD_both h0)
                have E1 := Lib.hid e1
                have hi : i' < 22 := hil
                clear hJ hall e1
                have hcase : i' = 0 ∨ i' = 1 ∨ i' = 2 ∨ i' = 3 ∨ i' = 4 ∨ i' = 5 ∨ i' = 6 ∨ i' = 7 ∨ i' = 8 ∨ i' = 9 ∨ i' = 10 ∨ i' = 11 ∨ i' = 12 ∨ i' = 13 ∨ i' = 14 ∨ i' = 15 ∨ i' = 16 ∨ i' = 17 ∨ i' = 18 ∨ i' = 19 ∨ i' = 20 ∨ i' = 21 := by omega
                clear hi hil
                rcases hcase with rfl | rfl | rfl | rfl | rfl | rfl | rfl | rfl | rfl | rfl | rfl | rfl | rfl | rfl | rfl | rfl | rfl | rfl | rfl | rfl | rfl | rfl
                · obtain rfl := Option.some.inj ho.symm
                  clear ho
                  have x8 : fr0.tmps[(8 : Nat)]? = some (.slice (some ⟨Hd, 0, none⟩) n n) := hx 8 (by decide)
                  clear hv hx h0
                  refine wpOp_step rfl (fun K hK => ?_)
                  go_simp
                  exact hK _ _ ⟨r, fun _ => rfl, rfl, .inl ⟨by rw [getD_set_ne false (by decide)]; exact E1.out, rfl⟩⟩
                · obtain rfl := Option.some.inj ho.symm
                  clear ho
                  have x10 : fr0.tmps[(10 : Nat)]? = some (.pointer (some ⟨Y, 0, none⟩)) := hx 10 (by decide)
                  clear hv hx h0
                  refine wpOp_step rfl (fun K hK => ?_)
                  go_simp
                  exact hK _ _ ⟨r, fun _ => rfl, rfl, .inl ⟨by rw [getD_set_ne false (by decide)]; exact E1.out, rfl⟩⟩
                · obtain rfl := Option.some.inj ho.symm
                  clear ho
                  have d1 : fr0.tmps[(38 : Nat)]? = some (.pointer (some ⟨Y, 1, none⟩)) := hv ⟨1, .data⟩ (by simp) rfl
                  clear hv hx h0
                  refine wpOp_step rfl (fun K hK => ?_)
                  go_simp
                  exact hK _ _ ⟨r, fun _ => rfl, rfl, .inl ⟨by rw [getD_set_ne false (by decide)]; exact E1.out, rfl⟩⟩
                · obtain rfl := Option.some.inj ho.symm
                  clear ho
                  have x8 : fr0.tmps[(8 : Nat)]? = some (.slice (some ⟨Hd, 0, none⟩) n n) := hx 8 (by decide)
                  clear hv hx h0
                  refine wpOp_step rfl (fun K hK => ?_)
                  go_simp
                  exact hK _ _ ⟨r, fun _ => rfl, rfl, .inl ⟨by rw [getD_set_ne false (by decide)]; exact E1.out, rfl⟩⟩
                · obtain rfl := Option.some.inj ho.symm
                  clear ho
                  have x10 : fr0.tmps[(10 : Nat)]? = some (.pointer (some ⟨Y, 0, none⟩)) := hx 10 (by decide)
                  clear hv hx h0
                  refine wpOp_step rfl (fun K hK => ?_)
                  go_simp
                  exact hK _ _ ⟨r, fun _ => rfl, rfl, .inl ⟨by rw [getD_set_ne false (by decide)]; exact E1.out, rfl⟩⟩
                · obtain rfl := Option.some.inj ho.symm
                  clear ho
                  have d4 : fr0.tmps[(41 : Nat)]? = some (.pointer (some ⟨Y, 1, none⟩)) := hv ⟨4, .data⟩ (by simp) rfl
                  clear hv hx h0
                  refine wpOp_step rfl (fun K hK => ?_)
                  go_simp
                  exact hK _ _ ⟨r, fun _ => rfl, rfl, .inl ⟨by rw [getD_set_ne false (by decide)]; exact E1.out, rfl⟩⟩
                · obtain rfl := Option.some.inj ho.symm
                  clear ho
                  have d3 : fr0.tmps[(40 : Nat)]? = some (.slice (some ⟨Hd, 0, none⟩) n n) := hv ⟨3, .data⟩ (by simp) rfl
                  have d5 : fr0.tmps[(42 : Nat)]? = some (.int .i64 (T : Int)) := hv ⟨5, .data⟩ (by simp) rfl
                  clear hv hx h0
                  refine wpOp_step rfl (fun K hK => ?_)
                  go_simp
                  exact hK _ _ ⟨r, fun _ => rfl, rfl, .inl ⟨by rw [getD_set_ne false (by decide)]; exact E1.out, rfl⟩⟩
                · obtain rfl := Option.some.inj ho.symm
                  clear ho
                  have d6 : fr0.tmps[(43 : Nat)]? = some (.pointer (some ⟨Hd, T, none⟩)) := hv ⟨6, .data⟩ (by simp) rfl
                  clear hv hx h0
                  refine wpOp_step rfl (fun K hK => ?_)
                  go_simp
                  exact hK _ _ ⟨r, fun _ => rfl, rfl, .inl ⟨by rw [getD_set_ne false (by decide)]; exact E1.out, rfl⟩⟩
                · obtain rfl := Option.some.inj ho.symm
                  clear ho
                  have d7 : fr0.tmps[(44 : Nat)]? = some (.bool false) := hv ⟨7, .data⟩ (by simp) rfl
                  clear hv hx h0
                  refine wpOp_step rfl (fun K hK => ?_)
                  go_simp
                  exact hK _ _ ⟨r, fun _ => rfl, rfl, .inl ⟨by rw [getD_set_ne false (by decide)]; exact E1.out, rfl⟩⟩
                · obtain rfl := Option.some.inj ho.symm
                  clear ho
                  have d8 : fr0.tmps[(45 : Nat)]? = some (.bool false) := hv ⟨8, .guard⟩ (by simp) rfl
                  have x5 : fr0.tmps[(5 : Nat)]? = some (.slice (some ⟨A, 0, none⟩) n n) := hx 5 (by decide)
                  clear hv hx h0
                  refine wpOp_step rfl (fun K hK => ?_)
                  go_simp
                  exact hK _ _ ⟨r, fun _ => rfl, rfl, .inl ⟨by rw [getD_set_ne false (by decide)]; exact E1.out, rfl⟩⟩
                · obtain rfl := Option.some.inj ho.symm
                  clear ho
                  have d8 : fr0.tmps[(45 : Nat)]? = some (.bool false) := hv ⟨8, .guard⟩ (by simp) rfl
                  have x10 : fr0.tmps[(10 : Nat)]? = some (.pointer (some ⟨Y, 0, none⟩)) := hx 10 (by decide)
                  clear hv hx h0
                  refine wpOp_step rfl (fun K hK => ?_)
                  go_simp
                  exact hK _ _ ⟨r, fun _ => rfl, rfl, .inl ⟨by rw [getD_set_ne false (by decide)]; exact E1.out, rfl⟩⟩
                · obtain rfl := Option.some.inj ho.symm
                  clear ho
                  have d10 : fr0.tmps[(47 : Nat)]? = some (.pointer (some ⟨Y, 0, none⟩)) := hv ⟨10, .data⟩ (by simp) rfl
                  have d8 : fr0.tmps[(45 : Nat)]? = some (.bool false) := hv ⟨8, .guard⟩ (by simp) rfl
                  clear hv hx h0
                  refine wpOp_step rfl (fun K hK => ?_)
                  go_simp
                  exact hK _ _ ⟨r, fun _ => rfl, rfl, .inl ⟨by rw [getD_set_ne false (by decide)]; exact E1.out, rfl⟩⟩
                · obtain rfl := Option.some.inj ho.symm
                  clear ho
                  have d9 : fr0.tmps[(46 : Nat)]? = some (.slice (some ⟨A, 0, none⟩) n n) := hv ⟨9, .data⟩ (by simp) rfl
                  have d11 : fr0.tmps[(48 : Nat)]? = some (.int .i64 (P : Int)) := hv ⟨11, .data⟩ (by simp) rfl
                  have d8 : fr0.tmps[(45 : Nat)]? = some (.bool false) := hv ⟨8, .guard⟩ (by simp) rfl
                  clear hv hx h0
                  refine wpOp_step rfl (fun K hK => ?_)
                  go_simp
                  exact hK _ _ ⟨r, fun _ => rfl, rfl, .inl ⟨by rw [getD_set_ne false (by decide)]; exact E1.out, rfl⟩⟩
                · obtain rfl := Option.some.inj ho.symm
                  clear ho
                  have d12 : fr0.tmps[(49 : Nat)]? = some (.pointer (some ⟨A, P, none⟩)) := hv ⟨12, .data⟩ (by simp) rfl
                  have d8 : fr0.tmps[(45 : Nat)]? = some (.bool false) := hv ⟨8, .guard⟩ (by simp) rfl
                  clear hv hx h0
                  refine wpOp_step rfl (fun K hK => ?_)
                  go_simp
                  exact hK _ _ ⟨r, fun _ => rfl, rfl, .inl ⟨by rw [getD_set_ne false (by decide)]; exact E1.out, rfl⟩⟩
                · obtain rfl := Option.some.inj ho.symm
                  clear ho
                  have d8 : fr0.tmps[(45 : Nat)]? = some (.bool false) := hv ⟨8, .guard⟩ (by simp) rfl
                  have x5 : fr0.tmps[(5 : Nat)]? = some (.slice (some ⟨A, 0, none⟩) n n) := hx 5 (by decide)
                  clear hv hx h0
                  refine wpOp_step rfl (fun K hK => ?_)
                  go_simp
                  exact hK _ _ ⟨r, fun _ => rfl, rfl, .inl ⟨by rw [getD_set_ne false (by decide)]; exact E1.out, rfl⟩⟩
                · obtain rfl := Option.some.inj ho.symm
                  clear ho
                  have d8 : fr0.tmps[(45 : Nat)]? = some (.bool false) := hv ⟨8, .guard⟩ (by simp) rfl
                  have x10 : fr0.tmps[(10 : Nat)]? = some (.pointer (some ⟨Y, 0, none⟩)) := hx 10 (by decide)
                  clear hv hx h0
                  refine wpOp_step rfl (fun K hK => ?_)
                  go_simp
                  exact hK _ _ ⟨r, fun _ => rfl, rfl, .inl ⟨by rw [getD_set_ne false (by decide)]; exact E1.out, rfl⟩⟩
                · obtain rfl := Option.some.inj ho.symm
                  clear ho
                  have d15 : fr0.tmps[(52 : Nat)]? = some (.pointer (some ⟨Y, 1, none⟩)) := hv ⟨15, .data⟩ (by simp) rfl
                  have d8 : fr0.tmps[(45 : Nat)]? = some (.bool false) := hv ⟨8, .guard⟩ (by simp) rfl
                  clear hv hx h0
                  refine wpOp_step rfl (fun K hK => ?_)
                  go_simp
                  exact hK _ _ ⟨r, fun _ => rfl, rfl, .inl ⟨by rw [getD_set_ne false (by decide)]; exact E1.out, rfl⟩⟩
                · obtain rfl := Option.some.inj ho.symm
                  clear ho
                  have d14 : fr0.tmps[(51 : Nat)]? = some (.slice (some ⟨A, 0, none⟩) n n) := hv ⟨14, .data⟩ (by simp) rfl
                  have d16 : fr0.tmps[(53 : Nat)]? = some (.int .i64 (T : Int)) := hv ⟨16, .data⟩ (by simp) rfl
                  have d8 : fr0.tmps[(45 : Nat)]? = some (.bool false) := hv ⟨8, .guard⟩ (by simp) rfl
                  clear hv hx h0
                  refine wpOp_step rfl (fun K hK => ?_)
                  go_simp
                  exact hK _ _ ⟨r, fun _ => rfl, rfl, .inl ⟨by rw [getD_set_ne false (by decide)]; exact E1.out, rfl⟩⟩
                · obtain rfl := Option.some.inj ho.symm
                  clear ho
                  have d17 : fr0.tmps[(54 : Nat)]? = some (.pointer (some ⟨A, T, none⟩)) := hv ⟨17, .data⟩ (by simp) rfl
                  have d8 : fr0.tmps[(45 : Nat)]? = some (.bool false) := hv ⟨8, .guard⟩ (by simp) rfl
                  clear hv hx h0
                  refine wpOp_step rfl (fun K hK => ?_)
                  go_simp
                  exact hK _ _ ⟨r, fun _ => rfl, rfl, .inl ⟨by rw [getD_set_ne false (by decide)]; exact E1.out, rfl⟩⟩
                · obtain rfl := Option.some.inj ho.symm
                  clear ho
                  have d13 : fr0.tmps[(50 : Nat)]? = some (.int .i64 u2) := hv ⟨13, .data⟩ (by simp) rfl
                  have d18 : fr0.tmps[(55 : Nat)]? = some (.int .i64 u1) := hv ⟨18, .data⟩ (by simp) rfl
                  have d8 : fr0.tmps[(45 : Nat)]? = some (.bool false) := hv ⟨8, .guard⟩ (by simp) rfl
                  clear hv hx h0
                  refine wpOp_step rfl (fun K hK => ?_)
                  go_simp
                  exact hK _ _ ⟨r, fun _ => rfl, rfl, .inl ⟨by rw [getD_set_ne false (by decide)]; exact E1.out, rfl⟩⟩
                · obtain rfl := Option.some.inj ho.symm
                  clear ho
                  have d8 : fr0.tmps[(45 : Nat)]? = some (.bool false) := hv ⟨8, .data⟩ (by simp) rfl
                  have d19 : fr0.tmps[(56 : Nat)]? = some (.bool false) := hv ⟨19, .data⟩ (by simp) rfl
                  clear hv hx h0
                  refine wpOp_step rfl (fun K hK => ?_)
                  go_simp
                  exact hK _ _ ⟨r, fun _ => rfl, rfl, .inl ⟨by rw [getD_set_ne false (by decide)]; exact E1.out, rfl⟩⟩
                · obtain rfl := Option.some.inj ho.symm
                  clear ho
                  have d0 : fr0.tmps[(37 : Nat)]? = some (.slice (some ⟨Hd, 0, none⟩) n n) := hv ⟨0, .data⟩ (by simp) rfl
                  have d2 : fr0.tmps[(39 : Nat)]? = some (.int .i64 (T : Int)) := hv ⟨2, .data⟩ (by simp) rfl
                  clear hv hx h0
                  refine wpOp_step rfl (fun K hK => ?_)
                  go_simp
                  exact hK _ _ ⟨r, fun _ => rfl, rfl, .inl ⟨by rw [getD_set_ne false (by decide)]; exact E1.out, rfl⟩⟩
              case hl =>
                intro oo ho l r fr0 hl h0 hall hv hx w' hJ
                obtain rfl := Option.some.inj ho.symm
                clear ho
                have d21 : fr0.tmps[(58 : Nat)]? = some (.pointer (some ⟨Hd, T, none⟩)) := hv ⟨21, .data⟩ (by simp) rfl
                have d20 : fr0.tmps[(57 : Nat)]? = some (.bool false) := hv ⟨20, .data⟩ (by simp) rfl
                have hj : ∀ j, j < 22 → l.getD j false = true := fun j hj => by
                  have hcase : j = 0 ∨ j = 1 ∨ j = 2 ∨ j = 3 ∨ j = 4 ∨ j = 5 ∨ j = 6 ∨ j = 7 ∨ j = 8 ∨ j = 9 ∨ j = 10 ∨ j = 11 ∨ j = 12 ∨ j = 13 ∨ j = 14 ∨ j = 15 ∨ j = 16 ∨ j = 17 ∨ j = 18 ∨ j = 19 ∨ j = 20 ∨ j = 21 := by omega
                  rcases hcase with rfl | rfl | rfl | rfl | rfl | rfl | rfl | rfl | rfl | rfl | rfl | rfl | rfl | rfl | rfl | rfl | rfl | rfl | rfl | rfl | rfl | rfl
                  · exact hall ⟨0, .phase⟩ (by simp) rfl
                  · exact hall ⟨1, .phase⟩ (by simp) rfl
                  · exact hall ⟨2, .phase⟩ (by simp) rfl
                  · exact hall ⟨3, .phase⟩ (by simp) rfl
                  · exact hall ⟨4, .phase⟩ (by simp) rfl
                  · exact hall ⟨5, .phase⟩ (by simp) rfl
                  · exact hall ⟨6, .phase⟩ (by simp) rfl
                  · exact hall ⟨7, .phase⟩ (by simp) rfl
                  · exact hall ⟨8, .phase⟩ (by simp) rfl
                  · exact hall ⟨9, .phase⟩ (by simp) rfl
                  · exact hall ⟨10, .phase⟩ (by simp) rfl
                  · exact hall ⟨11, .phase⟩ (by simp) rfl
                  · exact hall ⟨12, .phase⟩ (by simp) rfl
                  · exact hall ⟨13, .phase⟩ (by simp) rfl
                  · exact hall ⟨14, .phase⟩ (by simp) rfl
                  · exact hall ⟨15, .phase⟩ (by simp) rfl
                  · exact hall ⟨16, .phase⟩ (by simp) rfl
                  · exact hall ⟨17, .phase⟩ (by simp) rfl
                  · exact hall ⟨18, .phase⟩ (by simp) rfl
                  · exact hall ⟨19, .phase⟩ (by simp) rfl
                  · exact hall ⟨20, .phase⟩ (by simp) rfl
                  · exact hall ⟨21, .data⟩ (by simp) rfl
                have HJ := Lib.hid hj
                obtain rfl := hJ.last (getD_both h0)
                clear hv hx hall hj hJ
                refine wpOp_step rfl (fun K hK => ?_)
                go_simp
                exact hK _ _ ⟨rfl, .inr ⟨getD_set_self (by rw [hl]; decide), fun j hj => getD_set_true (HJ.out j hj), rfl⟩⟩
              case he =>
                intro l r w' hu hJ
                obtain rfl := hJ.done (hu 22 (by decide))
                simp only [putF, valsAt, Nat.reduceAdd, Nat.zero_add, List.getD_cons_zero, List.getD_cons_succ, Act.put, List.setIfInBounds_toArray, List.set_cons_succ, List.set_cons_zero]
                go_wp2_with fail
                go_roundw
                case rel => exact HFI.out false rfl
                case measure => simp [intOf]; omega
        · obtain rfl : k = es.length := by omega
          obtain ⟨bT, hbT⟩ : ∃ b, backT n aT es es.length = b := ⟨_, rfl⟩
          have hres : tgtT n es l = trueT bT n := by rw [← hbT, ← H5.out.2.2.1]; unfold tgtT; rw [HG.out.2.2.2.2.2.2.1]
          rw [hbT] at hrw
          obtain ⟨w6, hw6⟩ : ∃ x, x = wr := ⟨_, rfl⟩
          subst hw6
          obtain ⟨H, hH⟩ : ∃ H, w6.heap.size = H := ⟨_, rfl⟩
          have hHdH : Hd < H := by rw [← hH]; exact hrw.lt
          have hwH : w.heap.size ≤ H := by rw [← hH]; exact hbw.size
          have H6 := Lib.hid (And.intro hrw (And.intro hbw (And.intro hH (And.intro hHdH (And.intro hwH hres)))))
          clear hrw ho hbw hH hHdH hwH hres hbT
          go_wp2_with fail
          go_loopw [11, 62] (fun ov x wr => ∃ i : Nat, x = .int .i64 i ∧ i ≤ n ∧ wr.ownsRow H 3 1 ov (trueT bT i).length (cellsN (trueT bT i)) ∧ Below H w6 wr) (fun _ x _ => n - (intOf x).toNat)
          case atStart => exact ⟨0, rfl, by omega, by simpa [trueT, cellsN] using World.ownsRow_nil _ _ _ _, Below.refl _ _⟩
          case round =>
            obtain ⟨i, rfl, hi, hov, hbr⟩ := hrel
            have hbr6 : Below w6.heap.size w6 wr := by rw [H6.out.2.2.1]; exact hbr
            have HOW := Lib.hid (And.intro hov hbr)
            by_cases hlt : i < n
            · have hbi : (i : Int) + 1 ≤ 9223372036854775807 := by have := HN0.out; omega
              have hii : (i : Int) < (n : Int) := by omega
              have hbc : wr.cell? ⟨Hd, i, none⟩ = some (boolsV bT i) := (H6.out.1.of_block (hbr.block Hd H6.out.2.2.2.1)).cell hlt
              have hnx := trueT_succ bT i
              have hlen := trueT_len bT i
              unfold boolsV at hbc
              obtain ⟨d, hd⟩ : ∃ b, bT.getD i false = b := ⟨_, rfl⟩
              rw [hd] at hbc hnx
              obtain ⟨r, hr⟩ : ∃ r, trueT bT i = r := ⟨_, rfl⟩
              rw [hr] at hov hlen HOW hnx
              obtain ⟨M, hM⟩ : ∃ N, r.length = N := ⟨_, rfl⟩
              rw [hM] at hov hlen HOW
              have HNX := Lib.hid (And.intro hnx hM)
              have HN1 := Lib.hid (show M + 1 ≤ maxLen ∧ (M + 1) * 8 ≤ 140737488355328 from ⟨by unfold maxLen; have := HN0.out; omega, by have := HN0.out; omega⟩)
              clear hov hbr hnx hd hr hM hbr6 hlen
              cases d with
              | false =>
                go_wp2_with fail
                go_roundw
                case rel => exact ⟨i + 1, by go_num, by omega, by rw [HNX.out.1]; simp only [Bool.false_eq_true, if_false, List.append_nil]; rw [HNX.out.2]; exact HOW.out.1, HOW.out.2⟩
                case measure => simp [intOf]; omega
              | true =>
                have HNW := Lib.hid (World.news_of_block (cs := #[.int .i64 (i : Int)]) (t := 3) (fr := (0, 0)) (heap_alloc_new wr (.cells #[.int .i64 (i : Int)] 3)))
                have HSZ := Lib.hid (show H ≤ (wr.alloc (.cells #[.int .i64 (i : Int)] 3)).heap.size by rw [World.size_alloc]; have h1 := HOW.out.2.size; have h2 := H6.out.2.2.1; omega)
                go_wp2_with (first | (at_builtin; (with_reducible refine wpList_append_lies _ rfl (.tmp 69) (.tmp 71) 44 rfl H 3 i0 _ 1 8 Tryz.underlying44 HI0.out.1 HI0.out.2.1 HI0.out.2.2.1 HI0.out.2.2.2 rfl (by omega) _ M (cellsN r) rfl (HOW.out.1.alloc _) ⟨_, 0, none⟩ 1 1 [.int .i64 (i : Int)] rfl rfl HNW.out (one_int _) (by omega) HN1.out.1 HN1.out.2 HSZ.out _ rfl ?_); (intro gg cap w7 hown6 hgrow hat hlt6)) | fail)
                go_roundw
                case rel =>
                  refine ⟨i + 1, by go_num, by omega, ?_, ?_⟩
                  · rw [HNX.out.1]
                    simp only [if_true]
                    rw [List.length_append, HNX.out.2, cellsN_snoc]
                    exact hown6
                  · have h5 : Below H w6 (wr.alloc (.cells #[.int .i64 (i : Int)] 3)) := HOW.out.2.alloc (by have h1 := HOW.out.2.size; have h2 := H6.out.2.2.1; omega) _
                    exact h5.grown hgrow HSZ.out (fun k hk => (HOW.out.1.lt k hk).1)
                case measure => simp [intOf]; omega
            · obtain rfl : n = i := by omega
              have HBW := Lib.hid (bel H6.out.2.1 hbr6)
              clear hov hbr hbr6
              go_wp2_with fail
              go_ret
              exact ⟨_, rfl, by rw [H6.out.2.2.2.2.2]; exact HOW.out.1.mono H6.out.2.2.2.2.1, HBW.out⟩
end Go.Proofs.YtjpopelbdhgidaaGreatDoor

/-
  Heads: proved is that it tells the plain row of heads of every graph that is one, or the error.
-/
namespace Go.Proofs.YtjpopelbdhgidaaGreatDoor
open Go Go.RowKit Go.Maps

/-- What Heads tells. -/
def HdsTo (w : World) (g : Gf) : Ending → World → Prop := fun e w' => ∃ u, e = .returned (.tuple #[u, .int .i64 (chkG g)]) ∧ Below w.heap.size w w' ∧ (chkG g = 0 → w'.ownsRow w.heap.size 3 1 u (headsG g).length (cellsN (headsG g))) ∧ (chkG g ≠ 0 → u = .slice none 0 0)
set_option maxRecDepth 100000 in
set_option maxHeartbeats 8000000 in
theorem gheads_any (g : Gf) (av aa ae : Option Addr) (cv ca ce : Nat) (w : World) (hg : GrIn w g (.slice av g.vs.length cv) (.slice aa g.ar.length ca) (.slice ae g.es.length ce)) (hnv : g.vs.length ≤ 9223372036854775807) (htab : TabF w) :
    Calls Tryz.prog 14 #[grS g av cv aa ca ae ce] w (HdsTo w g) := by
  obtain ⟨W1, hW1⟩ : ∃ W1, w.alloc (.cells (grB g av cv aa ca ae ce) 30) = W1 := ⟨_, rfl⟩
  obtain ⟨X, hX⟩ : ∃ X, w.heap.size = X := ⟨_, rfl⟩
  have hx1 : Blk W1 X (grB g av cv aa ca ae ce) 30 := by rw [← hW1, ← hX]; exact Blk.new w _ _
  have hb1 : Below w.heap.size w W1 := by rw [← hW1]; exact (Below.refl _ w).alloc (Nat.le_refl _) _
  have HOD := Lib.hid (order_any g av aa ae cv ca ce W1 (hg.next hb1) hnv (htab.next hb1))
  obtain ⟨F, hF⟩ : ∃ f, chkG g = f := ⟨_, rfl⟩
  unfold HdsTo
  unfold OrdTo at HOD
  rw [hF] at HOD ⊢
  have x0 := hx1.cell 0
  have x1 := hx1.cell 1
  have x2 := hx1.cell 2
  have x3 := hx1.cell 3
  have x4 := hx1.cell 4
  have x5 := hx1.cell 5
  simp only [grB, List.getElem?_toArray, List.getElem?_cons_zero, List.getElem?_cons_succ] at x0 x1 x2 x3 x4 x5
  have H1 := Lib.hid (And.intro hx1 (And.intro hb1 (And.intro hF hg)))
  have HE := Lib.hid (And.intro hW1 hX)
  clear hx1 hb1 hW1 hX hg hnv htab hF
  by_cases hz : F = 0
  · subst hz
    obtain ⟨q0, qf⟩ := chk_zero H1.out.2.2.1
    obtain ⟨q1, q2, q3, q4, q5⟩ := out_zero q0
    obtain ⟨n, hn⟩ : ∃ n : Nat, g.pts = n := ⟨g.pts.toNat, by omega⟩
    have hgn : g.n = n := by unfold Gf.n; omega
    have hfr := right_fr (frm_right qf)
    have hto := right_to (frm_right qf)
    rw [hn] at hfr hto
    have hol := orderG_len g (by omega)
    have hoa : ∀ i (hi : i < (orderG g).length), (orderG g).getD i 0 = (orderG g)[i] ∧ (orderG g)[i] < n := fun i hi => by
      have h := order_at g (by omega) i hi
      rw [hgn] at h
      exact h
    rw [hgn] at hol
    have HTG := Lib.hid (fun w' (hb : Below w.heap.size w w') oa oc hnum => targets_any g.es (orderG g) n ae oa ce oc (by omega) (by omega) (by omega) w' (H1.out.2.2.2.next hb).es hfr hto hol hoa hnum)
    have hhd : headsG g = tgtT n g.es (orderG g) := by unfold headsG; rw [hgn]
    have HH := Lib.hid (And.intro hhd hol)
    clear q0 qf q1 q2 q3 q4 q5 hn hgn hfr hto hol hoa hhd
    go_enter Tryz.func14, Tryz.ntmps14
    go_upto_region 1 with fail
    rw [HE.out.1, HE.out.2]
    go_upto_region 4 with (first | (go_at_call 15; (with_reducible refine HOD.out.mono ?_); rintro e w2 ⟨u, rfl, hb2, hu, -⟩; have HB2 := Lib.hid (And.intro (H1.out.1.next hb2) (And.intro (bel H1.out.2.1 hb2) (hu rfl))); clear hb2 hu x0 x1 x2 x3 x4 x5) | fail)
    obtain ⟨oa, oc, hou, -, -, hnum⟩ := NumsAt.own HB2.out.2.2
    rw [HH.out.2] at hou
    subst hou
    have HT2 := Lib.hid (HTG.out _ HB2.out.2.1 oa oc hnum)
    clear hnum
    have x5 : w2.cell? ⟨X, 5, none⟩ = some (.slice ae g.es.length ce) := HB2.out.1.cell 5
    go_wp2_with (first | (go_at_call 46; (with_reducible refine HT2.out.mono ?_); rintro e w3 ⟨u, rfl, hu, hb3⟩; have H3 := Lib.hid (And.intro hu hb3); clear hu hb3 x5) | fail)
    go_ret2
    exact ⟨_, rfl, bel HB2.out.2.1 H3.out.2, fun _ => by rw [HH.out.1]; exact H3.out.1.mono HB2.out.2.1.size, fun h => absurd rfl h⟩
  · have t1 : (F != 0) = true := by simpa using hz
    have HZ := Lib.hid hz
    clear hz
    go_enter Tryz.func14, Tryz.ntmps14
    go_upto_region 1 with fail
    rw [HE.out.1, HE.out.2]
    go_wp2_with (first | (go_at_call 15; (with_reducible refine HOD.out.mono ?_); rintro e w2 ⟨u, rfl, hb2, -, hu⟩; obtain rfl := hu HZ.out; have HB2 := Lib.hid (bel H1.out.2.1 hb2); clear hb2 hu) | fail)
    go_ret2
    exact ⟨_, rfl, HB2.out, fun h => absurd h HZ.out, fun _ => rfl⟩
end Go.Proofs.YtjpopelbdhgidaaGreatDoor
