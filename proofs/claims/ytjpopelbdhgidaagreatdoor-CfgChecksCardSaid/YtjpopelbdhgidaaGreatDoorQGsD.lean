/-
  The document's graphs: Check: proved is that it tells whether a graph is one.
-/
import Derived.Test.YtjpopelbdhgidaaGreatDoorQGrJ
import Derived.Test.YtjpopelbdhgidaaGreatDoorQGsC

namespace Go.Proofs.YtjpopelbdhgidaaGreatDoor
open Go Go.RowKit Go.Maps

theorem out_90 {nv tmp pts ne : Int} (h : tmp < 0 ∨ 64 - nv < tmp) : outF nv tmp pts ne = 90 := by unfold outF; rw [if_pos h]
theorem out_91 {nv tmp pts ne : Int} (h0 : ¬ (tmp < 0 ∨ 64 - nv < tmp)) (h : pts < 1 ∨ 4096 < pts ∨ 8192 < ne) : outF nv tmp pts ne = 91 := by unfold outF; rw [if_neg h0, if_pos h]
theorem out_0 {nv tmp pts ne : Int} (h0 : ¬ (tmp < 0 ∨ 64 - nv < tmp)) (h : ¬ (pts < 1 ∨ 4096 < pts ∨ 8192 < ne)) : outF nv tmp pts ne = 0 := by unfold outF; rw [if_neg h0, if_neg h]
theorem chk_out {g : Gf} {k : Int} (hk : k ≠ 0) (h : outF (g.vs.length : Int) g.tmp g.pts (g.es.length : Int) = k) : chkG g = k := by unfold chkG; rw [h, if_pos hk]
theorem chk_92 {g : Gf} (h : outF (g.vs.length : Int) g.tmp g.pts (g.es.length : Int) = 0) (hf : frm g = false) : chkG g = 92 := by unfold chkG; rw [h, if_neg (by simp), hf]; rfl
theorem chk_good {g : Gf} (h : outF (g.vs.length : Int) g.tmp g.pts (g.es.length : Int) = 0) (hf : frm g = true) : chkG g = 0 := by unfold chkG; rw [h, if_neg (by simp), hf]; rfl
theorem frm_def (g : Gf) : frm g = ((decide (g.ar.length ≤ 16) && g.ar.all szD) && amg g.ext g.pts && g.es.all (edR g.nv (g.ar.length : Int) g.pts g.ext) && forkG g) := rfl
theorem EdsAt.row {w : World} {l : List Ed} {a : Option Addr} {c : Nat} (h : EdsAt w l (.slice a l.length c)) : l.length = 0 ∨ ∃ b o, a = some ⟨b, o, none⟩ ∧ ∀ i (hi : i < l.length) j u, (edV l[i])[j]? = some u → w.cell? ⟨b, o + (i * 10 + j), none⟩ = some u := by
  obtain ⟨_, _, hs, -, -, h⟩ := h
  cases hs
  exact h
set_option maxRecDepth 100000 in
set_option maxHeartbeats 16000000 in
theorem scheck_any (g : Gf) (av aa ae : Option Addr) (cv ca ce : Nat) (w : World) (hg : GrIn w g (.slice av g.vs.length cv) (.slice aa g.ar.length ca) (.slice ae g.es.length ce)) :
    Calls Tryz.prog 10 #[grS g av cv aa ca ae ce] w (fun e w' => e = .returned (.int .i64 (chkG g)) ∧ Below w.heap.size w w') := by
  obtain ⟨W1, hW1⟩ : ∃ W1, w.alloc (.cells (grB g av cv aa ca ae ce) 30) = W1 := ⟨_, rfl⟩
  obtain ⟨X, hX⟩ : ∃ X, w.heap.size = X := ⟨_, rfl⟩
  have hx : Blk W1 X (grB g av cv aa ca ae ce) 30 := by rw [← hW1, ← hX]; exact Blk.new w _ _
  have hb1 : Below w.heap.size w W1 := by rw [← hW1]; exact (Below.refl _ w).alloc (Nat.le_refl _) _
  have x0 : W1.cell? ⟨X, 0, none⟩ = some (.slice av g.vs.length cv) := hx.cell 0
  have x1 : W1.cell? ⟨X, 1, none⟩ = some (.int .i64 g.tmp) := hx.cell 1
  have x2 : W1.cell? ⟨X, 2, none⟩ = some (.slice aa g.ar.length ca) := hx.cell 2
  have x3 : W1.cell? ⟨X, 3, none⟩ = some (.int .i64 g.pts) := hx.cell 3
  have x4 : W1.cell? ⟨X, 4, none⟩ = some (.int .i64 g.ext) := hx.cell 4
  have x5 : W1.cell? ⟨X, 5, none⟩ = some (.slice ae g.es.length ce) := hx.cell 5
  have H1 := Lib.hid (And.intro hx (And.intro hb1 (hg.next hb1)))
  have HE := Lib.hid (And.intro hW1 hX)
  obtain ⟨CK, hCK⟩ : ∃ c, chkG g = c := ⟨_, rfl⟩
  rw [hCK]
  have HCK := Lib.hid hCK
  clear hx hb1 hW1 hX hg hCK
  by_cases h90 : g.tmp < 0 ∨ 64 - (g.vs.length : Int) < g.tmp
  · obtain rfl : CK = 90 := HCK.out.symm.trans (chk_out (by decide) (out_90 h90))
    have hcase : decide (g.tmp < 0) = true ∨ (decide (g.tmp < 0) = false ∧ decide (64 < g.tmp) = true) ∨ (decide (g.tmp < 0) = false ∧ decide (64 < g.tmp) = false ∧ decide (64 < (g.vs.length : Int)) = true) ∨ (decide (g.tmp < 0) = false ∧ decide (64 < g.tmp) = false ∧ decide (64 < (g.vs.length : Int)) = false) := by
      cases decide (g.tmp < 0) <;> cases decide (64 < g.tmp) <;> cases decide (64 < (g.vs.length : Int)) <;> simp
    rcases hcase with h1 | ⟨h1, h2⟩ | ⟨h1, h2, h3⟩ | ⟨h1, h2, h3⟩
    case inr.inr.inr =>
      have q1 := of_decide_eq_false h1
      have q2 := of_decide_eq_false h2
      have q3 := of_decide_eq_false h3
      have HAL := fun w => sall_any g av aa ae cv ca ce (by unfold fitsI Gf.nv; omega) w
      have h4 : decide (64 < g.nv) = true := by unfold Gf.nv; simp; omega
      clear h90 q1 q2 q3
      go_enter Tryz.func10, Tryz.ntmps10
      go_upto_region 1 with fail
      rw [HE.out.1, HE.out.2]
      go_wp2_with (first | (go_at_call 40; (with_reducible refine (HAL _).mono ?_); rintro q w2 ⟨rfl, hb2⟩; have HB2 := Lib.hid (And.intro hb2 (H1.out.1.next hb2)); clear hb2 x0 x1 x2 x3 x4 x5) | fail)
      go_ret
      exact ⟨rfl, bel H1.out.2.1 HB2.out.1⟩
    all_goals
      clear h90
      go_enter Tryz.func10, Tryz.ntmps10
      go_upto_region 1 with fail
      rw [HE.out.1, HE.out.2]
      go_wp2_with fail
      go_ret
      exact ⟨rfl, H1.out.2.1⟩
  have h1 : decide (g.tmp < 0) = false := by simp; omega
  have h2 : decide (64 < g.tmp) = false := by simp; omega
  have h3 : decide (64 < (g.vs.length : Int)) = false := by simp; omega
  have h4 : decide (64 < g.nv) = false := by unfold Gf.nv; simp; omega
  have HAL := fun w => sall_any g av aa ae cv ca ce (by unfold fitsI Gf.nv; omega) w
  by_cases h91 : g.pts < 1 ∨ 4096 < g.pts ∨ 8192 < (g.es.length : Int)
  · obtain rfl : CK = 91 := HCK.out.symm.trans (chk_out (by decide) (out_91 h90 h91))
    have hcase : decide (g.pts < 1) = true ∨ (decide (g.pts < 1) = false ∧ decide (4096 < g.pts) = true) ∨ (decide (g.pts < 1) = false ∧ decide (4096 < g.pts) = false ∧ decide (8192 < (g.es.length : Int)) = true) := by
      rcases h91 with h | h | h
      · exact .inl (by simpa using h)
      · exact .inr (.inl ⟨by simp; omega, by simpa using h⟩)
      · by_cases ha : g.pts < 1
        · exact .inl (by simpa using ha)
        · by_cases hb : 4096 < g.pts
          · exact .inr (.inl ⟨by simpa using ha, by simpa using hb⟩)
          · exact .inr (.inr ⟨by simpa using ha, by simpa using hb, by simpa using h⟩)
    clear h90 h91
    rcases hcase with p1 | ⟨p1, p2⟩ | ⟨p1, p2, p3⟩
    all_goals
      go_enter Tryz.func10, Tryz.ntmps10
      go_upto_region 1 with fail
      rw [HE.out.1, HE.out.2]
      go_upto_region 3 with (first | (go_at_call 40; (with_reducible refine (HAL _).mono ?_); rintro q w2 ⟨rfl, hb2⟩; have HB2 := Lib.hid (And.intro hb2 (H1.out.1.next hb2)); clear hb2 x0 x1 x2 x3 x4 x5) | fail)
      have x0 : w2.cell? ⟨X, 0, none⟩ = some (.slice av g.vs.length cv) := HB2.out.2.cell 0
      have x1 : w2.cell? ⟨X, 1, none⟩ = some (.int .i64 g.tmp) := HB2.out.2.cell 1
      have x2 : w2.cell? ⟨X, 2, none⟩ = some (.slice aa g.ar.length ca) := HB2.out.2.cell 2
      have x3 : w2.cell? ⟨X, 3, none⟩ = some (.int .i64 g.pts) := HB2.out.2.cell 3
      have x4 : w2.cell? ⟨X, 4, none⟩ = some (.int .i64 g.ext) := HB2.out.2.cell 4
      have x5 : w2.cell? ⟨X, 5, none⟩ = some (.slice ae g.es.length ce) := HB2.out.2.cell 5
      go_wp2_with fail
      go_ret
      exact ⟨rfl, bel H1.out.2.1 HB2.out.1⟩
  have hF := out_0 h90 h91
  have p1 : decide (g.pts < 1) = false := by simp; omega
  have p2 : decide (4096 < g.pts) = false := by simp; omega
  have p3 : decide (8192 < (g.es.length : Int)) = false := by simp; omega
  obtain ⟨n, hn⟩ : ∃ n : Nat, g.pts = n := ⟨g.pts.toNat, by omega⟩
  have hgn : g.n = n := by unfold Gf.n; omega
  have HN := Lib.hid (And.intro hF (And.intro hn (And.intro (show n ≤ 4096 by omega) (And.intro (show g.es.length ≤ 8192 by omega) (And.intro hgn (show 0 < n by omega))))))
  by_cases h92 : 16 < g.ar.length ∨ amg g.ext g.pts = false
  · have hf : frm g = false := by
      rw [frm_def]
      rcases h92 with h | h
      · rw [decide_eq_false (by omega)]; rfl
      · rw [h]; simp
    obtain rfl : CK = 92 := HCK.out.symm.trans (chk_92 hF hf)
    have hcase : decide (16 < (g.ar.length : Int)) = true ∨ (decide (16 < (g.ar.length : Int)) = false ∧ decide (g.ext < 0) = true) ∨ (decide (16 < (g.ar.length : Int)) = false ∧ decide (g.ext < 0) = false ∧ decide (g.pts ≤ g.ext) = true) := by
      by_cases ha : 16 < (g.ar.length : Int)
      · exact .inl (by simpa using ha)
      · have h := h92.resolve_left (by omega)
        unfold amg at h
        by_cases hb : g.ext < 0
        · exact .inr (.inl ⟨by simpa using ha, by simpa using hb⟩)
        · refine .inr (.inr ⟨by simpa using ha, by simpa using hb, ?_⟩)
          rw [decide_eq_true (by omega : 0 ≤ g.ext), Bool.true_and, decide_eq_false_iff_not] at h
          simp; omega
    clear h90 h91 h92 hf hF hn hgn
    rcases hcase with e1 | ⟨e1, e2⟩ | ⟨e1, e2, e3⟩
    all_goals
      go_enter Tryz.func10, Tryz.ntmps10
      go_upto_region 1 with fail
      rw [HE.out.1, HE.out.2]
      go_upto_region 3 with (first | (go_at_call 40; (with_reducible refine (HAL _).mono ?_); rintro q w2 ⟨rfl, hb2⟩; have HB2 := Lib.hid (And.intro hb2 (H1.out.1.next hb2)); clear hb2 x0 x1 x2 x3 x4 x5) | fail)
      have x0 : w2.cell? ⟨X, 0, none⟩ = some (.slice av g.vs.length cv) := HB2.out.2.cell 0
      have x1 : w2.cell? ⟨X, 1, none⟩ = some (.int .i64 g.tmp) := HB2.out.2.cell 1
      have x2 : w2.cell? ⟨X, 2, none⟩ = some (.slice aa g.ar.length ca) := HB2.out.2.cell 2
      have x3 : w2.cell? ⟨X, 3, none⟩ = some (.int .i64 g.pts) := HB2.out.2.cell 3
      have x4 : w2.cell? ⟨X, 4, none⟩ = some (.int .i64 g.ext) := HB2.out.2.cell 4
      have x5 : w2.cell? ⟨X, 5, none⟩ = some (.slice ae g.es.length ce) := HB2.out.2.cell 5
      go_wp2_with fail
      go_ret
      exact ⟨rfl, bel H1.out.2.1 HB2.out.1⟩
  have e1 : decide (16 < (g.ar.length : Int)) = false := by simp; omega
  have ham : amg g.ext g.pts = true := by
    cases h : amg g.ext g.pts
    · exact absurd (.inr h) h92
    · rfl
  have hex := amg_true ham
  have e2 : decide (g.ext < 0) = false := by simp; omega
  have e3 : decide (g.pts ≤ g.ext) = false := by simp; omega
  have HM := Lib.hid (And.intro ham (show g.ar.length ≤ 16 by omega))
  have hb16 : (g.ar.length : Int) ≤ 9223372036854775807 := by omega
  clear h90 h91 h92 hF hn hgn ham hex
  go_enter Tryz.func10, Tryz.ntmps10
  go_upto_region 1 with fail
  rw [HE.out.1, HE.out.2]
  go_upto_region 3 with (first | (go_at_call 40; (with_reducible refine (HAL _).mono ?_); rintro q w2 ⟨rfl, hb2⟩; have HB2 := Lib.hid (And.intro hb2 (H1.out.1.next hb2)); clear hb2 x0 x1 x2 x3 x4 x5) | fail)
  have x0 : w2.cell? ⟨X, 0, none⟩ = some (.slice av g.vs.length cv) := HB2.out.2.cell 0
  have x1 : w2.cell? ⟨X, 1, none⟩ = some (.int .i64 g.tmp) := HB2.out.2.cell 1
  have x2 : w2.cell? ⟨X, 2, none⟩ = some (.slice aa g.ar.length ca) := HB2.out.2.cell 2
  have x3 : w2.cell? ⟨X, 3, none⟩ = some (.int .i64 g.pts) := HB2.out.2.cell 3
  have x4 : w2.cell? ⟨X, 4, none⟩ = some (.int .i64 g.ext) := HB2.out.2.cell 4
  have x5 : w2.cell? ⟨X, 5, none⟩ = some (.slice ae g.es.length ce) := HB2.out.2.cell 5
  have HV2 := Lib.hid (And.intro (H1.out.2.2.next HB2.out.1) (bel H1.out.2.1 HB2.out.1))
  go_upto_region 7 with fail
  have HALH := Lib.hid HAL
  clear h1 h2 h3 h4 p1 p2 p3 e1 e2 e3 x0 x1 x3 x4 x5 HAL
  go_wp2_with fail
  go_loopw [3] (fun x wr => ∃ i : Nat, x = .int .i64 i ∧ i ≤ g.ar.length ∧ g.ar.all szD = (g.ar.drop i).all szD ∧ wr = w2) (fun x _ => g.ar.length - (intOf x).toNat)
  case atStart => exact ⟨0, rfl, by omega, by rw [List.drop_zero], rfl⟩
  case round =>
    obtain ⟨i, rfl, hi, hsz, rfl⟩ := hrel
    by_cases hlt : i < g.ar.length
    · have hbi : (i : Int) + 1 ≤ 9223372036854775807 := by omega
      obtain ⟨_, _, hsl, -, -, har⟩ := HV2.out.1.ar
      simp only [Value.slice.injEq] at hsl
      obtain ⟨rfl, -, rfl⟩ := hsl
      obtain ⟨ab, ao, rfl, hrw⟩ := har.resolve_left (by omega)
      obtain ⟨-, k1⟩ := ditem_at hrw i hlt
      rw [all_drop szD g.ar i hlt] at hsz
      obtain ⟨Z, hZ⟩ : ∃ z, dSz g.ar[i] = z := ⟨_, rfl⟩
      have hs : szD g.ar[i] = (decide (1 ≤ Z) && decide (Z ≤ 1024)) := by rw [← hZ]; rfl
      rw [hZ] at k1
      rw [hs] at hsz
      have hcase : decide (Z < 1) = true ∨ (decide (Z < 1) = false ∧ decide (1024 < Z) = true) ∨ (decide (Z < 1) = false ∧ decide (1024 < Z) = false) := by cases decide (Z < 1) <;> cases decide (1024 < Z) <;> simp
      have HS := Lib.hid hsz
      have hii : (i : Int) < (g.ar.length : Int) := by omega
      clear hsz hs hZ hrw har
      rcases hcase with z1 | ⟨z1, z2⟩ | ⟨z1, z2⟩
      · have hf : frm g = false := by
          have := of_decide_eq_true z1
          rw [frm_def, HS.out, decide_eq_false (by omega : ¬ 1 ≤ Z)]; simp
        obtain rfl : CK = 92 := HCK.out.symm.trans (chk_92 HN.out.1 hf)
        clear hf
        go_wp2_with fail
        go_ret
        exact ⟨rfl, HV2.out.2⟩
      · have hf : frm g = false := by
          have := of_decide_eq_true z2
          rw [frm_def, HS.out, decide_eq_false (by omega : ¬ Z ≤ 1024)]; simp
        obtain rfl : CK = 92 := HCK.out.symm.trans (chk_92 HN.out.1 hf)
        clear hf
        go_wp2_with fail
        go_ret
        exact ⟨rfl, HV2.out.2⟩
      · have q1 := of_decide_eq_false z1
        have q2 := of_decide_eq_false z2
        have HQ := Lib.hid (And.intro q1 q2)
        clear q1 q2
        go_wp2_with fail
        go_roundw
        case rel => exact ⟨i + 1, by go_num, by omega, by rw [HS.out, decide_eq_true (by have := HQ.out.1; omega : 1 ≤ Z), decide_eq_true (by have := HQ.out.2; omega : Z ≤ 1024)]; rfl, trivial⟩
        case measure => simp [intOf]; omega
    · obtain rfl : i = g.ar.length := by omega
      have hsz1 : g.ar.all szD = true := by rw [hsz, List.drop_length]; rfl
      have HSZ := Lib.hid hsz1
      clear hsz hsz1
      obtain ⟨w2, hw2⟩ : ∃ x, x = wr := ⟨_, rfl⟩
      subst hw2
      obtain ⟨L, hL⟩ : ∃ L, w2.heap.size = L := ⟨_, rfl⟩
      obtain ⟨W3, hW3⟩ : ∃ W3, w2.alloc (.cells (madeCells #[.slice none 0 0] n) 44) = W3 := ⟨_, rfl⟩
      have hr3 : RwIn W3 L n (outT g.es 0) (fun _ => .slice none 0 0) := by
        rw [← hW3, ← hL]
        exact (RwIn.made w2 n).congr (fun p _ => by simp [outT])
      have hb3 : Below L w2 W3 := by rw [← hW3, ← hL]; exact (Below.refl _ w2).alloc (Nat.le_refl _) _
      have hXL : X < L := by rw [← hL]; exact HB2.out.2.lt
      have x3 : w2.cell? ⟨X, 3, none⟩ = some (.int .i64 (n : Int)) := by rw [← HN.out.2.1]; exact HB2.out.2.cell 3
      have HMK := fun w => run_make_row' 97 44 (.slice none 0 0) 24 (P := Tryz.prog) (by kernel_rfl) info_rows rfl .i64 .i64 n (by have := HN.out.2.2.1; omega) (by have := HN.out.2.2.1; omega) w
      have H3 := Lib.hid (And.intro hr3 (And.intro hb3 (And.intro hXL hL)))
      have HE3 := Lib.hid (And.intro hW3 hL)
      have hne : (g.es.length : Int) ≤ 9223372036854775807 := by have := HN.out.2.2.2.1; omega
      clear hr3 hb3 hXL hL hW3 HE
      go_upto_region 13 with fail
      rw [HE3.out.1, HE3.out.2]
      clear x2 x3 HMK
      go_wp2_with fail
      go_loopw [5] (fun x wr => ∃ (i : Nat) (vs : Nat → Value), x = .int .i64 i ∧ i ≤ g.es.length ∧ g.es.all (edR g.nv (g.ar.length : Int) g.pts g.ext) = (g.es.drop i).all (edR g.nv (g.ar.length : Int) g.pts g.ext) ∧ RwIn wr L n (outT g.es i) vs ∧ Below L W3 wr) (fun x _ => g.es.length - (intOf x).toNat)
      case atStart => exact ⟨0, _, rfl, by omega, by rw [List.drop_zero], H3.out.1, Below.refl _ _⟩
      case round =>
        obtain ⟨i, vs, rfl, hi, hrt, hrw, hbr⟩ := hrel
        have hLs : L < W3.heap.size := H3.out.1.row.lt
        have hb2r : Below w2.heap.size w2 wr := by rw [H3.out.2.2.2]; exact H3.out.2.1.trans hbr
        have hbwr : Below w.heap.size w wr := bel HV2.out.2 hb2r
        have hxr : Blk wr X (grB g av cv aa ca ae ce) 30 := HB2.out.2.next hb2r
        have x5 : wr.cell? ⟨X, 5, none⟩ = some (.slice ae g.es.length ce) := hxr.cell 5
        have hesr : EdsAt wr g.es (.slice ae g.es.length ce) := HV2.out.1.es.keep (keeps_below hb2r)
        have HBR := Lib.hid (And.intro hbr (And.intro hrw (And.intro hLs (And.intro hb2r (And.intro hbwr (And.intro hxr hesr))))))
        clear hbr hrw hLs hb2r hbwr hxr
        by_cases hlt : i < g.es.length
        · have hbi : (i : Int) + 1 ≤ 9223372036854775807 := by omega
          obtain ⟨b, o, rfl, hc⟩ := hesr.row.resolve_left (by omega)
          obtain ⟨k0, k1, k2, k3, k4, k5, k6, k7, k8, k9⟩ := eds_at hc i hlt
          rw [all_drop _ g.es i hlt] at hrt
          have hmem : g.es.getD i noE = g.es[i] := by rw [List.getD_eq_getElem?_getD, List.getElem?_eq_getElem hlt, Option.getD_some]
          obtain ⟨e, he⟩ : ∃ e, g.es[i] = e := ⟨_, rfl⟩
          rw [he] at k0 k1 k2 k3 k4 k5 k6 k7 k8 k9 hrt hmem
          obtain ⟨Y, hY⟩ : ∃ Y, wr.heap.size = Y := ⟨_, rfl⟩
          obtain ⟨W4, hW4⟩ : ∃ W4, wr.alloc (.cells (edB e) 40) = W4 := ⟨_, rfl⟩
          have hy : Blk W4 Y (edB e) 40 := by rw [← hW4, ← hY]; exact Blk.new wr _ _
          have hb4 : Below wr.heap.size wr W4 := by rw [← hW4]; exact (Below.refl _ wr).alloc (Nat.le_refl _) _
          have hx4 : Blk W4 X (grB g av cv aa ca (some ⟨b, o, none⟩) ce) 30 := HBR.out.2.2.2.2.2.1.next hb4
          have HW4 := Lib.hid (And.intro hW4 hY)
          have H4 := Lib.hid (And.intro hy (And.intro hb4 (And.intro hx4 (And.intro (bel HBR.out.2.2.2.2.1 hb4) (And.intro hmem hrt)))))
          have y0 : W4.cell? ⟨Y, 0, none⟩ = some (.int .i64 e.fr) := hy.cell 0
          have y1 : W4.cell? ⟨Y, 1, none⟩ = some (.int .i64 e.dt) := hy.cell 1
          have x3 : W4.cell? ⟨X, 3, none⟩ = some (.int .i64 g.pts) := hx4.cell 3
          have x4 : W4.cell? ⟨X, 4, none⟩ = some (.int .i64 g.ext) := hx4.cell 4
          clear hc he hmem hrt hY hW4 hy hb4 hx4 hesr
          by_cases hend : endR g.pts g.ext e = false
          · have hf : frm g = false := by
              rw [frm_def, H4.out.2.2.2.2.2, edR_rgt, hend]; simp
            obtain rfl : CK = 92 := HCK.out.symm.trans (chk_92 HN.out.1 hf)
            have hcase : decide (e.fr < 0) = true ∨ (decide (e.fr < 0) = false ∧ decide (g.pts ≤ e.fr) = true) ∨ (decide (e.fr < 0) = false ∧ decide (g.pts ≤ e.fr) = false ∧ decide (e.dt < 0) = true) ∨ (decide (e.fr < 0) = false ∧ decide (g.pts ≤ e.fr) = false ∧ decide (e.dt < 0) = false ∧ decide (g.pts ≤ e.dt) = true) ∨ (decide (e.fr < 0) = false ∧ decide (g.pts ≤ e.fr) = false ∧ decide (e.dt < 0) = false ∧ decide (g.pts ≤ e.dt) = false ∧ (e.fr == g.ext) = true) := by
              unfold endR amg at hend
              by_cases q1 : e.fr < 0
              · exact .inl (by simpa using q1)
              · by_cases q2 : g.pts ≤ e.fr
                · exact .inr (.inl ⟨by simpa using q1, by simpa using q2⟩)
                · by_cases q3 : e.dt < 0
                  · exact .inr (.inr (.inl ⟨by simpa using q1, by simpa using q2, by simpa using q3⟩))
                  · by_cases q4 : g.pts ≤ e.dt
                    · exact .inr (.inr (.inr (.inl ⟨by simpa using q1, by simpa using q2, by simpa using q3, by simpa using q4⟩)))
                    · refine .inr (.inr (.inr (.inr ⟨by simpa using q1, by simpa using q2, by simpa using q3, by simpa using q4, ?_⟩)))
                      rw [decide_eq_true (by omega : 0 ≤ e.fr), decide_eq_true (by omega : e.fr < g.pts), decide_eq_true (by omega : 0 ≤ e.dt), decide_eq_true (by omega : e.dt < g.pts)] at hend
                      simpa [bne] using hend
            clear hend hf
            rcases hcase with f1 | ⟨f1, f2⟩ | ⟨f1, f2, f3⟩ | ⟨f1, f2, f3, f4⟩ | ⟨f1, f2, f3, f4, f5⟩
            all_goals
              go_upto_region 17 with fail
              rw [HW4.out.1, HW4.out.2]
              clear x5 k0 k1 k2 k3 k4 k5 k6 k7 k8 k9
              go_quiet (fail)
              go_wp2_with fail
              go_ret
              exact ⟨rfl, bel_drewN H4.out.2.2.2.1 _⟩
          · have hen : endR g.pts g.ext e = true := by simpa using hend
            have hq : (0 ≤ e.fr ∧ e.fr < g.pts) ∧ (0 ≤ e.dt ∧ e.dt < g.pts) ∧ (e.fr == g.ext) = false := by
              unfold endR at hen
              simp only [Bool.and_eq_true] at hen
              exact ⟨amg_true hen.1.1, amg_true hen.1.2, by simpa [bne] using hen.2⟩
            obtain ⟨⟨q1, q2⟩, ⟨q3, q4⟩, q5⟩ := hq
            obtain ⟨P, hP⟩ : ∃ P : Nat, e.fr = P := ⟨e.fr.toNat, by omega⟩
            have f1 : decide ((P : Int) < 0) = false := by simp
            have f2 : decide (g.pts ≤ (P : Int)) = false := by simp; omega
            have f3 : decide (e.dt < 0) = false := by simp; omega
            have f4 : decide (g.pts ≤ e.dt) = false := by simp; omega
            have f5 : ((P : Int) == g.ext) = false := by rw [← hP]; exact q5
            have hPn : P < n := by have := HN.out.2.1; omega
            have hPi : (P : Int) < (n : Int) := by omega
            rw [hP] at y0
            obtain ⟨RB, hRB⟩ : ∃ b, rgtP g.nv (g.ar.length : Int) e = b := ⟨_, rfl⟩
            have hrt2 : g.es.all (edR g.nv (g.ar.length : Int) g.pts g.ext) = (RB && (g.es.drop (i + 1)).all (edR g.nv (g.ar.length : Int) g.pts g.ext)) := by
              rw [H4.out.2.2.2.2.2, edR_rgt, hen, hRB]; rfl
            have HRG : ∀ w, Calls Tryz.prog 41 #[.agg #[.int .i64 (P : Int), .int .i64 e.dt, .int .i64 e.kd, .int .i64 e.dst, .int .i64 e.arr, .int .i64 e.op, .int .i64 e.av, .int .i64 e.an, .int .i64 e.bv, .int .i64 e.bn], .int .i64 g.nv, .int .i64 (g.ar.length : Int)] w (fun r w' => r = .returned (.bool RB) ∧ Below w.heap.size w w') := fun w => by
              have := sright_any e g.nv (g.ar.length : Int) w
              rw [hRB] at this
              rw [← hP]
              exact this
            have KS := fun w' (hW : Below W4.heap.size W4 w') => (⟨(H4.out.2.2.1.below hW H4.out.2.2.1.lt).cell 0, (H4.out.2.2.1.below hW H4.out.2.2.1.lt).cell 1, (H4.out.2.2.1.below hW H4.out.2.2.1.lt).cell 2, (H4.out.2.2.1.below hW H4.out.2.2.1.lt).cell 3, (H4.out.2.2.1.below hW H4.out.2.2.1.lt).cell 4, (H4.out.2.2.1.below hW H4.out.2.2.1.lt).cell 5, (hP ▸ (H4.out.1.below hW H4.out.1.lt).cell 0), (H4.out.1.below hW H4.out.1.lt).cell 1, (H4.out.1.below hW H4.out.1.lt).cell 2, (H4.out.1.below hW H4.out.1.lt).cell 3, (H4.out.1.below hW H4.out.1.lt).cell 4, (H4.out.1.below hW H4.out.1.lt).cell 5, (H4.out.1.below hW H4.out.1.lt).cell 6, (H4.out.1.below hW H4.out.1.lt).cell 7, (H4.out.1.below hW H4.out.1.lt).cell 8, (H4.out.1.below hW H4.out.1.lt).cell 9, hW⟩ : (fun w' => w'.cell? ⟨X, 0, none⟩ = some (.slice av g.vs.length cv) ∧ w'.cell? ⟨X, 1, none⟩ = some (.int .i64 g.tmp) ∧ w'.cell? ⟨X, 2, none⟩ = some (.slice aa g.ar.length ca) ∧ w'.cell? ⟨X, 3, none⟩ = some (.int .i64 g.pts) ∧ w'.cell? ⟨X, 4, none⟩ = some (.int .i64 g.ext) ∧ w'.cell? ⟨X, 5, none⟩ = some (.slice (some ⟨b, o, none⟩) g.es.length ce) ∧ w'.cell? ⟨Y, 0, none⟩ = some (.int .i64 (P : Int)) ∧ w'.cell? ⟨Y, 1, none⟩ = some (.int .i64 e.dt) ∧ w'.cell? ⟨Y, 2, none⟩ = some (.int .i64 e.kd) ∧ w'.cell? ⟨Y, 3, none⟩ = some (.int .i64 e.dst) ∧ w'.cell? ⟨Y, 4, none⟩ = some (.int .i64 e.arr) ∧ w'.cell? ⟨Y, 5, none⟩ = some (.int .i64 e.op) ∧ w'.cell? ⟨Y, 6, none⟩ = some (.int .i64 e.av) ∧ w'.cell? ⟨Y, 7, none⟩ = some (.int .i64 e.an) ∧ w'.cell? ⟨Y, 8, none⟩ = some (.int .i64 e.bv) ∧ w'.cell? ⟨Y, 9, none⟩ = some (.int .i64 e.bn) ∧ Below W4.heap.size W4 w') w')
            have HP := Lib.hid (And.intro hP (And.intro hPn (And.intro hPi hrt2)))
            rw [hP] at k0
            have HRGH := Lib.hid HRG
            have hE : edB e = #[.int .i64 (P : Int), .int .i64 e.dt, .int .i64 e.kd, .int .i64 e.dst, .int .i64 e.arr, .int .i64 e.op, .int .i64 e.av, .int .i64 e.an, .int .i64 e.bv, .int .i64 e.bn] := by rw [← hP]
            have HE4 : Hid (wr.alloc (.cells #[.int .i64 (P : Int), .int .i64 e.dt, .int .i64 e.kd, .int .i64 e.dst, .int .i64 e.arr, .int .i64 e.op, .int .i64 e.av, .int .i64 e.an, .int .i64 e.bv, .int .i64 e.bn] 40) = W4) := Lib.hid (by rw [← hE]; exact HW4.out.1)
            clear hend hen q1 q2 q3 q4 q5 hP hPn hRB hrt2 HRG hE
            go_upto_region 17 with fail
            rw [HE4.out, HW4.out.2]
            clear x5 k0 k1 k2 k3 k4 k5 k6 k7 k8 k9 y0 y1 x3 x4
            refine wp_region_any (by kernel_rfl) ?_
            refine wpAny_vals [95, 96, 97, 98, 99, 100, 101, 102, 103, 104, 105, 106, 107, 108, 109, 110, 111, 112, 113, 114, 115, 116, 117, 118, 119, 120, 121, 122, 123, 124, 125, 126, 127, 128, 129, 130, 131, 132, 133] [.pointer (some ⟨Y, 0, none⟩), .int .i64 (P : Int), .bool false, .bool false, .pointer (some ⟨Y, 0, none⟩), .int .i64 (P : Int), .pointer (some ⟨X, 3, none⟩), .int .i64 g.pts, .bool false, .bool false, .bool false, .pointer (some ⟨Y, 1, none⟩), .int .i64 e.dt, .bool false, .bool false, .bool false, .pointer (some ⟨Y, 1, none⟩), .int .i64 e.dt, .pointer (some ⟨X, 3, none⟩), .int .i64 g.pts, .bool false, .bool false, .bool false, .pointer (some ⟨Y, 0, none⟩), .int .i64 (P : Int), .pointer (some ⟨X, 4, none⟩), .int .i64 g.ext, .bool false, .bool false, .bool false, .agg #[.int .i64 (P : Int), .int .i64 e.dt, .int .i64 e.kd, .int .i64 e.dst, .int .i64 e.arr, .int .i64 e.op, .int .i64 e.av, .int .i64 e.an, .int .i64 e.bv, .int .i64 e.bn], .agg #[.slice av g.vs.length cv, .int .i64 g.tmp, .slice aa g.ar.length ca, .int .i64 g.pts, .int .i64 g.ext, .slice (some ⟨b, o, none⟩) g.es.length ce], .int .i64 g.nv, .pointer (some ⟨X, 2, none⟩), .slice aa g.ar.length ca, .int .i64 (g.ar.length : Int), .bool RB, .bool (!RB), .bool (!RB)] (fun w' => Below W4.heap.size W4 w') rfl (by kernel_rfl) (by decide) (by kernel_rfl) ?hs ?he ?hj
            case hj => exact (Below.refl _ _).drew
            case hs =>
              intro i o ho fr0 hv hx w' hJ
              have hi : i < 39 := (Array.getElem?_eq_some_iff.1 ho).1
              obtain ⟨c0, c1, c2, c3, c4, c5, c6, c7, c8, c9, c10, c11, c12, c13, c14, c15, -⟩ := KS w' hJ
              have HJ := Lib.hid hJ
              clear hJ
              have hcase : i = 0 ∨ i = 1 ∨ i = 2 ∨ i = 3 ∨ i = 4 ∨ i = 5 ∨ i = 6 ∨ i = 7 ∨ i = 8 ∨ i = 9 ∨ i = 10 ∨ i = 11 ∨ i = 12 ∨ i = 13 ∨ i = 14 ∨ i = 15 ∨ i = 16 ∨ i = 17 ∨ i = 18 ∨ i = 19 ∨ i = 20 ∨ i = 21 ∨ i = 22 ∨ i = 23 ∨ i = 24 ∨ i = 25 ∨ i = 26 ∨ i = 27 ∨ i = 28 ∨ i = 29 ∨ i = 30 ∨ i = 31 ∨ i = 32 ∨ i = 33 ∨ i = 34 ∨ i = 35 ∨ i = 36 ∨ i = 37 ∨ i = 38 := by omega
              clear hi
              rcases hcase with rfl | rfl | rfl | rfl | rfl | rfl | rfl | rfl | rfl | rfl | rfl | rfl | rfl | rfl | rfl | rfl | rfl | rfl | rfl | rfl | rfl | rfl | rfl | rfl | rfl | rfl | rfl | rfl | rfl | rfl | rfl | rfl | rfl | rfl | rfl | rfl | rfl | rfl | rfl
              · obtain rfl := Option.some.inj ho.symm
                clear ho
                have x6 : fr0.tmps[(6 : Nat)]? = some (.pointer (some ⟨Y, 0, none⟩)) := hx 6 (by decide)
                clear hv hx
                refine wpOp_step rfl (fun K hK => ?_)
                go_simp
                exact hK _ _ ⟨rfl, HJ.out⟩
              · obtain rfl := Option.some.inj ho.symm
                clear ho
                have d0 : fr0.tmps[(95 : Nat)]? = some (.pointer (some ⟨Y, 0, none⟩)) := hv ⟨0, .data⟩ (by simp) rfl
                clear hv hx
                refine wpOp_step rfl (fun K hK => ?_)
                go_simp
                exact hK _ _ ⟨rfl, HJ.out⟩
              · obtain rfl := Option.some.inj ho.symm
                clear ho
                have d1 : fr0.tmps[(96 : Nat)]? = some (.int .i64 (P : Int)) := hv ⟨1, .data⟩ (by simp) rfl
                clear hv hx
                refine wpOp_step rfl (fun K hK => ?_)
                go_simp
                exact hK _ _ ⟨rfl, HJ.out⟩
              · obtain rfl := Option.some.inj ho.symm
                clear ho
                have d2 : fr0.tmps[(97 : Nat)]? = some (.bool false) := hv ⟨2, .data⟩ (by simp) rfl
                clear hv hx
                refine wpOp_step rfl (fun K hK => ?_)
                go_simp
                exact hK _ _ ⟨rfl, HJ.out⟩
              · obtain rfl := Option.some.inj ho.symm
                clear ho
                have d3 : fr0.tmps[(98 : Nat)]? = some (.bool false) := hv ⟨3, .guard⟩ (by simp) rfl
                have x6 : fr0.tmps[(6 : Nat)]? = some (.pointer (some ⟨Y, 0, none⟩)) := hx 6 (by decide)
                clear hv hx
                refine wpOp_step rfl (fun K hK => ?_)
                go_simp
                exact hK _ _ ⟨rfl, HJ.out⟩
              · obtain rfl := Option.some.inj ho.symm
                clear ho
                have d4 : fr0.tmps[(99 : Nat)]? = some (.pointer (some ⟨Y, 0, none⟩)) := hv ⟨4, .data⟩ (by simp) rfl
                have d3 : fr0.tmps[(98 : Nat)]? = some (.bool false) := hv ⟨3, .guard⟩ (by simp) rfl
                clear hv hx
                refine wpOp_step rfl (fun K hK => ?_)
                go_simp
                exact hK _ _ ⟨rfl, HJ.out⟩
              · obtain rfl := Option.some.inj ho.symm
                clear ho
                have d3 : fr0.tmps[(98 : Nat)]? = some (.bool false) := hv ⟨3, .guard⟩ (by simp) rfl
                have x1 : fr0.tmps[(1 : Nat)]? = some (.pointer (some ⟨X, 0, none⟩)) := hx 1 (by decide)
                clear hv hx
                refine wpOp_step rfl (fun K hK => ?_)
                go_simp
                exact hK _ _ ⟨rfl, HJ.out⟩
              · obtain rfl := Option.some.inj ho.symm
                clear ho
                have d6 : fr0.tmps[(101 : Nat)]? = some (.pointer (some ⟨X, 3, none⟩)) := hv ⟨6, .data⟩ (by simp) rfl
                have d3 : fr0.tmps[(98 : Nat)]? = some (.bool false) := hv ⟨3, .guard⟩ (by simp) rfl
                clear hv hx
                refine wpOp_step rfl (fun K hK => ?_)
                go_simp
                exact hK _ _ ⟨rfl, HJ.out⟩
              · obtain rfl := Option.some.inj ho.symm
                clear ho
                have d5 : fr0.tmps[(100 : Nat)]? = some (.int .i64 (P : Int)) := hv ⟨5, .data⟩ (by simp) rfl
                have d7 : fr0.tmps[(102 : Nat)]? = some (.int .i64 g.pts) := hv ⟨7, .data⟩ (by simp) rfl
                have d3 : fr0.tmps[(98 : Nat)]? = some (.bool false) := hv ⟨3, .guard⟩ (by simp) rfl
                clear hv hx
                refine wpOp_step rfl (fun K hK => ?_)
                go_simp
                exact hK _ _ ⟨rfl, HJ.out⟩
              · obtain rfl := Option.some.inj ho.symm
                clear ho
                have d3 : fr0.tmps[(98 : Nat)]? = some (.bool false) := hv ⟨3, .data⟩ (by simp) rfl
                have d8 : fr0.tmps[(103 : Nat)]? = some (.bool false) := hv ⟨8, .data⟩ (by simp) rfl
                clear hv hx
                refine wpOp_step rfl (fun K hK => ?_)
                go_simp
                exact hK _ _ ⟨rfl, HJ.out⟩
              · obtain rfl := Option.some.inj ho.symm
                clear ho
                have d9 : fr0.tmps[(104 : Nat)]? = some (.bool false) := hv ⟨9, .data⟩ (by simp) rfl
                clear hv hx
                refine wpOp_step rfl (fun K hK => ?_)
                go_simp
                exact hK _ _ ⟨rfl, HJ.out⟩
              · obtain rfl := Option.some.inj ho.symm
                clear ho
                have d10 : fr0.tmps[(105 : Nat)]? = some (.bool false) := hv ⟨10, .guard⟩ (by simp) rfl
                have x6 : fr0.tmps[(6 : Nat)]? = some (.pointer (some ⟨Y, 0, none⟩)) := hx 6 (by decide)
                clear hv hx
                refine wpOp_step rfl (fun K hK => ?_)
                go_simp
                exact hK _ _ ⟨rfl, HJ.out⟩
              · obtain rfl := Option.some.inj ho.symm
                clear ho
                have d11 : fr0.tmps[(106 : Nat)]? = some (.pointer (some ⟨Y, 1, none⟩)) := hv ⟨11, .data⟩ (by simp) rfl
                have d10 : fr0.tmps[(105 : Nat)]? = some (.bool false) := hv ⟨10, .guard⟩ (by simp) rfl
                clear hv hx
                refine wpOp_step rfl (fun K hK => ?_)
                go_simp
                exact hK _ _ ⟨rfl, HJ.out⟩
              · obtain rfl := Option.some.inj ho.symm
                clear ho
                have d12 : fr0.tmps[(107 : Nat)]? = some (.int .i64 e.dt) := hv ⟨12, .data⟩ (by simp) rfl
                have d10 : fr0.tmps[(105 : Nat)]? = some (.bool false) := hv ⟨10, .guard⟩ (by simp) rfl
                clear hv hx
                refine wpOp_step rfl (fun K hK => ?_)
                go_simp
                exact hK _ _ ⟨rfl, HJ.out⟩
              · obtain rfl := Option.some.inj ho.symm
                clear ho
                have d10 : fr0.tmps[(105 : Nat)]? = some (.bool false) := hv ⟨10, .data⟩ (by simp) rfl
                have d13 : fr0.tmps[(108 : Nat)]? = some (.bool false) := hv ⟨13, .data⟩ (by simp) rfl
                clear hv hx
                refine wpOp_step rfl (fun K hK => ?_)
                go_simp
                exact hK _ _ ⟨rfl, HJ.out⟩
              · obtain rfl := Option.some.inj ho.symm
                clear ho
                have d14 : fr0.tmps[(109 : Nat)]? = some (.bool false) := hv ⟨14, .data⟩ (by simp) rfl
                clear hv hx
                refine wpOp_step rfl (fun K hK => ?_)
                go_simp
                exact hK _ _ ⟨rfl, HJ.out⟩
              · obtain rfl := Option.some.inj ho.symm
                clear ho
                have d15 : fr0.tmps[(110 : Nat)]? = some (.bool false) := hv ⟨15, .guard⟩ (by simp) rfl
                have x6 : fr0.tmps[(6 : Nat)]? = some (.pointer (some ⟨Y, 0, none⟩)) := hx 6 (by decide)
                clear hv hx
                refine wpOp_step rfl (fun K hK => ?_)
                go_simp
                exact hK _ _ ⟨rfl, HJ.out⟩
              · obtain rfl := Option.some.inj ho.symm
                clear ho
                have d16 : fr0.tmps[(111 : Nat)]? = some (.pointer (some ⟨Y, 1, none⟩)) := hv ⟨16, .data⟩ (by simp) rfl
                have d15 : fr0.tmps[(110 : Nat)]? = some (.bool false) := hv ⟨15, .guard⟩ (by simp) rfl
                clear hv hx
                refine wpOp_step rfl (fun K hK => ?_)
                go_simp
                exact hK _ _ ⟨rfl, HJ.out⟩
              · obtain rfl := Option.some.inj ho.symm
                clear ho
                have d15 : fr0.tmps[(110 : Nat)]? = some (.bool false) := hv ⟨15, .guard⟩ (by simp) rfl
                have x1 : fr0.tmps[(1 : Nat)]? = some (.pointer (some ⟨X, 0, none⟩)) := hx 1 (by decide)
                clear hv hx
                refine wpOp_step rfl (fun K hK => ?_)
                go_simp
                exact hK _ _ ⟨rfl, HJ.out⟩
              · obtain rfl := Option.some.inj ho.symm
                clear ho
                have d18 : fr0.tmps[(113 : Nat)]? = some (.pointer (some ⟨X, 3, none⟩)) := hv ⟨18, .data⟩ (by simp) rfl
                have d15 : fr0.tmps[(110 : Nat)]? = some (.bool false) := hv ⟨15, .guard⟩ (by simp) rfl
                clear hv hx
                refine wpOp_step rfl (fun K hK => ?_)
                go_simp
                exact hK _ _ ⟨rfl, HJ.out⟩
              · obtain rfl := Option.some.inj ho.symm
                clear ho
                have d17 : fr0.tmps[(112 : Nat)]? = some (.int .i64 e.dt) := hv ⟨17, .data⟩ (by simp) rfl
                have d19 : fr0.tmps[(114 : Nat)]? = some (.int .i64 g.pts) := hv ⟨19, .data⟩ (by simp) rfl
                have d15 : fr0.tmps[(110 : Nat)]? = some (.bool false) := hv ⟨15, .guard⟩ (by simp) rfl
                clear hv hx
                refine wpOp_step rfl (fun K hK => ?_)
                go_simp
                exact hK _ _ ⟨rfl, HJ.out⟩
              · obtain rfl := Option.some.inj ho.symm
                clear ho
                have d15 : fr0.tmps[(110 : Nat)]? = some (.bool false) := hv ⟨15, .data⟩ (by simp) rfl
                have d20 : fr0.tmps[(115 : Nat)]? = some (.bool false) := hv ⟨20, .data⟩ (by simp) rfl
                clear hv hx
                refine wpOp_step rfl (fun K hK => ?_)
                go_simp
                exact hK _ _ ⟨rfl, HJ.out⟩
              · obtain rfl := Option.some.inj ho.symm
                clear ho
                have d21 : fr0.tmps[(116 : Nat)]? = some (.bool false) := hv ⟨21, .data⟩ (by simp) rfl
                clear hv hx
                refine wpOp_step rfl (fun K hK => ?_)
                go_simp
                exact hK _ _ ⟨rfl, HJ.out⟩
              · obtain rfl := Option.some.inj ho.symm
                clear ho
                have d22 : fr0.tmps[(117 : Nat)]? = some (.bool false) := hv ⟨22, .guard⟩ (by simp) rfl
                have x6 : fr0.tmps[(6 : Nat)]? = some (.pointer (some ⟨Y, 0, none⟩)) := hx 6 (by decide)
                clear hv hx
                refine wpOp_step rfl (fun K hK => ?_)
                go_simp
                exact hK _ _ ⟨rfl, HJ.out⟩
              · obtain rfl := Option.some.inj ho.symm
                clear ho
                have d23 : fr0.tmps[(118 : Nat)]? = some (.pointer (some ⟨Y, 0, none⟩)) := hv ⟨23, .data⟩ (by simp) rfl
                have d22 : fr0.tmps[(117 : Nat)]? = some (.bool false) := hv ⟨22, .guard⟩ (by simp) rfl
                clear hv hx
                refine wpOp_step rfl (fun K hK => ?_)
                go_simp
                exact hK _ _ ⟨rfl, HJ.out⟩
              · obtain rfl := Option.some.inj ho.symm
                clear ho
                have d22 : fr0.tmps[(117 : Nat)]? = some (.bool false) := hv ⟨22, .guard⟩ (by simp) rfl
                have x1 : fr0.tmps[(1 : Nat)]? = some (.pointer (some ⟨X, 0, none⟩)) := hx 1 (by decide)
                clear hv hx
                refine wpOp_step rfl (fun K hK => ?_)
                go_simp
                exact hK _ _ ⟨rfl, HJ.out⟩
              · obtain rfl := Option.some.inj ho.symm
                clear ho
                have d25 : fr0.tmps[(120 : Nat)]? = some (.pointer (some ⟨X, 4, none⟩)) := hv ⟨25, .data⟩ (by simp) rfl
                have d22 : fr0.tmps[(117 : Nat)]? = some (.bool false) := hv ⟨22, .guard⟩ (by simp) rfl
                clear hv hx
                refine wpOp_step rfl (fun K hK => ?_)
                go_simp
                exact hK _ _ ⟨rfl, HJ.out⟩
              · obtain rfl := Option.some.inj ho.symm
                clear ho
                have d24 : fr0.tmps[(119 : Nat)]? = some (.int .i64 (P : Int)) := hv ⟨24, .data⟩ (by simp) rfl
                have d26 : fr0.tmps[(121 : Nat)]? = some (.int .i64 g.ext) := hv ⟨26, .data⟩ (by simp) rfl
                have d22 : fr0.tmps[(117 : Nat)]? = some (.bool false) := hv ⟨22, .guard⟩ (by simp) rfl
                clear hv hx
                refine wpOp_step rfl (fun K hK => ?_)
                go_simp
                exact hK _ _ ⟨rfl, HJ.out⟩
              · obtain rfl := Option.some.inj ho.symm
                clear ho
                have d22 : fr0.tmps[(117 : Nat)]? = some (.bool false) := hv ⟨22, .data⟩ (by simp) rfl
                have d27 : fr0.tmps[(122 : Nat)]? = some (.bool false) := hv ⟨27, .data⟩ (by simp) rfl
                clear hv hx
                refine wpOp_step rfl (fun K hK => ?_)
                go_simp
                exact hK _ _ ⟨rfl, HJ.out⟩
              · obtain rfl := Option.some.inj ho.symm
                clear ho
                have d28 : fr0.tmps[(123 : Nat)]? = some (.bool false) := hv ⟨28, .data⟩ (by simp) rfl
                clear hv hx
                refine wpOp_step rfl (fun K hK => ?_)
                go_simp
                exact hK _ _ ⟨rfl, HJ.out⟩
              · obtain rfl := Option.some.inj ho.symm
                clear ho
                have d29 : fr0.tmps[(124 : Nat)]? = some (.bool false) := hv ⟨29, .guard⟩ (by simp) rfl
                have x6 : fr0.tmps[(6 : Nat)]? = some (.pointer (some ⟨Y, 0, none⟩)) := hx 6 (by decide)
                clear hv hx
                refine wpOp_step rfl (fun K hK => ?_)
                go_simp
                exact hK _ _ ⟨rfl, HJ.out⟩
              · obtain rfl := Option.some.inj ho.symm
                clear ho
                have d29 : fr0.tmps[(124 : Nat)]? = some (.bool false) := hv ⟨29, .guard⟩ (by simp) rfl
                have x1 : fr0.tmps[(1 : Nat)]? = some (.pointer (some ⟨X, 0, none⟩)) := hx 1 (by decide)
                clear hv hx
                refine wpOp_step rfl (fun K hK => ?_)
                go_simp
                exact hK _ _ ⟨rfl, HJ.out⟩
              · obtain rfl := Option.some.inj ho.symm
                clear ho
                have d31 : fr0.tmps[(126 : Nat)]? = some (.agg #[.slice av g.vs.length cv, .int .i64 g.tmp, .slice aa g.ar.length ca, .int .i64 g.pts, .int .i64 g.ext, .slice (some ⟨b, o, none⟩) g.es.length ce]) := hv ⟨31, .data⟩ (by simp) rfl
                have d29 : fr0.tmps[(124 : Nat)]? = some (.bool false) := hv ⟨29, .guard⟩ (by simp) rfl
                clear hv hx
                refine wpOp_step rfl (fun K hK => ?_)
                go_simp
                refine (HALH.out _).mono ?_
                rintro r w5 ⟨rfl, hb5⟩
                exact hK _ _ ⟨rfl, HJ.out.trans (hb5.mono HJ.out.size)⟩
              · obtain rfl := Option.some.inj ho.symm
                clear ho
                have d29 : fr0.tmps[(124 : Nat)]? = some (.bool false) := hv ⟨29, .guard⟩ (by simp) rfl
                have x1 : fr0.tmps[(1 : Nat)]? = some (.pointer (some ⟨X, 0, none⟩)) := hx 1 (by decide)
                clear hv hx
                refine wpOp_step rfl (fun K hK => ?_)
                go_simp
                exact hK _ _ ⟨rfl, HJ.out⟩
              · obtain rfl := Option.some.inj ho.symm
                clear ho
                have d33 : fr0.tmps[(128 : Nat)]? = some (.pointer (some ⟨X, 2, none⟩)) := hv ⟨33, .data⟩ (by simp) rfl
                have d29 : fr0.tmps[(124 : Nat)]? = some (.bool false) := hv ⟨29, .guard⟩ (by simp) rfl
                clear hv hx
                refine wpOp_step rfl (fun K hK => ?_)
                go_simp
                exact hK _ _ ⟨rfl, HJ.out⟩
              · obtain rfl := Option.some.inj ho.symm
                clear ho
                have d34 : fr0.tmps[(129 : Nat)]? = some (.slice aa g.ar.length ca) := hv ⟨34, .data⟩ (by simp) rfl
                have d29 : fr0.tmps[(124 : Nat)]? = some (.bool false) := hv ⟨29, .guard⟩ (by simp) rfl
                clear hv hx
                refine wpOp_step rfl (fun K hK => ?_)
                go_simp
                exact hK _ _ ⟨rfl, HJ.out⟩
              · obtain rfl := Option.some.inj ho.symm
                clear ho
                have d30 : fr0.tmps[(125 : Nat)]? = some (.agg #[.int .i64 (P : Int), .int .i64 e.dt, .int .i64 e.kd, .int .i64 e.dst, .int .i64 e.arr, .int .i64 e.op, .int .i64 e.av, .int .i64 e.an, .int .i64 e.bv, .int .i64 e.bn]) := hv ⟨30, .data⟩ (by simp) rfl
                have d32 : fr0.tmps[(127 : Nat)]? = some (.int .i64 g.nv) := hv ⟨32, .data⟩ (by simp) rfl
                have d35 : fr0.tmps[(130 : Nat)]? = some (.int .i64 (g.ar.length : Int)) := hv ⟨35, .data⟩ (by simp) rfl
                have d29 : fr0.tmps[(124 : Nat)]? = some (.bool false) := hv ⟨29, .guard⟩ (by simp) rfl
                clear hv hx
                refine wpOp_step rfl (fun K hK => ?_)
                go_simp
                refine (HRGH.out _).mono ?_
                rintro r w5 ⟨rfl, hb5⟩
                exact hK _ _ ⟨rfl, HJ.out.trans (hb5.mono HJ.out.size)⟩
              · obtain rfl := Option.some.inj ho.symm
                clear ho
                have d36 : fr0.tmps[(131 : Nat)]? = some (.bool RB) := hv ⟨36, .data⟩ (by simp) rfl
                have d29 : fr0.tmps[(124 : Nat)]? = some (.bool false) := hv ⟨29, .guard⟩ (by simp) rfl
                clear hv hx
                refine wpOp_step rfl (fun K hK => ?_)
                go_simp
                exact hK _ _ ⟨rfl, HJ.out⟩
              · obtain rfl := Option.some.inj ho.symm
                clear ho
                have d29 : fr0.tmps[(124 : Nat)]? = some (.bool false) := hv ⟨29, .data⟩ (by simp) rfl
                have d37 : fr0.tmps[(132 : Nat)]? = some (.bool (!RB)) := hv ⟨37, .data⟩ (by simp) rfl
                clear hv hx
                refine wpOp_step rfl (fun K hK => ?_)
                go_simp
                exact hK _ _ ⟨rfl, HJ.out⟩
            case he =>
              intro w' hJ
              simp only [putF, valsAt, Nat.reduceAdd, Nat.zero_add, List.getD_cons_zero, List.getD_cons_succ, Act.put, List.setIfInBounds_toArray, List.set_cons_succ, List.set_cons_zero]
              have HJ5 := Lib.hid hJ
              cases RB with
              | false =>
                have hf : frm g = false := by rw [frm_def, HP.out.2.2.2]; simp
                obtain rfl : CK = 92 := HCK.out.symm.trans (chk_92 HN.out.1 hf)
                clear hf hJ
                simp only [Bool.not_false]
                go_wp2_with fail
                go_ret
                exact ⟨rfl, bel H4.out.2.2.2.1 HJ5.out⟩
              | true =>
                have hy5 : Blk w' Y #[.int .i64 (P : Int), .int .i64 e.dt, .int .i64 e.kd, .int .i64 e.dst, .int .i64 e.arr, .int .i64 e.op, .int .i64 e.av, .int .i64 e.an, .int .i64 e.bv, .int .i64 e.bn] 40 := by rw [← HP.out.1]; exact H4.out.1.next hJ
                have hb5 : Below wr.heap.size wr w' := bel H4.out.2.1 hJ
                have hr5 := HBR.out.2.1.below hb5
                have hP := HP.out.1
                have hPn := HP.out.2.1
                have hPi := HP.out.2.2.1
                have hm := HN.out.2.2.2.1
                have hge := H4.out.2.2.2.2.1
                obtain ⟨V, hV⟩ : ∃ V, vs P = V := ⟨_, rfl⟩
                have hrc := hr5.row.cell hPn
                have hrf := hr5.row.frozen P
                have hro := hr5.own P hPn
                rw [hV] at hrc hro
                have hVL : ∀ k, V.ownBlock = some k → L + 1 ≤ k := fun k hk => (hro.lt k hk).1
                have hyY : ∀ k, V.ownBlock = some k → k ≠ Y := fun k hk e => by
                  have := ((HBR.out.2.1.own P hPn).lt k (by rw [hV]; exact hk)).2
                  have := HW4.out.2
                  omega
                have hr6 := fun o => hr5.below ((Below.refl w'.heap.size w').alloc (Nat.le_refl _) o)
                have hrc4 : ∀ o, (w'.alloc o).cell? ⟨L, P, none⟩ = some V := fun o => by rw [← hV]; exact (hr6 o).row.cell hPn
                have y0 : w'.cell? ⟨Y, 0, none⟩ = some (.int .i64 (P : Int)) := hy5.cell 0
                have y4 : ∀ o, (w'.alloc o).cell? ⟨Y, 0, none⟩ = some (.int .i64 (P : Int)) := fun o => (hy5.alloc o).cell 0
                obtain ⟨N, hN⟩ : ∃ N, (outT g.es i P).length = N := ⟨_, rfl⟩
                have hNi : N ≤ i := by rw [← hN]; exact outT_len _ _ _
                rw [hN] at hro
                obtain ⟨CS, hCS⟩ : ∃ C, cellsN (outT g.es i P) = C := ⟨_, rfl⟩
                rw [hCS] at hro
                have hLW : L < w'.heap.size := hr5.row.lt
                have HRO := Lib.hid hro
                have HG := Lib.hid (And.intro hy5 (And.intro hb5 (And.intro hV (And.intro hN (And.intro hCS (And.intro hVL (And.intro hyY (And.intro hge (And.intro hP (And.intro hNi (And.intro hPn (And.intro hLW (And.intro hr5.row hm)))))))))))))
                clear hJ hge hP hPn hy5 hb5 hr5 hV hro hVL hyY hr6 hN hCS hNi hLW hm HRGH HALH f1 f2 f3 f4 f5 KS
                obtain ⟨w5, hw5⟩ : ∃ x, x = w' := ⟨_, rfl⟩
                subst hw5
                obtain ⟨i0, hi0, hz0, hz1, hz2⟩ := info_parts info_icell
                have HI0 := Lib.hid (And.intro hi0 (And.intro hz0 (And.intro hz1 hz2)))
                clear hi0 hz0 hz1 hz2
                simp only [Bool.not_true]
                go_upto_region 19 with fail
                go_region_law
                  (refine step_append_lies _ (by rfl) _ _ _ (by rfl) (L + 1) 3 i0 _ 1 8 Tryz.underlying44 HI0.out.1 HI0.out.2.1 HI0.out.2.2.1 HI0.out.2.2.2 rfl (by omega) V N CS (by rfl) (HRO.out.drew.alloc _) ⟨w5.heap.size, 0, none⟩ 1 1 [.int .i64 (i : Int)] (by rfl) (by rfl) (World.news_of_block (cs := #[.int .i64 (i : Int)]) (t := 3) (fr := (0, 0)) (heap_alloc_new w5.drew _)) (one_int _) (by omega) (by unfold maxLen; have := HG.out.2.2.2.2.2.2.2.2.2.1; have := HG.out.2.2.2.2.2.2.2.2.2.2.2.2.2; omega) (by have := HG.out.2.2.2.2.2.2.2.2.2.1; have := HG.out.2.2.2.2.2.2.2.2.2.2.2.2.2; omega) (by simp; have := HG.out.2.2.2.2.2.2.2.2.2.2.2.1; omega) (w5.heap.size + 1) (by simp) ?_
                   intro gg cap w6 hown2 hgrow hat hlt2
                   have q0 : w6.cell? ⟨Y, 0, none⟩ = some (.int .i64 (P : Int)) := (blk_grown ((show Blk w5.drew Y _ _ from HG.out.1).alloc _) hgrow (fun e => HG.out.2.2.2.2.2.2.1 _ e rfl)).cell 0
                   have hL2 : w6.rowIs L 44 n vs := (HG.out.2.2.2.2.2.2.2.2.2.2.2.2.1.drew.alloc _).of_block (hgrow.block L (by simp; have := HG.out.2.2.2.2.2.2.2.2.2.2.2.1; omega) (fun e => by have := HG.out.2.2.2.2.2.1 L e.symm; omega))
                   have q1 := hL2.cell HG.out.2.2.2.2.2.2.2.2.2.2.1
                   have q2 := hL2.frozen P)
                all_goals
                  go_wp2_with fail
                  go_roundw
                  case rel =>
                    obtain ⟨-, hb3, hV, hN, hCS, hVL, hyY, hge, hP, hNi, hPn, hLW, -, hm⟩ := HG.out
                    have hb4 : Below wr.heap.size wr (w5.drew.alloc (.cells #[.int .i64 (i : Int)] 3)) := hb3.drew.alloc (by have := hb3.size; exact this) _
                    have hat2 : (vs P).ownBlock = some gg ∨ gg = (w5.drew.alloc (.cells #[.int .i64 (i : Int)] 3)).heap.size := by
                      rw [hV]
                      exact hat.imp id fun h => by rw [h, World.size_alloc]; rfl
                    have hpush := HBR.out.2.1.push hb4 (p := P) (x := i) hPn (by rw [hN, hCS]; exact hown2) (by rw [hV]; exact hgrow) (gg := gg) rfl hat2
                    refine ⟨i + 1, _, by go_num, by omega, by rw [HP.out.2.2.2]; rfl, hpush.congr (fun p _ => ?_), ?_⟩
                    · rw [outT_succ, hge, hP]
                      by_cases e2 : p = P
                      · subst e2; simp
                      · have : ((P : Int) == (p : Int)) = false := by simp; omega
                        rw [if_neg e2, this]; simp
                    · have h5 := HBR.out.1.trans (hb4.mono (Nat.le_of_lt HBR.out.2.1.row.lt))
                      exact (h5.grown hgrow (Nat.le_trans (Nat.le_of_lt HBR.out.2.2.1) h5.size) (fun k hk => by have := hVL k hk; omega)).setCell (Nat.le_refl L) _
                  case measure => simp [intOf]; omega
        · obtain rfl : i = g.es.length := by omega
          have hrg : g.es.all (edR g.nv (g.ar.length : Int) g.pts g.ext) = true := by rw [hrt, List.drop_length]; rfl
          have HRI := Lib.hid hrg
          have x3 : wr.cell? ⟨X, 3, none⟩ = some (.int .i64 (n : Int)) := by rw [← HN.out.2.1]; exact HBR.out.2.2.2.2.2.1.cell 3
          have HN0 := Lib.hid (show n ≤ 4096 from HN.out.2.2.1)
          clear hrt hrg hesr HALH
          obtain ⟨wy, hwy⟩ : ∃ x, x = wr := ⟨_, rfl⟩
          subst hwy
          go_wp2_with fail
          go_loopw [7] (fun x wr => ∃ p : Nat, x = .int .i64 p ∧ p ≤ n ∧ (∀ q, q < p → tog g.es (outL g.es q) = true) ∧ Below wy.heap.size wy wr) (fun x _ => n - (intOf x).toNat)
          case atStart => exact ⟨0, rfl, by omega, fun q hq => absurd hq (Nat.not_lt_zero q), Below.refl _ _⟩
          case round =>
            obtain ⟨p, rfl, hp, htg, hbz⟩ := hrel
            have hrwz : RwIn wr L n (outL g.es) vs := HBR.out.2.1.below hbz
            have hxz := HBR.out.2.2.2.2.2.1.next hbz
            have hesz : EdsAt wr g.es (.slice ae g.es.length ce) := HBR.out.2.2.2.2.2.2.keep (keeps_below hbz)
            have z0 : wr.cell? ⟨X, 0, none⟩ = some (.slice av g.vs.length cv) := hxz.cell 0
            have z1 : wr.cell? ⟨X, 1, none⟩ = some (.int .i64 g.tmp) := hxz.cell 1
            have z2 : wr.cell? ⟨X, 2, none⟩ = some (.slice aa g.ar.length ca) := hxz.cell 2
            have z3 : wr.cell? ⟨X, 3, none⟩ = some (.int .i64 (n : Int)) := by rw [← HN.out.2.1]; exact hxz.cell 3
            have z4 : wr.cell? ⟨X, 4, none⟩ = some (.int .i64 g.ext) := hxz.cell 4
            have z5 : wr.cell? ⟨X, 5, none⟩ = some (.slice ae g.es.length ce) := hxz.cell 5
            have hbwz : Below w.heap.size w wr := bel HBR.out.2.2.2.2.1 hbz
            have HZ := Lib.hid (And.intro htg (And.intro hbz (And.intro hbwz (And.intro hrwz hesz))))
            clear htg hbz hrwz hxz hesz hbwz x3
            by_cases hlt : p < n
            · have hbi : (p : Int) + 1 ≤ 9223372036854775807 := by have := HN0.out; omega
              obtain ⟨a, c, hv, hlc, hcm, hcl, hrow⟩ := HZ.out.2.2.2.1.at p hlt
              have hll : (outL g.es p).length ≤ g.es.length := outT_len _ _ _
              have HS := Lib.hid (fun w' (hb : Below wr.heap.size wr w') => sfork_any g av aa ae cv ca ce (outL g.es p) a c w' (HZ.out.2.2.2.2.keep (keeps_below hb)) (fun x hx => (outT_lt hx).1) (by have := HN.out.2.2.2.1; omega) (hrow.imp id fun ⟨b, h1, _, _, h4⟩ => ⟨b, h1, fun k hk => keeps_below hb _ _ _ (h4 k hk)⟩))
              have hgs : grS g av cv aa ca ae ce = .agg #[.slice av g.vs.length cv, .int .i64 g.tmp, .slice aa g.ar.length ca, .int .i64 (n : Int), .int .i64 g.ext, .slice ae g.es.length ce] := by rw [← HN.out.2.1]
              rw [hgs] at HS
              obtain ⟨B, hB⟩ : ∃ B, tog g.es (outL g.es p) = B := ⟨_, rfl⟩
              rw [hB] at HS
              obtain ⟨ll, hl⟩ : ∃ k, (outL g.es p).length = k := ⟨_, rfl⟩
              rw [hl] at hcl HS
              have HTB := Lib.hid hB
              have hpn : (p : Int) < (n : Int) := by omega
              clear hv hlc hcm hrow hll hB hl hgs
              cases B with
              | false =>
                have hfk : forkG g = false := by
                  unfold forkG
                  rw [List.all_eq_false]
                  exact ⟨p, List.mem_range.2 (by rw [HN.out.2.2.2.2.1]; exact hlt), by rw [HTB.out]; simp⟩
                have hf : frm g = false := by rw [frm_def, hfk]; simp
                obtain rfl : CK = 92 := HCK.out.symm.trans (chk_92 HN.out.1 hf)
                clear hf hfk
                go_upto_region 23 with fail
                go_still_tail 5, (by kernel_rfl)
                change wpList _ _ _ _ _ wr.drew
                go_wp2_with (first | (go_at_call 42; (with_reducible refine (HS.out _ (Below.refl wr.heap.size wr).drew).mono ?_); rintro q w6 ⟨rfl, hb6⟩; have HB6 := Lib.hid ((Below.refl wr.heap.size wr).drew.trans hb6); clear hb6) | fail)
                go_ret
                exact ⟨rfl, bel HZ.out.2.2.1 HB6.out⟩
              | true =>
                go_upto_region 23 with fail
                go_still_tail 5, (by kernel_rfl)
                change wpList _ _ _ _ _ wr.drew
                go_wp2_with (first | (go_at_call 42; (with_reducible refine (HS.out _ (Below.refl wr.heap.size wr).drew).mono ?_); rintro q w6 ⟨rfl, hb6⟩; have HB6 := Lib.hid ((Below.refl wr.heap.size wr).drew.trans hb6); clear hb6) | fail)
                go_roundw
                case rel => exact ⟨p + 1, by go_num, by omega, fun q hq => (Nat.lt_succ_iff_lt_or_eq.1 hq).elim (HZ.out.1 q) (fun h => h ▸ HTB.out), bel HZ.out.2.1 HB6.out⟩
                case measure => simp [intOf]; omega
            · obtain rfl : p = n := by omega
              have hfk : forkG g = true := by
                unfold forkG
                rw [List.all_eq_true]
                intro q hq
                exact HZ.out.1 q (by rw [HN.out.2.2.2.2.1] at hq; exact List.mem_range.1 hq)
              have hf : frm g = true := by rw [frm_def, hfk, HRI.out, HSZ.out, HM.out.1, decide_eq_true HM.out.2]; rfl
              obtain rfl : CK = 0 := HCK.out.symm.trans (chk_good HN.out.1 hf)
              clear hf hfk
              go_wp2_with fail
              go_ret
              exact ⟨rfl, HZ.out.2.2.1⟩
end Go.Proofs.YtjpopelbdhgidaaGreatDoor
