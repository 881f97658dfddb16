/-
  The statement's own walk: gnomonlaw9.CfgChecks answers true for every graph and point.
-/
import Derived.Test.YtjpopelbdhgidaaGreatDoorQGrArg
import Derived.Test.YtjpopelbdhgidaaGreatDoorQGrN
import Derived.Test.YtjpopelbdhgidaaGreatDoorQGsI
import Derived.Test.YtjpopelbdhgidaaGreatDoorQCfgV

namespace Go.Proofs.YtjpopelbdhgidaaGreatDoor
open Go Go.RowKit Go.Maps

section
variable {w w' : World} {g : Gf} {p F : Int} {e : Ending}
theorem out_bad (hF : chkG g = F) (hz : F ≠ 0) (h : OutTo w g p e w') : e = .returned (.tuple #[.slice none 0 0, .int .i64 F]) ∧ Below w.heap.size w w' := by
  obtain ⟨hb, h | h | h⟩ := h
  · exact absurd (hF.symm.trans h.1) hz
  · exact absurd (hF.symm.trans h.1) hz
  · rw [← hF]; exact ⟨h.2, hb⟩
theorem rch_bad (hF : chkG g = F) (hz : F ≠ 0) (h : RchTo w g e w') : e = .returned (.tuple #[.slice none 0 0, .int .i64 F]) ∧ Below w.heap.size w w' := by
  obtain ⟨hb, h | h⟩ := h
  · exact absurd (hF.symm.trans h.1) hz
  · rw [← hF]; exact ⟨h.2, hb⟩
theorem ord_bad (hF : chkG g = F) (hz : F ≠ 0) (h : OrdTo w g e w') : e = .returned (.tuple #[.slice none 0 0, .int .i64 F]) ∧ Below w.heap.size w w' := by
  obtain ⟨u, rfl, hb, -, h⟩ := h
  rw [h (by rw [hF]; exact hz), hF]
  exact ⟨rfl, hb⟩
theorem hds_bad (hF : chkG g = F) (hz : F ≠ 0) (h : HdsTo w g e w') : e = .returned (.tuple #[.slice none 0 0, .int .i64 F]) ∧ Below w.heap.size w w' := by
  obtain ⟨u, rfl, hb, -, h⟩ := h
  rw [h (by rw [hF]; exact hz), hF]
  exact ⟨rfl, hb⟩
theorem out_in (hF : chkG g = 0) (hp : amg p g.pts = true) (h : OutTo w g p e w') : ∃ a c, e = .returned (.tuple #[.slice a (outL g.es p.toNat).length c, .int .i64 0]) ∧ NumsAt w' (outL g.es p.toNat) a ∧ Below w.heap.size w w' := by
  obtain ⟨hb, h | h | h⟩ := h
  · obtain ⟨-, -, a, c, h1, -, -, h2⟩ := h
    exact ⟨a, c, h1, h2, hb⟩
  · rw [hp] at h; exact absurd h.2.1 (by simp)
  · exact absurd hF h.1
theorem out_off (hF : chkG g = 0) (hp : amg p g.pts = false) (h : OutTo w g p e w') : e = .returned (.tuple #[.slice none 0 0, .int .i64 92]) ∧ Below w.heap.size w w' := by
  obtain ⟨hb, h | h | h⟩ := h
  · rw [hp] at h; exact absurd h.2.1 (by simp)
  · exact ⟨h.2.2, hb⟩
  · exact absurd hF h.1
theorem rch_ok (hF : chkG g = 0) (h : RchTo w g e w') : ∃ B, e = .returned (.tuple #[.slice (some ⟨B, 0, none⟩) g.n g.n, .int .i64 0]) ∧ w'.rowIs B 4 g.n (boolsV (walkG g).bg) ∧ Below w.heap.size w w' := by
  obtain ⟨hb, h | h⟩ := h
  · obtain ⟨-, B, h1, -, h2⟩ := h
    exact ⟨B, h1, h2, hb⟩
  · exact absurd hF h.1
theorem ord_ok (hF : chkG g = 0) (h : OrdTo w g e w') : ∃ a c, e = .returned (.tuple #[.slice a (orderG g).length c, .int .i64 0]) ∧ NumsAt w' (orderG g) a ∧ Below w.heap.size w w' := by
  obtain ⟨u, rfl, hb, h, -⟩ := h
  obtain ⟨a, c, rfl, -, -, hn⟩ := NumsAt.own (h hF)
  rw [hF]
  exact ⟨a, c, rfl, hn, hb⟩
theorem hds_ok (hF : chkG g = 0) (h : HdsTo w g e w') : ∃ a c, e = .returned (.tuple #[.slice a (headsG g).length c, .int .i64 0]) ∧ NumsAt w' (headsG g) a ∧ Below w.heap.size w w' := by
  obtain ⟨u, rfl, hb, h, -⟩ := h
  obtain ⟨a, c, rfl, -, -, hn⟩ := NumsAt.own (h hF)
  rw [hF]
  exact ⟨a, c, rfl, hn, hb⟩
end
theorem rowBk {w w' : World} {B n : Nat} {t : TypeId} {f : Nat → Value} (h : w.rowIs B t n f) (hb : Below w.heap.size w w') : w'.rowIs B t n f := h.of_block (hb.block B h.lt)
theorem headsG_len (g : Gf) : (headsG g).length ≤ g.n := trueT_len _ _
theorem outL_len (es : List Ed) (p : Nat) : (outL es p).length ≤ es.length := outT_len es es.length p
set_option maxRecDepth 100000 in
set_option maxHeartbeats 16000000 in
theorem checks_law (g : Gf) (av aa ae : Option Addr) (cv ca ce : Nat) (p : Int) (w : World) (hg : GrIn w g (.slice av g.vs.length cv) (.slice aa g.ar.length ca) (.slice ae g.es.length ce)) (hz : GrZ g) (_ : (Lit.int .i64 p).wf = true) (htab : TabK w) (htf : TabF w) :
    Calls Tryz.prog 4 #[grS g av cv aa ca ae ce, .int .i64 p] w (fun e w' => e = .returned (.bool true) ∧ Below w.heap.size w w') := by
  obtain ⟨X, hX⟩ : ∃ X, w.heap.size = X := ⟨_, rfl⟩
  obtain ⟨W1, hW1⟩ : ∃ W1, w.alloc (.cells (grB g av cv aa ca ae ce) 30) = W1 := ⟨_, rfl⟩
  have hx1 : Blk W1 X (grB g av cv aa ca ae ce) 30 := by rw [← hW1, ← hX]; exact Blk.new w _ _
  have hb1 : Below w.heap.size w W1 := by rw [← hW1]; exact (Below.refl _ w).alloc (Nat.le_refl _) _
  obtain ⟨F, hF⟩ : ∃ F, chkG g = F := ⟨_, rfl⟩
  have HKN := Lib.hid (known9_any W1 (tab_below htab hb1))
  have HTF := Lib.hid htf
  have HGI := Lib.hid hg
  have HNV := Lib.hid (show g.vs.length ≤ 9223372036854775807 from hg.nv)
  have hsc := fun W (hb : Below w.heap.size w W) => scheck_any g av aa ae cv ca ce W (hg.next hb)
  simp only [hF] at hsc
  have HSC := Lib.hid hsc
  have HCP := Lib.hid (fun W (hb : Below w.heap.size w W) => copycfg_any g av aa ae cv ca ce W (hg.next hb) hz.v hz.a hz.e)
  have HFF := Lib.hid hF
  have H1 := Lib.hid (And.intro hx1 hb1)
  have HE := Lib.hid (And.intro hW1 hX)
  clear hx1 hb1 hW1 hX hg hz htab htf hsc hF
  by_cases hz : F = 0
  · subst hz
    obtain ⟨q0, qf⟩ := chk_zero HFF.out
    obtain ⟨q1, q2, q3, q4, q5⟩ := out_zero q0
    obtain ⟨n, hn⟩ : ∃ n : Nat, g.pts = n := ⟨g.pts.toNat, by omega⟩
    have hgn : g.n = n := by unfold Gf.n; omega
    have hfr := right_fr (frm_right qf)
    have hto := right_to (frm_right qf)
    have hol := orderG_len g (by omega)
    have hhl := headsG_len g
    rw [hgn] at hol hhl
    have HS := Lib.hid (And.intro (show g.es.length ≤ 8192 by omega) (And.intro hol (And.intro hhl (And.intro hgn (And.intro hn (show n ≤ 4096 by omega))))))
    have HSR := Lib.hid (fun W (hb : Below w.heap.size w W) => sreached_any g av aa ae cv ca ce n hn (by omega) (by omega) (by omega) W (HGI.out.next hb).es hfr hto)
    have HSO := Lib.hid (fun W (hb : Below w.heap.size w W) => sorder_any g av aa ae cv ca ce n hn (by omega) (by omega) (by omega) W (HGI.out.next hb).es hfr hto)
    have HSH := Lib.hid (fun W (hb : Below w.heap.size w W) => sheads_any g av aa ae cv ca ce n hn (by omega) (by omega) (by omega) W (HGI.out.next hb).es hfr hto)
    clear q0 qf q1 q2 q3 q4 q5 hfr hto hol hhl hgn hn
    obtain ⟨PB, hPB⟩ : ∃ b, amg p g.pts = b := ⟨_, rfl⟩
    have HP := Lib.hid hPB
    clear hPB
    cases PB with
    | true =>
      go_enter Tryz.func4, Tryz.ntmps4
      go_upto_region 1 with fail
      rw [HE.out.1, HE.out.2]
      go_upto_region 3 with (first | (go_at_call 6; (with_reducible refine HKN.out.mono ?_); rintro e w2 ⟨rfl, hb2⟩; have H2 := Lib.hid (And.intro (H1.out.1.next hb2) (bel H1.out.2 hb2)); have xc := (H1.out.1.next hb2).cell; clear hb2) | fail)
      have HSC2 := Lib.hid (HSC.out w2 H2.out.2)
      go_upto_region 4 with (first | (go_at_call 10; (with_reducible refine HSC2.out.mono ?_); rintro e w3 ⟨rfl, hb3⟩; have H3 := Lib.hid (And.intro (H2.out.1.next hb3) (bel H2.out.2 hb3)); clear xc; have xc := (H2.out.1.next hb3).cell; clear hb3) | fail)
      have HCP3 := Lib.hid (HCP.out w3 H3.out.2)
      go_upto_region 5 with (first | (go_at_call 11; (with_reducible refine HCP3.out.mono ?_); rintro e w4 ⟨bv, dv, ba, da, be, de, rfl, hgl, hb4⟩; have H4 := Lib.hid (And.intro (H3.out.1.next hb4) (And.intro (bel H3.out.2 hb4) hgl)); clear xc hb4 hgl) | fail)
      obtain ⟨L, hL⟩ : ∃ L, w4.heap.size = L := ⟨_, rfl⟩
      obtain ⟨W5, hW5⟩ : ∃ W, w4.alloc (.cells (grB g bv dv ba da be de) 30) = W := ⟨_, rfl⟩
      have hl5 : Blk W5 L (grB g bv dv ba da be de) 30 := by rw [← hW5, ← hL]; exact Blk.new w4 _ _
      have hb45 : Below w4.heap.size w4 W5 := by rw [← hW5]; exact (Below.refl _ w4).alloc (Nat.le_refl _) _
      have H5 := Lib.hid (And.intro (H4.out.1.next hb45) (And.intro (bel H4.out.2.1 hb45) (And.intro (H4.out.2.2.next hb45) hl5)))
      have lc := hl5.cell
      rw [hW5, hL]
      clear hl5 hb45 hW5 hL
      have HT := Lib.hid (fun W (hb : Below w.heap.size w W) => HTF.out.next hb)
      have HO := Lib.hid (gout_any g p bv ba be dv da de W5 H5.out.2.2.1 HNV.out (HT.out _ H5.out.2.1))
      go_upto_region 6 with (first | (go_at_call 12; (with_reducible refine HO.out.mono ?_); rintro e w6 ho; obtain ⟨o6, c6, rfl, hn6, hb6⟩ := out_in HFF.out HP.out ho; have HN6 := Lib.hid hn6; clear hn6; have H6 := Lib.hid (And.intro (H5.out.1.next hb6) (And.intro (bel H5.out.2.1 hb6) (And.intro (H5.out.2.2.1.next hb6) (H5.out.2.2.2.next hb6)))); clear lc; have lc := (H5.out.2.2.2.next hb6).cell; clear hb6 ho) | fail)
      have HR := Lib.hid (reached_any g bv ba be dv da de w6 H6.out.2.2.1 HNV.out (HT.out _ H6.out.2.1))
      go_upto_region 7 with (first | (go_at_call 13; (with_reducible refine HR.out.mono ?_); rintro e w7 ho; obtain ⟨RB, rfl, hrow, hb7⟩ := rch_ok HFF.out ho; rw [HS.out.2.2.2.1] at hrow ⊢; have HROW := Lib.hid hrow; clear hrow; have H7 := Lib.hid (And.intro (H6.out.1.next hb7) (And.intro (bel H6.out.2.1 hb7) (And.intro (H6.out.2.2.1.next hb7) (And.intro (H6.out.2.2.2.next hb7) hb7)))); clear lc; have lc := (H6.out.2.2.2.next hb7).cell; clear hb7 ho) | fail)
      have HD := Lib.hid (gheads_any g bv ba be dv da de w7 H7.out.2.2.1 HNV.out (HT.out _ H7.out.2.1))
      go_upto_region 8 with (first | (go_at_call 14; (with_reducible refine HD.out.mono ?_); rintro e w8 ho; obtain ⟨ha, hc, rfl, hn8, hb8⟩ := hds_ok HFF.out ho; have HN8 := Lib.hid hn8; clear hn8; have H8 := Lib.hid (And.intro (H7.out.1.next hb8) (And.intro (bel H7.out.2.1 hb8) (And.intro (H7.out.2.2.1.next hb8) (And.intro (H7.out.2.2.2.1.next hb8) hb8)))); clear lc; have lc := (H7.out.2.2.2.1.next hb8).cell; clear hb8 ho) | fail)
      have HQ := Lib.hid (order_any g bv ba be dv da de w8 H8.out.2.2.1 HNV.out (HT.out _ H8.out.2.1))
      go_upto_region 9 with (first | (go_at_call 15; (with_reducible refine HQ.out.mono ?_); rintro e w9 ho; obtain ⟨oa, oc, rfl, hn9, hb9⟩ := ord_ok HFF.out ho; have HN9 := Lib.hid hn9; clear hn9; have H9 := Lib.hid (And.intro (H8.out.1.next hb9) (And.intro (bel H8.out.2.1 hb9) (And.intro (H8.out.2.2.1.next hb9) (And.intro (H8.out.2.2.2.1.next hb9) hb9)))); clear lc; have lc := (H8.out.2.2.2.1.next hb9).cell; clear hb9 ho) | fail)
      have hck := check_any g bv ba be dv da de w9 H9.out.2.2.1 HNV.out (HT.out _ H9.out.2.1)
      rw [HFF.out] at hck
      have HC9 := Lib.hid hck
      clear hck
      have tR := HS.out.2.2.2.2.1
      have hpp := amg_true HP.out
      obtain ⟨pn, rfl⟩ : ∃ m : Nat, p = m := ⟨p.toNat, by omega⟩
      rw [Int.toNat_natCast] at HN6 ⊢
      have t1 : decide ((pn : Int) < 0) = false := by simp
      have t2 : decide (g.pts ≤ (pn : Int)) = false := by simp; omega
      clear hpp tR
      have HSU := Lib.hid (fun W (hb : Below w.heap.size w W) => sout_any g pn av aa ae cv ca ce W (HGI.out.next hb).es HS.out.1)
      go_upto_region 18 with (first | (go_at_call 16; (with_reducible refine HC9.out.mono ?_); rintro e w10 ⟨rfl, hb10⟩; have H10 := Lib.hid (And.intro (H9.out.1.next hb10) (And.intro (bel H9.out.2.1 hb10) (And.intro (H9.out.2.2.1.next hb10) (And.intro (H9.out.2.2.2.1.next hb10) hb10)))); clear lc; have lc := (H9.out.2.2.2.1.next hb10).cell; have xc := (H9.out.1.next hb10).cell; have HG10 := Lib.hid (gcfg_any g bv ba be av aa ae dv da de cv ca ce w10 (H9.out.2.2.1.next hb10) (HGI.out.next (bel H9.out.2.1 hb10))); clear hb10) | (go_at_call 9; (with_reducible refine HG10.out.mono ?_); rintro e w11 ⟨rfl, hb11⟩; have H11 := Lib.hid (And.intro (H10.out.1.next hb11) (And.intro (bel H10.out.2.1 hb11) hb11)); clear lc xc; have xc := (H10.out.1.next hb11).cell; clear hb11) | (go_at_call 18; (with_reducible refine (HSU.out _ H11.out.2.1).mono ?_); rintro e w12 ⟨u, rfl, hu, hb12⟩; obtain ⟨ua, uc, rfl, -, -, hun⟩ := NumsAt.own hu; have HI12 := Lib.hid (ints_any (outL g.es pn) (by have := outL_len g.es pn; have := HS.out.1; omega) o6 ua c6 uc w12 ((((((HN6.out.keep (keeps_below H7.out.2.2.2.2)).keep (keeps_below H8.out.2.2.2.2)).keep (keeps_below H9.out.2.2.2.2)).keep (keeps_below H10.out.2.2.2.2)).keep (keeps_below H11.out.2.2)).keep (keeps_below hb12)) hun); have H12 := Lib.hid (And.intro (H11.out.1.next hb12) (And.intro (bel H11.out.2.1 hb12) hb12)); clear xc; have xc := (H11.out.1.next hb12).cell; clear hb12 hu hun) | (go_at_call 17; (with_reducible refine HI12.out.mono ?_); rintro e w13 ⟨rfl, hb13⟩; have H13 := Lib.hid (And.intro (H12.out.1.next hb13) (And.intro (bel H12.out.2.1 hb13) (H12.out.2.2.trans (hb13.mono H12.out.2.2.size)))); clear xc; have xc := (H12.out.1.next hb13).cell; clear hb13) | fail)
      clear t1 t2
      have H13' := Lib.hid (HSR.out w13 H13.out.2.1)
      go_upto_region 19 with (first | (go_at_call 19; (with_reducible refine H13'.out.mono ?_); rintro e w14 ⟨SB, rfl, -, hrow, hb14⟩; have HSB := Lib.hid hrow; have H14 := Lib.hid (And.intro (H13.out.1.next hb14) (And.intro (bel H13.out.2.1 hb14) (H13.out.2.2.trans (hb14.mono H13.out.2.2.size)))); clear xc hb14 hrow) | fail)
      have hR14 : w14.rowIs RB 4 n (boolsV (walkG g).bg) := (rowBk (rowBk (rowBk (rowBk (rowBk HROW.out H8.out.2.2.2.2) H9.out.2.2.2.2) H10.out.2.2.2.2) H11.out.2.2) H14.out.2.2)
      have KP14 : Keeps w9 w14 := (fun b o u h => keeps_below H14.out.2.2 _ _ _ (keeps_below H11.out.2.2 _ _ _ (keeps_below H10.out.2.2.2.2 _ _ _ h)))
      have HRS := Lib.hid (And.intro hR14 HSB.out)
      clear hR14
      go_wp2_with fail
      go_loopw [16] (fun x wr => ∃ i : Nat, x = .int .i64 i ∧ i ≤ n ∧ Below w14.heap.size w14 wr) (fun x _ => n - (intOf x).toNat)
      case atStart => exact ⟨0, rfl, by omega, Below.refl _ _⟩
      case round =>
        obtain ⟨i, rfl, hi, hbr⟩ := hrel
        by_cases hlt : i < n
        · have hbi : (i : Int) + 1 ≤ 9223372036854775807 := by have := HS.out.2.2.2.2.2; omega
          have m0 := keeps_below hbr _ _ _ (HRS.out.1.cell hlt)
          have n0 := keeps_below hbr _ _ _ (HRS.out.2.cell hlt)
          obtain ⟨BV, hBV⟩ : ∃ b, boolsV (walkG g).bg i = .bool b := ⟨_, rfl⟩
          rw [hBV] at m0 n0
          clear hBV
          have HBR := Lib.hid hbr; clear hbr
          go_upto_region 24 with fail
          go_cut [140] (fun s wx => s = .bool false ∧ Below w14.heap.size w14 wx)
          case first =>
            go_region
            go_wp2_with fail
            go_meet
            exact ⟨by simp, HBR.out.drew⟩
          case rest =>
            obtain ⟨rfl, hb⟩ := hcut
            clear m0 n0 HBR
            go_wp2_with fail
            go_roundw
            case rel => exact ⟨i + 1, by go_num, by omega, hb⟩
            case measure => simp [intOf]; omega
        · obtain rfl : i = n := by omega
          have hbw : Below w.heap.size w wr := bel H14.out.2.1 hbr
          have xc := (H14.out.1.next hbr).cell
          have HSHr := Lib.hid (HSH.out wr hbw)
          have K9 : Keeps w9 wr := fun b o u h => keeps_below hbr _ _ _ (KP14 b o u h)
          have HK9 := Lib.hid K9
          have HBW := Lib.hid (And.intro (H14.out.1.next hbr) hbw)
          clear K9 hbw hbr hlt
          go_wp2_with (first | (go_at_call 20; (with_reducible refine HSHr.out.mono ?_); rintro e w15 ⟨u, rfl, hu, hb15⟩; obtain ⟨ua, uc, rfl, -, -, hun⟩ := NumsAt.own hu; have HI15 := Lib.hid (ints_any (headsG g) (by have := HS.out.2.2.1; have := HS.out.2.2.2.2.2; omega) ha ua hc uc w15 (((HN8.out.keep (keeps_below H9.out.2.2.2.2)).keep HK9.out).keep (keeps_below hb15)) hun); have H15 := Lib.hid (And.intro (HBW.out.1.next hb15) (And.intro (bel HBW.out.2 hb15) hb15)); clear xc; have xc := (HBW.out.1.next hb15).cell; clear hb15 hu hun) | (go_at_call 17; first | ((with_reducible refine HI15.out.mono ?_); rintro e w16 ⟨rfl, hb16⟩; have H16 := Lib.hid (And.intro (H15.out.1.next hb16) (And.intro (bel H15.out.2.1 hb16) (H15.out.2.2.trans (hb16.mono H15.out.2.2.size)))); have HSO16 := Lib.hid (HSO.out w16 (bel H15.out.2.1 hb16)); clear xc; have xc := (H15.out.1.next hb16).cell; clear hb16) | ((with_reducible refine HI17.out.mono ?_); rintro e w18 ⟨rfl, hb18⟩; have H18 := Lib.hid (bel H17.out hb18); clear hb18)) | (go_at_call 21; (with_reducible refine HSO16.out.mono ?_); rintro e w17 ⟨u, rfl, hu, hb17⟩; obtain ⟨ua2, uc2, rfl, -, -, hun⟩ := NumsAt.own hu; have HI17 := Lib.hid (ints_any (orderG g) (by have := HS.out.2.1; have := HS.out.2.2.2.2.2; omega) oa ua2 oc uc2 w17 (((HN9.out.keep HK9.out).keep (keeps_below H16.out.2.2)).keep (keeps_below hb17)) hun); have H17 := Lib.hid (bel H16.out.2.1 hb17); clear xc hb17 hu hun) | fail)
          go_ret
          exact ⟨rfl, H18.out⟩

    | false =>
      go_enter Tryz.func4, Tryz.ntmps4
      go_upto_region 1 with fail
      rw [HE.out.1, HE.out.2]
      go_upto_region 3 with (first | (go_at_call 6; (with_reducible refine HKN.out.mono ?_); rintro e w2 ⟨rfl, hb2⟩; have H2 := Lib.hid (And.intro (H1.out.1.next hb2) (bel H1.out.2 hb2)); have xc := (H1.out.1.next hb2).cell; clear hb2) | fail)
      have HSC2 := Lib.hid (HSC.out w2 H2.out.2)
      go_upto_region 4 with (first | (go_at_call 10; (with_reducible refine HSC2.out.mono ?_); rintro e w3 ⟨rfl, hb3⟩; have H3 := Lib.hid (And.intro (H2.out.1.next hb3) (bel H2.out.2 hb3)); clear xc; have xc := (H2.out.1.next hb3).cell; clear hb3) | fail)
      have HCP3 := Lib.hid (HCP.out w3 H3.out.2)
      go_upto_region 5 with (first | (go_at_call 11; (with_reducible refine HCP3.out.mono ?_); rintro e w4 ⟨bv, dv, ba, da, be, de, rfl, hgl, hb4⟩; have H4 := Lib.hid (And.intro (H3.out.1.next hb4) (And.intro (bel H3.out.2 hb4) hgl)); clear xc hb4 hgl) | fail)
      obtain ⟨L, hL⟩ : ∃ L, w4.heap.size = L := ⟨_, rfl⟩
      obtain ⟨W5, hW5⟩ : ∃ W, w4.alloc (.cells (grB g bv dv ba da be de) 30) = W := ⟨_, rfl⟩
      have hl5 : Blk W5 L (grB g bv dv ba da be de) 30 := by rw [← hW5, ← hL]; exact Blk.new w4 _ _
      have hb45 : Below w4.heap.size w4 W5 := by rw [← hW5]; exact (Below.refl _ w4).alloc (Nat.le_refl _) _
      have H5 := Lib.hid (And.intro (H4.out.1.next hb45) (And.intro (bel H4.out.2.1 hb45) (And.intro (H4.out.2.2.next hb45) hl5)))
      have lc := hl5.cell
      rw [hW5, hL]
      clear hl5 hb45 hW5 hL
      have HT := Lib.hid (fun W (hb : Below w.heap.size w W) => HTF.out.next hb)
      have HO := Lib.hid (gout_any g p bv ba be dv da de W5 H5.out.2.2.1 HNV.out (HT.out _ H5.out.2.1))
      go_upto_region 6 with (first | (go_at_call 12; (with_reducible refine HO.out.mono ?_); rintro e w6 ho; obtain ⟨rfl, hb6⟩ := out_off HFF.out HP.out ho; have H6 := Lib.hid (And.intro (H5.out.1.next hb6) (And.intro (bel H5.out.2.1 hb6) (And.intro (H5.out.2.2.1.next hb6) (H5.out.2.2.2.next hb6)))); clear lc; have lc := (H5.out.2.2.2.next hb6).cell; clear hb6 ho) | fail)
      have HR := Lib.hid (reached_any g bv ba be dv da de w6 H6.out.2.2.1 HNV.out (HT.out _ H6.out.2.1))
      go_upto_region 7 with (first | (go_at_call 13; (with_reducible refine HR.out.mono ?_); rintro e w7 ho; obtain ⟨RB, rfl, hrow, hb7⟩ := rch_ok HFF.out ho; rw [HS.out.2.2.2.1] at hrow ⊢; have HROW := Lib.hid hrow; clear hrow; have H7 := Lib.hid (And.intro (H6.out.1.next hb7) (And.intro (bel H6.out.2.1 hb7) (And.intro (H6.out.2.2.1.next hb7) (And.intro (H6.out.2.2.2.next hb7) hb7)))); clear lc; have lc := (H6.out.2.2.2.next hb7).cell; clear hb7 ho) | fail)
      have HD := Lib.hid (gheads_any g bv ba be dv da de w7 H7.out.2.2.1 HNV.out (HT.out _ H7.out.2.1))
      go_upto_region 8 with (first | (go_at_call 14; (with_reducible refine HD.out.mono ?_); rintro e w8 ho; obtain ⟨ha, hc, rfl, hn8, hb8⟩ := hds_ok HFF.out ho; have HN8 := Lib.hid hn8; clear hn8; have H8 := Lib.hid (And.intro (H7.out.1.next hb8) (And.intro (bel H7.out.2.1 hb8) (And.intro (H7.out.2.2.1.next hb8) (And.intro (H7.out.2.2.2.1.next hb8) hb8)))); clear lc; have lc := (H7.out.2.2.2.1.next hb8).cell; clear hb8 ho) | fail)
      have HQ := Lib.hid (order_any g bv ba be dv da de w8 H8.out.2.2.1 HNV.out (HT.out _ H8.out.2.1))
      go_upto_region 9 with (first | (go_at_call 15; (with_reducible refine HQ.out.mono ?_); rintro e w9 ho; obtain ⟨oa, oc, rfl, hn9, hb9⟩ := ord_ok HFF.out ho; have HN9 := Lib.hid hn9; clear hn9; have H9 := Lib.hid (And.intro (H8.out.1.next hb9) (And.intro (bel H8.out.2.1 hb9) (And.intro (H8.out.2.2.1.next hb9) (And.intro (H8.out.2.2.2.1.next hb9) hb9)))); clear lc; have lc := (H8.out.2.2.2.1.next hb9).cell; clear hb9 ho) | fail)
      have hck := check_any g bv ba be dv da de w9 H9.out.2.2.1 HNV.out (HT.out _ H9.out.2.1)
      rw [HFF.out] at hck
      have HC9 := Lib.hid hck
      clear hck
      have hpp : p < 0 ∨ g.pts ≤ p := by
        have h := HP.out
        unfold amg at h
        simp only [Bool.and_eq_false_iff, decide_eq_false_iff_not] at h
        omega
      obtain ⟨T, hT⟩ : ∃ b, decide (p < 0) = b := ⟨_, rfl⟩
      have hT2 : T = false → decide (g.pts ≤ p) = true := by intro h; rw [h] at hT; simp at hT ⊢; omega
      clear hpp
      cases T with
      | true => 
        clear hT2
        go_upto_region 18 with (first | (go_at_call 16; (with_reducible refine HC9.out.mono ?_); rintro e w10 ⟨rfl, hb10⟩; have H10 := Lib.hid (And.intro (H9.out.1.next hb10) (And.intro (bel H9.out.2.1 hb10) (And.intro (H9.out.2.2.1.next hb10) (And.intro (H9.out.2.2.2.1.next hb10) hb10)))); clear lc; have lc := (H9.out.2.2.2.1.next hb10).cell; have xc := (H9.out.1.next hb10).cell; have HG10 := Lib.hid (gcfg_any g bv ba be av aa ae dv da de cv ca ce w10 (H9.out.2.2.1.next hb10) (HGI.out.next (bel H9.out.2.1 hb10))); clear hb10) | (go_at_call 9; (with_reducible refine HG10.out.mono ?_); rintro e w11 ⟨rfl, hb11⟩; have H11 := Lib.hid (And.intro (H10.out.1.next hb11) (And.intro (bel H10.out.2.1 hb11) hb11)); clear lc xc; have xc := (H10.out.1.next hb11).cell; clear hb11) | fail)
        clear hT
        have H13 := Lib.hid H11.out
        have H13' := Lib.hid (HSR.out w11 H11.out.2.1)
        go_upto_region 19 with (first | (go_at_call 19; (with_reducible refine H13'.out.mono ?_); rintro e w14 ⟨SB, rfl, -, hrow, hb14⟩; have HSB := Lib.hid hrow; have H14 := Lib.hid (And.intro (H13.out.1.next hb14) (And.intro (bel H13.out.2.1 hb14) hb14)); clear xc hb14 hrow) | fail)
        have hR14 : w14.rowIs RB 4 n (boolsV (walkG g).bg) := (rowBk (rowBk (rowBk (rowBk (rowBk HROW.out H8.out.2.2.2.2) H9.out.2.2.2.2) H10.out.2.2.2.2) H11.out.2.2) H14.out.2.2)
        have KP14 : Keeps w9 w14 := (fun b o u h => keeps_below H14.out.2.2 _ _ _ (keeps_below H11.out.2.2 _ _ _ (keeps_below H10.out.2.2.2.2 _ _ _ h)))
        have HRS := Lib.hid (And.intro hR14 HSB.out)
        clear hR14
        go_wp2_with fail
        go_loopw [16] (fun x wr => ∃ i : Nat, x = .int .i64 i ∧ i ≤ n ∧ Below w14.heap.size w14 wr) (fun x _ => n - (intOf x).toNat)
        case atStart => exact ⟨0, rfl, by omega, Below.refl _ _⟩
        case round =>
          obtain ⟨i, rfl, hi, hbr⟩ := hrel
          by_cases hlt : i < n
          · have hbi : (i : Int) + 1 ≤ 9223372036854775807 := by have := HS.out.2.2.2.2.2; omega
            have m0 := keeps_below hbr _ _ _ (HRS.out.1.cell hlt)
            have n0 := keeps_below hbr _ _ _ (HRS.out.2.cell hlt)
            obtain ⟨BV, hBV⟩ : ∃ b, boolsV (walkG g).bg i = .bool b := ⟨_, rfl⟩
            rw [hBV] at m0 n0
            clear hBV
            have HBR := Lib.hid hbr; clear hbr
            go_upto_region 24 with fail
            go_cut [140] (fun s wx => s = .bool false ∧ Below w14.heap.size w14 wx)
            case first =>
              go_region
              go_wp2_with fail
              go_meet
              exact ⟨by simp, HBR.out.drew⟩
            case rest =>
              obtain ⟨rfl, hb⟩ := hcut
              clear m0 n0 HBR
              go_wp2_with fail
              go_roundw
              case rel => exact ⟨i + 1, by go_num, by omega, hb⟩
              case measure => simp [intOf]; omega
          · obtain rfl : i = n := by omega
            have hbw : Below w.heap.size w wr := bel H14.out.2.1 hbr
            have xc := (H14.out.1.next hbr).cell
            have HSHr := Lib.hid (HSH.out wr hbw)
            have K9 : Keeps w9 wr := fun b o u h => keeps_below hbr _ _ _ (KP14 b o u h)
            have HK9 := Lib.hid K9
            have HBW := Lib.hid (And.intro (H14.out.1.next hbr) hbw)
            clear K9 hbw hbr hlt
            go_wp2_with (first | (go_at_call 20; (with_reducible refine HSHr.out.mono ?_); rintro e w15 ⟨u, rfl, hu, hb15⟩; obtain ⟨ua, uc, rfl, -, -, hun⟩ := NumsAt.own hu; have HI15 := Lib.hid (ints_any (headsG g) (by have := HS.out.2.2.1; have := HS.out.2.2.2.2.2; omega) ha ua hc uc w15 (((HN8.out.keep (keeps_below H9.out.2.2.2.2)).keep HK9.out).keep (keeps_below hb15)) hun); have H15 := Lib.hid (And.intro (HBW.out.1.next hb15) (And.intro (bel HBW.out.2 hb15) hb15)); clear xc; have xc := (HBW.out.1.next hb15).cell; clear hb15 hu hun) | (go_at_call 17; first | ((with_reducible refine HI15.out.mono ?_); rintro e w16 ⟨rfl, hb16⟩; have H16 := Lib.hid (And.intro (H15.out.1.next hb16) (And.intro (bel H15.out.2.1 hb16) (H15.out.2.2.trans (hb16.mono H15.out.2.2.size)))); have HSO16 := Lib.hid (HSO.out w16 (bel H15.out.2.1 hb16)); clear xc; have xc := (H15.out.1.next hb16).cell; clear hb16) | ((with_reducible refine HI17.out.mono ?_); rintro e w18 ⟨rfl, hb18⟩; have H18 := Lib.hid (bel H17.out hb18); clear hb18)) | (go_at_call 21; (with_reducible refine HSO16.out.mono ?_); rintro e w17 ⟨u, rfl, hu, hb17⟩; obtain ⟨ua2, uc2, rfl, -, -, hun⟩ := NumsAt.own hu; have HI17 := Lib.hid (ints_any (orderG g) (by have := HS.out.2.1; have := HS.out.2.2.2.2.2; omega) oa ua2 oc uc2 w17 (((HN9.out.keep HK9.out).keep (keeps_below H16.out.2.2)).keep (keeps_below hb17)) hun); have H17 := Lib.hid (bel H16.out.2.1 hb17); clear xc hb17 hu hun) | fail)
            go_ret
            exact ⟨rfl, H18.out⟩

      | false => 
        have hT3 := hT2 rfl
        clear hT2
        go_upto_region 18 with (first | (go_at_call 16; (with_reducible refine HC9.out.mono ?_); rintro e w10 ⟨rfl, hb10⟩; have H10 := Lib.hid (And.intro (H9.out.1.next hb10) (And.intro (bel H9.out.2.1 hb10) (And.intro (H9.out.2.2.1.next hb10) (And.intro (H9.out.2.2.2.1.next hb10) hb10)))); clear lc; have lc := (H9.out.2.2.2.1.next hb10).cell; have xc := (H9.out.1.next hb10).cell; have HG10 := Lib.hid (gcfg_any g bv ba be av aa ae dv da de cv ca ce w10 (H9.out.2.2.1.next hb10) (HGI.out.next (bel H9.out.2.1 hb10))); clear hb10) | (go_at_call 9; (with_reducible refine HG10.out.mono ?_); rintro e w11 ⟨rfl, hb11⟩; have H11 := Lib.hid (And.intro (H10.out.1.next hb11) (And.intro (bel H10.out.2.1 hb11) hb11)); clear lc xc; have xc := (H10.out.1.next hb11).cell; clear hb11) | fail)
        clear hT hT3
        have H13 := Lib.hid H11.out
        have H13' := Lib.hid (HSR.out w11 H11.out.2.1)
        go_upto_region 19 with (first | (go_at_call 19; (with_reducible refine H13'.out.mono ?_); rintro e w14 ⟨SB, rfl, -, hrow, hb14⟩; have HSB := Lib.hid hrow; have H14 := Lib.hid (And.intro (H13.out.1.next hb14) (And.intro (bel H13.out.2.1 hb14) hb14)); clear xc hb14 hrow) | fail)
        have hR14 : w14.rowIs RB 4 n (boolsV (walkG g).bg) := (rowBk (rowBk (rowBk (rowBk (rowBk HROW.out H8.out.2.2.2.2) H9.out.2.2.2.2) H10.out.2.2.2.2) H11.out.2.2) H14.out.2.2)
        have KP14 : Keeps w9 w14 := (fun b o u h => keeps_below H14.out.2.2 _ _ _ (keeps_below H11.out.2.2 _ _ _ (keeps_below H10.out.2.2.2.2 _ _ _ h)))
        have HRS := Lib.hid (And.intro hR14 HSB.out)
        clear hR14
        go_wp2_with fail
        go_loopw [16] (fun x wr => ∃ i : Nat, x = .int .i64 i ∧ i ≤ n ∧ Below w14.heap.size w14 wr) (fun x _ => n - (intOf x).toNat)
        case atStart => exact ⟨0, rfl, by omega, Below.refl _ _⟩
        case round =>
          obtain ⟨i, rfl, hi, hbr⟩ := hrel
          by_cases hlt : i < n
          · have hbi : (i : Int) + 1 ≤ 9223372036854775807 := by have := HS.out.2.2.2.2.2; omega
            have m0 := keeps_below hbr _ _ _ (HRS.out.1.cell hlt)
            have n0 := keeps_below hbr _ _ _ (HRS.out.2.cell hlt)
            obtain ⟨BV, hBV⟩ : ∃ b, boolsV (walkG g).bg i = .bool b := ⟨_, rfl⟩
            rw [hBV] at m0 n0
            clear hBV
            have HBR := Lib.hid hbr; clear hbr
            go_upto_region 24 with fail
            go_cut [140] (fun s wx => s = .bool false ∧ Below w14.heap.size w14 wx)
            case first =>
              go_region
              go_wp2_with fail
              go_meet
              exact ⟨by simp, HBR.out.drew⟩
            case rest =>
              obtain ⟨rfl, hb⟩ := hcut
              clear m0 n0 HBR
              go_wp2_with fail
              go_roundw
              case rel => exact ⟨i + 1, by go_num, by omega, hb⟩
              case measure => simp [intOf]; omega
          · obtain rfl : i = n := by omega
            have hbw : Below w.heap.size w wr := bel H14.out.2.1 hbr
            have xc := (H14.out.1.next hbr).cell
            have HSHr := Lib.hid (HSH.out wr hbw)
            have K9 : Keeps w9 wr := fun b o u h => keeps_below hbr _ _ _ (KP14 b o u h)
            have HK9 := Lib.hid K9
            have HBW := Lib.hid (And.intro (H14.out.1.next hbr) hbw)
            clear K9 hbw hbr hlt
            go_wp2_with (first | (go_at_call 20; (with_reducible refine HSHr.out.mono ?_); rintro e w15 ⟨u, rfl, hu, hb15⟩; obtain ⟨ua, uc, rfl, -, -, hun⟩ := NumsAt.own hu; have HI15 := Lib.hid (ints_any (headsG g) (by have := HS.out.2.2.1; have := HS.out.2.2.2.2.2; omega) ha ua hc uc w15 (((HN8.out.keep (keeps_below H9.out.2.2.2.2)).keep HK9.out).keep (keeps_below hb15)) hun); have H15 := Lib.hid (And.intro (HBW.out.1.next hb15) (And.intro (bel HBW.out.2 hb15) hb15)); clear xc; have xc := (HBW.out.1.next hb15).cell; clear hb15 hu hun) | (go_at_call 17; first | ((with_reducible refine HI15.out.mono ?_); rintro e w16 ⟨rfl, hb16⟩; have H16 := Lib.hid (And.intro (H15.out.1.next hb16) (And.intro (bel H15.out.2.1 hb16) (H15.out.2.2.trans (hb16.mono H15.out.2.2.size)))); have HSO16 := Lib.hid (HSO.out w16 (bel H15.out.2.1 hb16)); clear xc; have xc := (H15.out.1.next hb16).cell; clear hb16) | ((with_reducible refine HI17.out.mono ?_); rintro e w18 ⟨rfl, hb18⟩; have H18 := Lib.hid (bel H17.out hb18); clear hb18)) | (go_at_call 21; (with_reducible refine HSO16.out.mono ?_); rintro e w17 ⟨u, rfl, hu, hb17⟩; obtain ⟨ua2, uc2, rfl, -, -, hun⟩ := NumsAt.own hu; have HI17 := Lib.hid (ints_any (orderG g) (by have := HS.out.2.1; have := HS.out.2.2.2.2.2; omega) oa ua2 oc uc2 w17 (((HN9.out.keep HK9.out).keep (keeps_below H16.out.2.2)).keep (keeps_below hb17)) hun); have H17 := Lib.hid (bel H16.out.2.1 hb17); clear xc hb17 hu hun) | fail)
            go_ret
            exact ⟨rfl, H18.out⟩


  · have HZ := Lib.hid hz
    have t0 : (F != 0) = true := by simpa using hz
    have tF : (F == F) = true := by simp
    clear hz
    go_enter Tryz.func4, Tryz.ntmps4
    go_upto_region 1 with fail
    rw [HE.out.1, HE.out.2]
    go_upto_region 3 with (first | (go_at_call 6; (with_reducible refine HKN.out.mono ?_); rintro e w2 ⟨rfl, hb2⟩; have H2 := Lib.hid (And.intro (H1.out.1.next hb2) (bel H1.out.2 hb2)); have xc := (H1.out.1.next hb2).cell; clear hb2) | fail)
    have HSC2 := Lib.hid (HSC.out w2 H2.out.2)
    go_upto_region 4 with (first | (go_at_call 10; (with_reducible refine HSC2.out.mono ?_); rintro e w3 ⟨rfl, hb3⟩; have H3 := Lib.hid (And.intro (H2.out.1.next hb3) (bel H2.out.2 hb3)); clear xc; have xc := (H2.out.1.next hb3).cell; clear hb3) | fail)
    have HCP3 := Lib.hid (HCP.out w3 H3.out.2)
    go_upto_region 5 with (first | (go_at_call 11; (with_reducible refine HCP3.out.mono ?_); rintro e w4 ⟨bv, dv, ba, da, be, de, rfl, hgl, hb4⟩; have H4 := Lib.hid (And.intro (H3.out.1.next hb4) (And.intro (bel H3.out.2 hb4) hgl)); clear xc hb4 hgl) | fail)
    obtain ⟨L, hL⟩ : ∃ L, w4.heap.size = L := ⟨_, rfl⟩
    obtain ⟨W5, hW5⟩ : ∃ W, w4.alloc (.cells (grB g bv dv ba da be de) 30) = W := ⟨_, rfl⟩
    have hl5 : Blk W5 L (grB g bv dv ba da be de) 30 := by rw [← hW5, ← hL]; exact Blk.new w4 _ _
    have hb45 : Below w4.heap.size w4 W5 := by rw [← hW5]; exact (Below.refl _ w4).alloc (Nat.le_refl _) _
    have H5 := Lib.hid (And.intro (H4.out.1.next hb45) (And.intro (bel H4.out.2.1 hb45) (And.intro (H4.out.2.2.next hb45) hl5)))
    have lc := hl5.cell
    rw [hW5, hL]
    clear hl5 hb45 hW5 hL
    have HT := Lib.hid (fun W (hb : Below w.heap.size w W) => HTF.out.next hb)
    have HO := Lib.hid (gout_any g p bv ba be dv da de W5 H5.out.2.2.1 HNV.out (HT.out _ H5.out.2.1))
    go_upto_region 6 with (first | (go_at_call 12; (with_reducible refine HO.out.mono ?_); rintro e w6 ho; obtain ⟨rfl, hb6⟩ := out_bad HFF.out HZ.out ho; have H6 := Lib.hid (And.intro (H5.out.1.next hb6) (And.intro (bel H5.out.2.1 hb6) (And.intro (H5.out.2.2.1.next hb6) (H5.out.2.2.2.next hb6)))); clear lc; have lc := (H5.out.2.2.2.next hb6).cell; clear hb6 ho) | fail)
    have HR := Lib.hid (reached_any g bv ba be dv da de w6 H6.out.2.2.1 HNV.out (HT.out _ H6.out.2.1))
    go_upto_region 7 with (first | (go_at_call 13; (with_reducible refine HR.out.mono ?_); rintro e w7 ho; obtain ⟨rfl, hb7⟩ := rch_bad HFF.out HZ.out ho; have H7 := Lib.hid (And.intro (H6.out.1.next hb7) (And.intro (bel H6.out.2.1 hb7) (And.intro (H6.out.2.2.1.next hb7) (And.intro (H6.out.2.2.2.next hb7) hb7)))); clear lc; have lc := (H6.out.2.2.2.next hb7).cell; clear hb7 ho) | fail)
    have HD := Lib.hid (gheads_any g bv ba be dv da de w7 H7.out.2.2.1 HNV.out (HT.out _ H7.out.2.1))
    go_upto_region 8 with (first | (go_at_call 14; (with_reducible refine HD.out.mono ?_); rintro e w8 ho; obtain ⟨rfl, hb8⟩ := hds_bad HFF.out HZ.out ho; have H8 := Lib.hid (And.intro (H7.out.1.next hb8) (And.intro (bel H7.out.2.1 hb8) (And.intro (H7.out.2.2.1.next hb8) (And.intro (H7.out.2.2.2.1.next hb8) hb8)))); clear lc; have lc := (H7.out.2.2.2.1.next hb8).cell; clear hb8 ho) | fail)
    have HQ := Lib.hid (order_any g bv ba be dv da de w8 H8.out.2.2.1 HNV.out (HT.out _ H8.out.2.1))
    go_upto_region 9 with (first | (go_at_call 15; (with_reducible refine HQ.out.mono ?_); rintro e w9 ho; obtain ⟨rfl, hb9⟩ := ord_bad HFF.out HZ.out ho; have H9 := Lib.hid (And.intro (H8.out.1.next hb9) (And.intro (bel H8.out.2.1 hb9) (And.intro (H8.out.2.2.1.next hb9) (And.intro (H8.out.2.2.2.1.next hb9) hb9)))); clear lc; have lc := (H8.out.2.2.2.1.next hb9).cell; clear hb9 ho) | fail)
    have hck := check_any g bv ba be dv da de w9 H9.out.2.2.1 HNV.out (HT.out _ H9.out.2.1)
    rw [HFF.out] at hck
    have HC9 := Lib.hid hck
    clear hck
    go_wp2_with (first | (go_at_call 16; (with_reducible refine HC9.out.mono ?_); rintro e w10 ⟨rfl, hb10⟩; have H10 := Lib.hid (And.intro (H9.out.1.next hb10) (And.intro (bel H9.out.2.1 hb10) (And.intro (H9.out.2.2.1.next hb10) (And.intro (H9.out.2.2.2.1.next hb10) hb10)))); clear lc; have lc := (H9.out.2.2.2.1.next hb10).cell; have xc := (H9.out.1.next hb10).cell; have HG10 := Lib.hid (gcfg_any g bv ba be av aa ae dv da de cv ca ce w10 (H9.out.2.2.1.next hb10) (HGI.out.next (bel H9.out.2.1 hb10))); clear hb10) | (go_at_call 9; (with_reducible refine HG10.out.mono ?_); rintro e w11 ⟨rfl, hb11⟩; have H11 := Lib.hid (And.intro (H10.out.1.next hb11) (And.intro (bel H10.out.2.1 hb11) hb11)); clear lc xc; have xc := (H10.out.1.next hb11).cell; clear hb11) | fail)
    go_ret
    exact ⟨rfl, H11.out.2.1⟩
end Go.Proofs.YtjpopelbdhgidaaGreatDoor
