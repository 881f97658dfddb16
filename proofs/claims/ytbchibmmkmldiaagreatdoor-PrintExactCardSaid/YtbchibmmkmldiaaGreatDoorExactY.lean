/-
  PrintExact (P5.3), the tied card: proved is that gnomonlaw5.PrintExact answers true for every program, and it reads as it did.
  Conditions: the tables of packages math/bits and internal/strconv stand as their text lays them (the card ties them to the text of the pruned copy of the project).
-/
import Derived.Test.YtbchibmmkmldiaaGreatDoorExactX
import Derived.Test.YtbchibmmkmldiaaGreatDoorTops
import Derived.Test.YtbchibmmkmldiaaGreatDoorThru
import Derived.WideShapes
import Derived.Test.YtbchibmmkmldiaaGreatDoorPostT
import Derived.Test.YtbchibmmkmldiaaGreatDoorLaidC
import Derived.SizedLaws
/-
  The document's Print and the project's: proved is that both answer one text and one fault.
-/
namespace Go.Proofs.YtbchibmmkmldiaaGreatDoor
open Go Go.RowKit

/-- What is told of a program: its text, where it has no fault and isn't too long; and what is wrong. -/
def ansPE (ds ss : List Nd) : Int := if faultT (progT ds ss) = 0 then (if 65536 < (prT ds ss).length then 50 else 0) else faultT (progT ds ss)
def ansPS (ds ss : List Nd) : ByteArray := if faultT (progT ds ss) = 0 then (if 65536 < (prT ds ss).length then ⟨#[]⟩ else bts (prT ds ss)) else ⟨#[]⟩
theorem ansP_bad {ds ss : List Nd} (h : ¬ faultT (progT ds ss) = 0) : ansPS ds ss = ⟨#[]⟩ ∧ ansPE ds ss = faultT (progT ds ss) := by
  unfold ansPS ansPE
  rw [if_neg h, if_neg h]
  exact ⟨rfl, rfl⟩
theorem ansP_long {ds ss : List Nd} (h : faultT (progT ds ss) = 0) (hl : 65536 < (prT ds ss).length) : ansPS ds ss = ⟨#[]⟩ ∧ ansPE ds ss = 50 := by
  unfold ansPS ansPE
  rw [if_pos h, if_pos h, if_pos hl, if_pos hl]
  exact ⟨rfl, rfl⟩
theorem ansP_ok {ds ss : List Nd} (h : faultT (progT ds ss) = 0) (hl : ¬ 65536 < (prT ds ss).length) : ansPS ds ss = bts (prT ds ss) ∧ ansPE ds ss = 0 := by
  unfold ansPS ansPE
  rw [if_pos h, if_pos h, if_neg hl, if_neg hl]
  exact ⟨rfl, rfl⟩
/-- A line in no block. -/
theorem rline0 (b : Nat) (S F L : List UInt8) (w : World) (hB : Blk w b #[.string (bts S)] 52) (hR : Rel F S) (hS : S.length ≤ 4194304) (hL : L.length ≤ 1600000) :
    Calls Tryz.prog 13 #[.pointer (some ⟨b, 0, none⟩), .int .i64 0, .string (bts L)] w (RDone b (F ++ lnT 0 L) w) := rline_rel b 0 S F L w hB hR hS hL (by omega)
theorem rlist0 (w0 : World) (b : Nat) (hb0 : w0.heap.size ≤ b) (ss : List Nd) (hg : goodSL ss) (hn : cntL ss ≤ 4096) (v : Value) (S F : List UInt8) (w : World) (hin : SlIn w0 .S ss v) (hw : Below w0.heap.size w0 w) (hB : Blk w b #[.string (bts S)] 52) (hR : Rel F S) (hS : S.length ≤ 4194304) :
    Calls Tryz.prog 15 #[.pointer (some ⟨b, 0, none⟩), v, .int .i64 0] w (RDone b (F ++ stL ss 0) w) := rstmts_any w0 b hb0 _ 0 ss (Nat.le_refl _) hg (by omega) v S F w hin hw hB hR hS
def varL (nm : ByteArray) : List UInt8 := lst tVar ++ (lst nm ++ lst tSemi)
def arrL (nm : ByteArray) (n : Int) : List UInt8 := lst tArray ++ (lst nm ++ (lst tOpen ++ (Lib.itoa n ++ [93, 59])))
theorem dc_var (k n : Int) (nm : ByteArray) (xs cs ts es : List Nd) (h : n = 0) : dcT (.mk .D k n nm xs cs ts es) = lnT 0 (varL nm) := by unfold dcT varL; exact if_pos h
theorem dc_arr (k n : Int) (nm : ByteArray) (xs cs ts es : List Nd) (h : ¬ n = 0) : dcT (.mk .D k n nm xs cs ts es) = lnT 0 (arrL nm n) := by unfold dcT arrL; exact if_neg h
theorem var_eq (nm : ByteArray) : ⟨#[118, 97, 114, 32]⟩ ++ nm ++ ⟨#[59]⟩ = bts (varL nm) := by
  rw [lst_bts nm, lst_bts ⟨#[118, 97, 114, 32]⟩, lst_bts ⟨#[59]⟩, bts_app, bts_app, ← lst_bts nm]
  unfold varL
  rw [List.append_assoc]
  rfl
theorem arr_eq (nm : ByteArray) (n : Int) : ⟨#[97, 114, 114, 97, 121, 32]⟩ ++ nm ++ ⟨#[91]⟩ ++ ⟨(Lib.itoa n).toArray⟩ ++ ⟨#[93, 59]⟩ = bts (arrL nm n) := by
  rw [show (⟨(Lib.itoa n).toArray⟩ : ByteArray) = bts (Lib.itoa n) from rfl, lst_bts nm, lst_bts ⟨#[97, 114, 114, 97, 121, 32]⟩, lst_bts ⟨#[91]⟩, lst_bts ⟨#[93, 59]⟩, bts_app, bts_app, bts_app, bts_app, ← lst_bts nm]
  unfold arrL
  simp only [List.append_assoc]
  rfl
theorem var_le {nm : ByteArray} (h : nm.size ≤ 128) : (varL nm).length ≤ 1600000 := by
  have e : (varL nm).length = 4 + (nm.size + 1) := by unfold varL; rw [List.length_append, List.length_append]; rfl
  omega
theorem arr_le {nm : ByteArray} {n : Int} (h : nm.size ≤ 128) (hi : (Lib.itoa n).length ≤ 24) : (arrL nm n).length ≤ 1600000 := by
  have e : (arrL nm n).length = 6 + (nm.size + (1 + ((Lib.itoa n).length + 2))) := by unfold arrL; rw [List.length_append, List.length_append, List.length_append, List.length_append]; rfl
  omega

set_option maxRecDepth 100000 in
set_option maxHeartbeats 16000000 in
theorem rprint_any (ds ss : List Nd) (v0 v1 : Value) (w : World) (hd : SlIn w .D ds v0) (hs : SlIn w .S ss v1) :
    Calls Tryz.prog 6 #[.agg #[v0, v1]] w (fun e w' => e = .returned (.tuple #[.string (ansPS ds ss), .int .i64 (ansPE ds ss)]) ∧ Below w.heap.size w w') := by
  have hfd := fit_list hd
  have hnd := noD_list hs
  have hCK := fun w1 (hb : Below w.heap.size w w1) => rcheck_any ds ss v0 v1 w1 (hd.keep (keeps_below hb)) (hs.keep (keeps_below hb))
  rw [docP_same hfd hnd] at hCK
  have hgood := fun h => prog_good hd hs h
  have hLS := fun b hb hg hn S F w' hw hB hR hS => rlist0 w b hb ss hg hn v1 S F w' hs hw hB hR hS
  have h1 := @ansP_bad ds ss
  have h2 := @ansP_long ds ss
  have h3 := @ansP_ok ds ss
  obtain ⟨P, hP⟩ : ∃ P, faultT (progT ds ss) = P := ⟨_, rfl⟩
  simp only [hP] at hCK hgood h1 h2 h3
  obtain ⟨AS, hAS⟩ : ∃ A, ansPS ds ss = A := ⟨_, rfl⟩
  obtain ⟨AE, hAE⟩ : ∃ A, ansPE ds ss = A := ⟨_, rfl⟩
  rw [hAS, hAE] at h1 h2 h3 ⊢
  clear hP hAS hAE hfd hnd
  have A1 := Lib.hid h1; clear h1
  have A2 := Lib.hid h2; clear h2
  have A3 := Lib.hid h3; clear h3
  have HLS := Lib.hid hLS; clear hLS
  have HGOOD := Lib.hid hgood; clear hgood
  have HCK := Lib.hid hCK; clear hCK
  obtain ⟨a, c, rfl, -, hcm, hrow⟩ := hd
  obtain ⟨a1, c1, rfl, -⟩ := hs
  have HROW := Lib.hid hrow; clear hrow
  obtain ⟨W1, hW1⟩ : ∃ W1, w.alloc (.cells #[.slice a ds.length c, .slice a1 ss.length c1] 25) = W1 := ⟨_, rfl⟩
  obtain ⟨X, hX⟩ : ∃ X, w.heap.size = X := ⟨_, rfl⟩
  have hX1 : Blk W1 X #[.slice a ds.length c, .slice a1 ss.length c1] 25 := by rw [← hW1, ← hX]; exact Blk.new w _ _
  have hb1 : Below w.heap.size w W1 := by rw [← hW1]; exact (Below.refl _ w).alloc (Nat.le_refl _) _
  have m0 : W1.cell? ⟨X, 0, none⟩ = some (.slice a ds.length c) := hX1.cell 0
  have m1 : W1.cell? ⟨X, 1, none⟩ = some (.slice a1 ss.length c1) := hX1.cell 1
  have HX1 := Lib.hid hX1; clear hX1
  have HB1 := Lib.hid hb1; clear hb1
  have HW1 := Lib.hid hW1; clear hW1
  have HXX := Lib.hid hX; clear hX
  go_enter Tryz.func6, Tryz.ntmps6
  go_upto_region 1 with fail
  rw [HW1.out, HXX.out]
  clear HW1
  by_cases hz : P = 0
  · have hz1 : (P != 0) = false := by simpa using hz
    go_upto_region 5 with (first | (go_at_call 12; (with_reducible refine (HCK.out _ HB1.out).mono ?_); rintro e w2 ⟨rfl, hb2⟩) | fail)
    obtain ⟨hgd, hdn, hgs, hsn⟩ := HGOOD.out hz
    have hw2 : Below w.heap.size w w2 := below_next HB1.out hb2
    obtain ⟨b, hb⟩ : ∃ b, w2.heap.size = b := ⟨_, rfl⟩
    obtain ⟨W3, hW3⟩ : ∃ W3, w2.alloc (.cells #[.string ⟨#[]⟩] 52) = W3 := ⟨_, rfl⟩
    have hX3 : Blk W3 X #[.slice a ds.length c, .slice a1 ss.length c1] 25 := by rw [← hW3]; exact (HX1.out.below hb2 HX1.out.lt).alloc _
    have hB3 : Blk W3 b #[.string (bts [])] 52 := by rw [← hW3, ← hb]; exact Blk.new w2 _ _
    have hw3 : Below w.heap.size w W3 := by rw [← hW3]; exact hw2.alloc hw2.size _
    have hb0 : w.heap.size ≤ b := by rw [← hb]; exact hw2.size
    have hXb : X ≠ b := by have := HX1.out.lt; have := hb2.size; omega
    rw [hW3, hb]
    clear m0 m1
    have HX3 := Lib.hid hX3; clear hX3
    have HB3 := Lib.hid hB3; clear hB3
    have HW3 := Lib.hid hw3; clear hw3
    have HR0 := Lib.hid (Rel.refl [])
    have HO0 := Lib.hid (Only.refl b W3)
    have HGD := Lib.hid hgd; clear hgd
    have HZ := Lib.hid hz; clear hz
    have HHS := Lib.hid (And.intro hgs hsn); clear hgs hsn
    clear hb2 hw2 hW3 hb hz1 HX1 HB1 HCK HGOOD
    have p0 : W3.cell? ⟨X, 0, none⟩ = some (.slice a ds.length c) := HX3.out.cell 0
    go_upto_block 0 with fail
    go_cut [6] (fun _ wx => ∃ S', Blk wx b #[.string (bts S')] 52 ∧ Rel (dcL ds) S' ∧ S'.length ≤ 4194304 ∧ Only b W3 wx)
    case first =>
      go_wp2_with fail
      go_loopw [6] (fun x wr => ∃ (i : Nat) (S' : List UInt8), x = .int .i64 i ∧ i ≤ ds.length ∧ Blk wr b #[.string (bts S')] 52 ∧ Rel (dcL (ds.take i)) S' ∧ S'.length ≤ 4194304 ∧ Only b W3 wr) (fun x _ => ds.length - (intOf x).toNat)
      case atStart => exact ⟨0, [], rfl, by omega, HB3.out, by rw [List.take_zero, dcL]; exact HR0.out, by simp, HO0.out⟩
      case round =>
        obtain ⟨i, S', rfl, hi, hBr, hRr, hSr, hOr⟩ := hrel
        clear p0
        have hXr := HX3.out.only hOr hXb
        have q0 : wr.cell? ⟨X, 0, none⟩ = some (.slice a ds.length c) := hXr.cell 0
        have HBr := Lib.hid hBr; clear hBr
        have HRr := Lib.hid hRr; clear hRr
        have HOr := Lib.hid hOr; clear hOr
        clear hXr
        by_cases hlt : i < ds.length
        · have hbi : (i : Int) + 1 ≤ 9223372036854775807 := by omega
          obtain ⟨g, o, rfl, hrow⟩ := HROW.out.resolve_left (by omega)
          obtain ⟨hty, u0, u1, n0, n1, hnd⟩ := SlIn.item2 rfl hrow i hlt
          have hold : Below w.heap.size w wr := HW3.out.trans (HOr.out.old hb0 HW3.out.size)
          have kk := keeps_below hold
          have k0 := kk _ _ _ n0
          have k1 := kk _ _ _ n1
          have htk := dcL_take hlt
          have hgi := HGD.out _ (List.getElem_mem hlt)
          obtain ⟨x, hx⟩ : ∃ x, ds[i] = x := ⟨_, rfl⟩
          rw [hx] at hnd hty hgi htk
          clear hx n0 n1 kk hrow
          obtain ⟨ty, k, n, nm, xs, cs, ts, es⟩ := x
          unfold goodD at hgi
          obtain ⟨rfl, hn0, hn1, hnm⟩ := hgi
          unfold NdIn at hnd
          obtain ⟨-, -, -, -, vx, vc, vt, ve, hvs, -⟩ := hnd
          simp only [lay, List.cons.injEq, and_true] at hvs
          obtain ⟨rfl, rfl⟩ := hvs
          clear hty
          obtain ⟨W4, hW4⟩ : ∃ W4, wr.alloc (.cells #[.string nm, .int .i64 n] 54) = W4 := ⟨_, rfl⟩
          obtain ⟨Y, hY⟩ : ∃ Y, wr.heap.size = Y := ⟨_, rfl⟩
          have hY1 : Blk W4 Y #[.string nm, .int .i64 n] 54 := by rw [← hW4, ← hY]; exact Blk.new wr _ _
          have hb4 : Blk W4 b #[.string (bts S')] 52 := by rw [← hW4]; exact HBr.out.alloc _
          have hYb : Y ≠ b := by have := HBr.out.lt; omega
          have ho4 : Only b W3 W4 := by rw [← hW4]; exact HOr.out.alloc _
          have r0 : W4.cell? ⟨Y, 0, none⟩ = some (.string nm) := hY1.cell 0
          have r1 : W4.cell? ⟨Y, 1, none⟩ = some (.int .i64 n) := hY1.cell 1
          have HY1 := Lib.hid hY1; clear hY1
          have HB4 := Lib.hid hb4; clear hb4
          have HO4 := Lib.hid ho4; clear ho4
          have HTK := Lib.hid htk; clear htk
          have HW4 := Lib.hid hW4; clear hW4
          have HYY := Lib.hid hY; clear hY
          go_upto_region 9 with fail
          rw [HW4.out, HYY.out]
          clear HW4 q0 k0 k1 hold
          by_cases hq : n = 0
          · have hq1 : (n == 0) = true := by simpa using hq
            have hdc := dc_var k n nm xs cs ts es hq
            have hL := rline0 b S' (dcL (ds.take i)) (varL nm) W4 HB4.out HRr.out hSr (var_le hnm)
            rw [← var_eq] at hL
            have hs1 : 4 + nm.size ≤ 9223372036854775807 := by omega
            have hs2 : ¬ 9223372036854775807 < 4 + nm.size := by omega
            have hs3 : 4 + nm.size + 1 ≤ 9223372036854775807 := by omega
            have hs4 : ¬ 9223372036854775807 ≤ 4 + nm.size := by omega
            have HL := Lib.hid hL
            have HDC := Lib.hid hdc
            have HQ := Lib.hid hq
            clear hL hdc hq hn0 hn1
            go_wp2_with (first | (go_at_call 13; (with_reducible refine HL.out.mono ?_); rintro e w5 ⟨rfl, S5, hB5, hR5, hS5, hO5⟩; (have HH5 := Lib.hid (And.intro hB5 hR5)); (have HHO5 := Lib.hid (HO4.out.trans hO5)); clear hB5 hR5 hO5) | fail)
            go_roundw
            case rel =>
              refine ⟨i + 1, S5, by go_num, by omega, HH5.out.1, ?_, hS5, HHO5.out⟩
              rw [HTK.out, HDC.out]
              exact HH5.out.2
            case measure => simp [intOf]; omega
          · have hq1 : (n == 0) = false := by simpa using hq
            have hdc := dc_arr k n nm xs cs ts es hq
            have hil := itoa_len (i64_small hn0 hn1)
            have hL := fun w5 (hb5 : Below W4.heap.size W4 w5) => rline0 b S' (dcL (ds.take i)) (arrL nm n) w5 (HB4.out.below hb5 HB4.out.lt) HRr.out hSr (arr_le hnm hil)
            rw [← arr_eq] at hL
            have hDG := fun w5 => rdig_any n hn0 (by omega) w5
            have hz5 : (⟨(Lib.itoa n).toArray⟩ : ByteArray).size = (Lib.itoa n).length := rfl
            obtain ⟨C0, hC0⟩ : ∃ C : ByteArray, (⟨(Lib.itoa n).toArray⟩ : ByteArray) = C := ⟨_, rfl⟩
            simp only [hC0] at hL hDG hz5
            have hs1 : 6 + nm.size ≤ 9223372036854775807 := by omega
            have hs2 : ¬ 9223372036854775807 < 6 + nm.size := by omega
            have hs3 : 6 + nm.size + 1 ≤ 9223372036854775807 := by omega
            have hs3b : ¬ 9223372036854775807 < 6 + nm.size + 1 := by omega
            have hs4 : ¬ 9223372036854775807 ≤ 6 + nm.size := by omega
            have hs5 : 6 + nm.size + 1 + C0.size ≤ 9223372036854775807 := by omega
            have hs6 : ¬ 9223372036854775807 < 6 + nm.size + 1 + C0.size := by omega
            have hs7 : 6 + nm.size + 1 + C0.size + 2 ≤ 9223372036854775807 := by omega
            have hs8 : ¬ 9223372036854775807 < 6 + nm.size + 1 + C0.size + 2 := by omega
            have HL := Lib.hid hL
            have HDG := Lib.hid hDG
            have HDC := Lib.hid hdc
            have KS := fun w' (hO : Only b W4 w') => (⟨(HY1.out.only hO hYb).cell 0, (HY1.out.only hO hYb).cell 1, hO⟩ : w'.cell? ⟨Y, 0, none⟩ = some (.string nm) ∧ w'.cell? ⟨Y, 1, none⟩ = some (.int .i64 n) ∧ Only b W4 w')
            have KH := Lib.hid KS; clear KS
            clear hL hDG hdc hq hn0 hn1 hil hz5 hC0
            have HNUM := Lib.hid (And.intro hbi (And.intro hlt hi))
            go_upto_region 11 with fail
            clear hbi hlt hi hcm hdn hb0 hXb hYb hnm r0 r1 hSr
            go_region_held3 (fun w' => w'.cell? ⟨Y, 0, none⟩ = some (.string nm) ∧ w'.cell? ⟨Y, 1, none⟩ = some (.int .i64 n) ∧ Only b W4 w')
              ((with_reducible refine KH.out _ ?_; repeat (with_reducible (first | exact Only.refl b W4 | refine only_drew ?_ | refine only_next ?_ hb5 | refine Only.trans ?_ hO6 | fail))))
              (first | (go_at_call 14; (with_reducible refine (HDG.out _).mono ?_); rintro e w5 ⟨rfl, hb5⟩) | (go_at_call 13; (with_reducible refine (HL.out _ (by repeat (with_reducible (first | exact Below.refl _ W4 | refine below_drew ?_ | refine below_next ?_ hb5 | fail)))).mono ?_); rintro e w6 ⟨rfl, S6, hB6, hR6, hS6, hO6⟩))
            all_goals
              obtain ⟨hbi, hlt, hi⟩ := HNUM.out
              go_wp2_with fail
              go_roundw
              case rel =>
                refine ⟨i + 1, S6, by go_num, by omega, hB6, ?_, hS6, HO4.out.trans (by repeat (with_reducible (first | exact Only.refl b W4 | refine only_drew ?_ | refine only_next ?_ hb5 | refine Only.trans ?_ hO6 | fail)))⟩
                rw [HTK.out, HDC.out]
                exact hR6
              case measure => simp [intOf]; omega
        · obtain rfl : i = ds.length := by omega
          go_wp2_with fail
          go_meet
          refine ⟨S', HBr.out, ?_, hSr, HOr.out⟩
          have h := HRr.out
          rw [List.take_length] at h
          exact h
    case rest =>
      obtain ⟨S', hBc, hRc, hSc, hOc⟩ := hcut
      clear p0
      have hold : Below w.heap.size w wc := HW3.out.trans (hOc.old hb0 HW3.out.size)
      have m1 : wc.cell? ⟨X, 1, none⟩ = some (.slice a1 ss.length c1) := (HX3.out.only hOc hXb).cell 1
      have HC := Lib.hid (HLS.out b hb0 HHS.out.1 HHS.out.2 S' (dcL ds) wc hold hBc hRc hSc)
      have HOC := Lib.hid hOc; clear hOc hold hBc hRc
      go_upto_region 13 with (first | (go_at_call 15; (with_reducible refine HC.out.mono ?_); rintro e w5 ⟨rfl, S5, hB5, hR5, hS5, hO5⟩; (have HH5 := Lib.hid (And.intro hB5 hR5)); (have HHO5 := Lib.hid (HOC.out.trans hO5)); clear hB5 hR5 hO5) | fail)
      have hend : Below w.heap.size w w5 := HW3.out.trans (HHO5.out.old hb0 HW3.out.size)
      have hR := HH5.out.2
      have hlong := hR.long
      have hz := bts_size S5
      have t0 : w5.cell? ⟨b, 0, none⟩ = some (.string (bts S5)) := HH5.out.1.cell 0
      obtain ⟨C, hC⟩ : ∃ C, bts S5 = C := ⟨_, rfl⟩
      rw [hC] at t0 hz
      have HEND := Lib.hid hend; clear hend
      have HRR := Lib.hid hR; clear hR
      have HCC := Lib.hid hC; clear hC
      by_cases hl : 65536 < S5.length
      · have hl2 : 65536 < (prT ds ss).length := by unfold prT; rw [← hlong]; exact hl
        have AA := Lib.hid (A2.out HZ.out hl2)
        have hq : 65536 < C.size := by omega
        clear hl hl2 hz hlong hS5
        go_wp2_with fail
        go_ret2
        exact ⟨by rw [AA.out.1, AA.out.2]; rfl, HEND.out⟩
      · have hl2 : ¬ 65536 < (prT ds ss).length := by unfold prT; rw [← hlong]; exact hl
        have AA := Lib.hid (A3.out HZ.out hl2)
        have hsm := Lib.hid (HRR.out.same hl)
        have hq : ¬ 65536 < C.size := by omega
        clear hl hl2 hz hlong hS5
        go_wp2_with fail
        go_ret2
        exact ⟨by rw [AA.out.1, AA.out.2, ← HCC.out, ← hsm.out]; rfl, HEND.out⟩
  · have hz1 : (P != 0) = true := by simpa using hz
    have AA := Lib.hid (A1.out hz)
    clear hz
    go_wp2_with (first | (go_at_call 12; (with_reducible refine (HCK.out _ HB1.out).mono ?_); rintro e w2 ⟨rfl, hb2⟩) | fail)
    go_ret2
    exact ⟨by rw [AA.out.1, AA.out.2]; rfl, below_next HB1.out hb2⟩

set_option maxRecDepth 100000 in
set_option maxHeartbeats 8000000 in
theorem pprint_any (ds ss : List Nd) (v0 v1 : Value) (w : World) (hd : SlIn w .D ds v0) (hs : SlIn w .S ss v1) (htab : Lib.TabIs Tryz.prog w "internal/strconv.uint64pow10" .u64 Lib.pow10Tab) :
    Calls Tryz.prog 5 #[.agg #[v0, v1]] w (fun e w' => e = .returned (.tuple #[.string (ansPS ds ss), .int .i64 (ansPE ds ss)]) ∧ Below w.heap.size w w') := by
  have hCK := fun w1 (hb : Below w.heap.size w w1) => tcheck_any ds ss v0 v1 w1 (hd.keep (keeps_below hb)) (hs.keep (keeps_below hb))
  have hgood := fun h => prog_good hd hs h
  have hPR := fun b l w' h1 h2 h3 h4 hw h hl => prog_any w w.heap.size b (Nat.le_refl _) htab ds ss h1 h2 h3 h4 v0 v1 l w' hd hs hw h hl
  have h1 := @ansP_bad ds ss
  have h2 := @ansP_long ds ss
  have h3 := @ansP_ok ds ss
  obtain ⟨P, hP⟩ : ∃ P, faultT (progT ds ss) = P := ⟨_, rfl⟩
  simp only [hP] at hCK hgood h1 h2 h3
  obtain ⟨AS, hAS⟩ : ∃ A, ansPS ds ss = A := ⟨_, rfl⟩
  obtain ⟨AE, hAE⟩ : ∃ A, ansPE ds ss = A := ⟨_, rfl⟩
  rw [hAS, hAE] at h1 h2 h3 ⊢
  clear hP hAS hAE htab
  have A1 := Lib.hid h1; clear h1
  have A2 := Lib.hid h2; clear h2
  have A3 := Lib.hid h3; clear h3
  have HPR := Lib.hid hPR; clear hPR
  have HGOOD := Lib.hid hgood; clear hgood
  have HCK := Lib.hid hCK; clear hCK
  obtain ⟨a, c, rfl, -⟩ := hd
  obtain ⟨a1, c1, rfl, -⟩ := hs
  obtain ⟨W1, hW1⟩ : ∃ W1, w.alloc (.cells #[.slice a ds.length c, .slice a1 ss.length c1] 25) = W1 := ⟨_, rfl⟩
  obtain ⟨X, hX⟩ : ∃ X, w.heap.size = X := ⟨_, rfl⟩
  have hX1 : Blk W1 X #[.slice a ds.length c, .slice a1 ss.length c1] 25 := by rw [← hW1, ← hX]; exact Blk.new w _ _
  have hb1 : Below w.heap.size w W1 := by rw [← hW1]; exact (Below.refl _ w).alloc (Nat.le_refl _) _
  have m0 : W1.cell? ⟨X, 0, none⟩ = some (.slice a ds.length c) := hX1.cell 0
  have m1 : W1.cell? ⟨X, 1, none⟩ = some (.slice a1 ss.length c1) := hX1.cell 1
  have HX1 := Lib.hid hX1; clear hX1
  have HB1 := Lib.hid hb1; clear hb1
  have HW1 := Lib.hid hW1; clear hW1
  have HXX := Lib.hid hX; clear hX
  go_enter Tryz.func5, Tryz.ntmps5
  go_upto_region 1 with fail
  rw [HW1.out, HXX.out]
  clear HW1
  by_cases hz : P = 0
  · have hz1 : (P != 0) = false := by simpa using hz
    go_upto_region 5 with (first | (go_at_call 8; (with_reducible refine (HCK.out _ HB1.out).mono ?_); rintro e w2 ⟨rfl, hb2⟩) | fail)
    obtain ⟨hgd, hdn, hgs, hsn⟩ := HGOOD.out hz
    have hw2 : Below w.heap.size w w2 := below_next HB1.out hb2
    obtain ⟨b, hb⟩ : ∃ b, w2.heap.size = b := ⟨_, rfl⟩
    obtain ⟨W3, hW3⟩ : ∃ W3, w2.alloc (.cells #[.pointer none, .slice none 0 0, .int .i64 0] 45) = W3 := ⟨_, rfl⟩
    have hX3 : Blk W3 X #[.slice a ds.length c, .slice a1 ss.length c1] 25 := by rw [← hW3]; exact (HX1.out.below hb2 HX1.out.lt).alloc _
    have hw3 : Below w.heap.size w W3 := by rw [← hW3]; exact hw2.alloc hw2.size _
    have hD : Bd 45 [.int .i64 ((0 : Nat) : Int)] w.heap.size b [] W3 := by
      rw [← hW3, ← hb]
      exact .inl ⟨hw2.size, rfl, Blk.new w2 _ _⟩
    have hC := HPR.out b [] W3 hgd hdn hgs hsn hw3 hD (by simp)
    have HC := Lib.hid hC; clear hC
    rw [hW3, hb]
    have n0 : W3.cell? ⟨X, 0, none⟩ = some (.slice a ds.length c) := hX3.cell 0
    have n1 : W3.cell? ⟨X, 1, none⟩ = some (.slice a1 ss.length c1) := hX3.cell 1
    have HW3 := Lib.hid hw3; clear hw3
    have HZ := Lib.hid hz; clear hz
    clear hX3 hD hw2 hb2 hW3 hb hz1 m0 m1 hgd hdn hgs hsn HX1 HB1 HCK HGOOD HPR
    go_upto_region 6 with (first | (go_at_call 9; (with_reducible refine HC.out.mono ?_); rintro e w4 ⟨rfl, hd4, hk4⟩; (have HD := Lib.hid hd4); (have HK := Lib.hid hk4); clear hd4 hk4) | fail)
    have hend : Below w.heap.size w w4 := HW3.out.trans HK.out.1
    have HEND := Lib.hid hend; clear hend
    have HL := Lib.hid (len_any _ _ _ _ _ w4 HD.out)
    have hstr := str_any _ _ _ _ _ w4 HD.out
    rw [List.nil_append] at HL hstr
    have HST := Lib.hid hstr; clear hstr
    obtain ⟨L, hL⟩ : ∃ L, (prT ds ss).length = L := ⟨_, rfl⟩
    rw [hL] at HL A2 A3
    by_cases hl : 65536 < L
    · have AA := Lib.hid (A2.out HZ.out hl)
      have hl2 : (65536 : Int) < L := by omega
      clear hl hL
      go_wp2_with (first | (go_at_call 10; (with_reducible refine HL.out.mono ?_); rintro e w5 ⟨rfl, rfl⟩) | fail)
      go_ret2
      exact ⟨by rw [AA.out.1, AA.out.2]; rfl, HEND.out⟩
    · have AA := Lib.hid (A3.out HZ.out hl)
      have hl2 : ¬ (65536 : Int) < L := by omega
      clear hl hL
      go_wp2_with (first | (go_at_call 10; (with_reducible refine HL.out.mono ?_); rintro e w5 ⟨rfl, rfl⟩) | (go_at_call 11; (with_reducible refine HST.out.mono ?_); rintro e w6 ⟨rfl, hb6⟩) | fail)
      go_ret2
      exact ⟨by rw [AA.out.1, AA.out.2]; rfl, HEND.out.trans hb6⟩
  · have hz1 : (P != 0) = true := by simpa using hz
    have AA := Lib.hid (A1.out hz)
    clear hz
    go_wp2_with (first | (go_at_call 8; (with_reducible refine (HCK.out _ HB1.out).mono ?_); rintro e w2 ⟨rfl, hb2⟩) | fail)
    go_ret2
    exact ⟨by rw [AA.out.1, AA.out.2]; rfl, below_next HB1.out hb2⟩
end Go.Proofs.YtbchibmmkmldiaaGreatDoor

/-
  PrintExact's own walk: proved is that it answers true for every program that lies in memory, and that it turns nothing that lay.
-/
namespace Go.Proofs.YtbchibmmkmldiaaGreatDoor
open Go Go.RowKit

set_option maxRecDepth 100000 in
set_option maxHeartbeats 4000000 in
theorem pexact_any (ds ss : List Nd) (v0 v1 : Value) (w : World) (hd : SlIn w .D ds v0) (hs : SlIn w .S ss v1) (htab : Lib.TabIs Tryz.prog w "internal/strconv.uint64pow10" .u64 Lib.pow10Tab) :
    Calls Tryz.prog 3 #[.agg #[v0, v1]] w (fun e w' => e = .returned (.bool true) ∧ Below w.heap.size w w') := by
  have HK := Lib.hid (fun w1 (hb : Below w.heap.size w w1) => known5_any w1 (tab_below htab hb))
  have H1 := Lib.hid (fun w1 (hb : Below w.heap.size w w1) => pprint_any ds ss v0 v1 w1 (hd.keep (keeps_below hb)) (hs.keep (keeps_below hb)) (tab_below htab hb))
  have H2 := Lib.hid (fun w1 (hb : Below w.heap.size w w1) => rprint_any ds ss v0 v1 w1 (hd.keep (keeps_below hb)) (hs.keep (keeps_below hb)))
  obtain ⟨S, hS⟩ : ∃ A, ansPS ds ss = A := ⟨_, rfl⟩
  obtain ⟨P, hP⟩ : ∃ A, ansPE ds ss = A := ⟨_, rfl⟩
  simp only [hP, hS] at H1 H2
  clear hP hS htab
  obtain ⟨a, c, rfl, -⟩ := hd
  obtain ⟨a1, c1, rfl, -⟩ := hs
  obtain ⟨W1, hW1⟩ : ∃ W1, w.alloc (.cells #[.slice a ds.length c, .slice a1 ss.length c1] 25) = W1 := ⟨_, rfl⟩
  have hal : Below w.heap.size w W1 := by rw [← hW1]; exact (Below.refl _ w).alloc (Nat.le_refl _) _
  have hX1 : Blk W1 w.heap.size #[.slice a ds.length c, .slice a1 ss.length c1] 25 := by rw [← hW1]; exact Blk.new w _ _
  have HX1 := Lib.hid hX1; clear hX1
  have HB0 := Lib.hid hal; clear hal
  have HW1 := Lib.hid hW1; clear hW1
  have HC0 := Lib.hid (Below.refl W1.heap.size W1)
  go_enter Tryz.func3, Tryz.ntmps3
  go_upto_region 1 with fail
  rw [HW1.out]
  clear HW1
  go_wp2_with (first | (go_at_call 4; (with_reducible refine (HK.out _ HB0.out).mono ?_); rintro e w1 ⟨rfl, hb1⟩; have HB1 := Lib.hid (below_next HB0.out hb1); have hq := HC0.out.trans (hb1.mono HC0.out.size); have HC1 := Lib.hid hq; have hE := HX1.out.below hq HX1.out.lt; have f10 : w1.cell? ⟨w.heap.size, 0, none⟩ = some (.slice a ds.length c) := hE.cell 0; have f11 : w1.cell? ⟨w.heap.size, 1, none⟩ = some (.slice a1 ss.length c1) := hE.cell 1; clear hE hq hb1) | (go_at_call 5; (with_reducible refine (H1.out _ HB1.out).mono ?_); rintro e w2 ⟨rfl, hb2⟩; have HB2 := Lib.hid (below_next HB1.out hb2); have hq := HC1.out.trans (hb2.mono HC1.out.size); have HC2 := Lib.hid hq; have hE := HX1.out.below hq HX1.out.lt; have f20 : w2.cell? ⟨w.heap.size, 0, none⟩ = some (.slice a ds.length c) := hE.cell 0; have f21 : w2.cell? ⟨w.heap.size, 1, none⟩ = some (.slice a1 ss.length c1) := hE.cell 1; clear hE hq hb2) | (go_at_call 6; (with_reducible refine (H2.out _ HB2.out).mono ?_); rintro e w3 ⟨rfl, hb3⟩; have HB3 := Lib.hid (below_next HB2.out hb3); clear hb3) | fail)
  go_ret
  exact ⟨rfl, HB3.out⟩
end Go.Proofs.YtbchibmmkmldiaaGreatDoor

/-
  Arguments that are trees: proved is that what reads as an expression, a condition or a program lies in memory as a tree.
-/
namespace Go.Proofs.YtbchibmmkmldiaaGreatDoor
open Go Go.RowKit Go.ChangeShapes Go.WideShapes

section
variable {H : Type} {enc : TypeId × Value → H} {W : World} {base b0 : Nat} {sp : Nat → Bool} {held : Bool} {r : Reach}
set_option maxRecDepth 100000 in
theorem tyId_struct (ty : Ty) : ∃ fs, Tryz.prog.underlying (tyId ty) = some (.struct fs) := by
  cases ty
  · exact ⟨_, Tryz.underlying36⟩
  · exact ⟨_, Tryz.underlying82⟩
  · exact ⟨_, Tryz.underlying78⟩
  · exact ⟨_, Tryz.underlying54⟩
set_option maxRecDepth 100000 in
theorem arg_nd {ty : Ty} {v : Value} {d : DataW H} {p : List MemPlace} (hval : Value.okWide Tryz.prog W r b0 (tyId ty) v) (h : DataW.Trod enc Tryz.prog W base sp held (tyId ty) v d p) : ∃ (x : Nd) (vs : List Value), v = .agg vs.toArray ∧ x.ty = ty ∧ NdIn W x vs := by
  obtain ⟨fs, hfs⟩ := tyId_struct ty
  obtain ⟨cs, rfl, _⟩ := okWide_struct hfs hval
  obtain ⟨fuel, hf⟩ := h
  obtain ⟨x, h1, h2⟩ := open_nd fuel ty _ _ hf
  exact ⟨x, cs.toList, congrArg Value.agg (Array.ext' rfl), h1, h2⟩
theorem arg_four {x : Nd} {vs : List Value} (h : NdIn W x vs) (hs : x.ty.size = 4) : ∃ a b c d, vs = [a, b, c, d] := len4 (h.len.trans hs)
set_option maxRecDepth 100000 in
theorem arg_prog {v : Value} {d : DataW H} {p : List MemPlace} (hval : Value.okWide Tryz.prog W r b0 25 v) (h : DataW.Trod enc Tryz.prog W base sp held 25 v d p) : ∃ (ds ss : List Nd) (v0 v1 : Value), v = .agg #[v0, v1] ∧ SlIn W .D ds v0 ∧ SlIn W .S ss v1 := by
  obtain ⟨cs, rfl, _⟩ := okWide_struct Tryz.underlying25 hval
  obtain ⟨fuel, hf⟩ := h
  obtain ⟨xs, n, rfl, _, hl, hxs, hff⟩ := DataW.trod_struct Tryz.underlying25 hf
  have hl2 : cs.toList.length = 2 := hl.trans (by kernel_rfl)
  obtain ⟨c0, c1, hcs⟩ := len2 hl2
  simp only [Value.cells] at hff
  rw [hcs] at hff
  obtain ⟨y0, y1, rfl⟩ := len2 (hxs.trans (by rfl))
  obtain ⟨ds, hds⟩ := open_list (ty := .D) (one_cell (c := c0) (by kernel_rfl) rfl rfl (hff 0 _ rfl))
  obtain ⟨ss, hss⟩ := open_list (ty := .S) (one_cell (c := c1) (by kernel_rfl) rfl rfl (hff 1 _ rfl))
  exact ⟨ds, ss, c0, c1, congrArg Value.agg (Array.ext' hcs), hds, hss⟩
end
/-- The types of trees, and their parts'. -/
def treeT : List TypeId := [25, 36, 82, 78, 54, 34, 76, 23, 22, 3, 2, 9, 4]
theorem plainAll : PlainAll Tryz.prog (fun t => t ∈ treeT) := by
  have h : (treeT.all fun t => match Tryz.prog.underlying t with
    | some .bool => true
    | some (.int _) => true
    | some .string => true
    | some (.slice e) => treeT.contains e && decide (0 < Tryz.prog.cellsOf e)
    | some (.struct fs) => fs.toList.all fun f => treeT.contains f.type
    | _ => false) = true := by kernel_rfl
  intro t ht
  have h2 := List.all_eq_true.1 h t ht
  unfold GoodT
  clear h
  split at h2
  case h_5 fs heq =>
    rw [heq]
    intro f hf
    have := List.all_eq_true.1 h2 f hf
    simpa using this
  all_goals simp_all
end Go.Proofs.YtbchibmmkmldiaaGreatDoor

/-
  PrintExact (P5.3), the tied card: proved is that gnomonlaw5.PrintExact answers true for every program, and it reads as it did.
  Conditions: the tables of packages math/bits and internal/strconv stand as their text lays them (the card ties them to the text of the pruned copy of the project).
-/
namespace Go.Proofs.YtbchibmmkmldiaaGreatDoor.printExact
open Go Go.Shelf Go.ChangeShapes Go.WideShapes Go.ChangeAt Go.RowKit Go.Lib
open Go.ChangeMaps (open_string shut_string)

set_option maxRecDepth 100000 in
/-- What the walk gives, for every argument and every world that holds the tables. -/
theorem contract (H : Type) (enc : TypeId × Value → H) (W : World) (base : Nat) (args : Array Value) (ds gs : List (DataW H)) (before : List MemPlace)
    (hval : ∀ (j : Nat) t v, Tryz.f3.params[j]? = some t → args[j]? = some v → Value.okWide Tryz.prog W .any base t v)
    (hW : DataW.Whole enc Tryz.prog Tryz.f3.params.toList Rows.printExactSpec.vars false W args.toList ds gs before)
    (hsz0 : (DataW.weightsEach Tryz.prog (Tryz.f3.params.toList ++ (OpenSpec.ofChange Rows.printExactSpec).bare.plain.varTypes Tryz.prog) (ds ++ gs)).all (· ≤ reachBytes) = true) (hL : laidMetH Tryz.prog listed W) :
    Calls Tryz.prog 3 args W fun e W' => ∃ v, e = .returned v ∧ Rows.printExactSpec.post enc Tryz.prog Tryz.f3 false true false false W args v W' := by
  have hW' := hW
  obtain ⟨p, q, hA0, hV, rfl, hfz, hnd⟩ := hW
  have hA : DataW.TrodAll enc Tryz.prog W 0 (fun _ => true) true Tryz.f3.params.toList args.toList ds p := hA0
  have hsz := hsz0
  rw [Tryz.params3] at hA hval hsz
  obtain ⟨v0, vs0, d0, ds0, p0, q0, hargs, rfl, rfl, h0, r0⟩ := trodAll_cons hA
  obtain ⟨rfl, rfl, rfl⟩ := trodAll_nil r0
  obtain rfl : args = #[v0] := by cases args; simp_all
  obtain ⟨rfl, rfl⟩ := trodVars_none hV
  obtain ⟨x0, y0, a0, b0, rfl, hd0, hs0⟩ := arg_prog (hval 0 _ v0 rfl rfl) h0
  clear hA0 hsz0
  refine (pexact_any x0 y0 a0 b0 W hd0 hs0 (tab_of hL)).mono fun e W' ⟨he, hb⟩ => ?_
  subst he
  refine ⟨_, rfl, post_trueT (tb := 4) plainAll ?_ rfl (by kernel_rfl) (by kernel_rfl) Tryz.underlying4 rfl hW' hb⟩
  rw [Tryz.params3]
  intro t ht
  have hall : ([25].all fun u => treeT.contains u) = true := by kernel_rfl
  simpa using List.all_eq_true.1 hall t (by simpa using ht)

theorem reads (os : Os) {H : Type} (enc : TypeId × Value → H) : ∃ ds places, DataW.whole enc Tryz.prog ((laidWorld os).forCall (fun _ _ => 0) ⟨#[], #[.agg #[.slice none 0 0, .slice none 0 0]], []⟩).memory Tryz.f3.params.toList Rows.printExactSpec.vars false #[.agg #[.slice none 0 0, .slice none 0 0]].toList 8 = some (ds, [], places) :=
  ⟨[.agg [.nil, .nil]], [], by kernel_rfl⟩

set_option maxRecDepth 100000 in
theorem lifted (os : Os) (started : os.Started) (H : Type) (enc : TypeId × Value → H) (F : Stop.Interp) :
    ReturnsInHanded {} Tryz.checked os 3 .any ((OpenSpec.ofChange Rows.printExactSpec).preRow enc Tryz.prog Tryz.f3 Rows.printExactRow.domain false Rows.printExactRow.laid) (((OpenSpec.ofChange Rows.printExactSpec).at F).post enc Tryz.prog Tryz.f3 false true false false) := by
  obtain ⟨ds, places, hx⟩ := reads os enc
  refine returnsInHanded_of_row (C := Tryz.checked) (s := OpenSpec.ofChange Rows.printExactSpec) own started (by kernel_rfl) Tryz.func3
    (witness_row_atRef (enc := enc) (C := Tryz.checked) false (laidWorld os) #[.agg #[.slice none 0 0, .slice none 0 0]] rfl (by kernel_rfl) (by kernel_rfl) (by kernel_rfl)
      (OpenSpec.preRow_of_cond 8 hx (by kernel_rfl) (fun k hk => by cases hk) (by kernel_rfl) (laid_met os _))) ?_
  intro W base args ds gs before hval hW _ _ hsz hL _ _
  exact contract H enc W base args ds gs before hval hW hsz hL

theorem said : Rows.PrintExactSaid :=
  OpenClaim.holds_of_cond 3 Tryz.f3 rfl rfl rfl rfl rfl rfl rfl ⟨rfl, rfl, rfl, rfl, rfl⟩ rfl rfl rfl rfl rfl (by kernel_rfl) Tryz.func3 (by kernel_rfl)
    (of_decide_eq_true (by kernel_rfl)) (by unfold Func.isWrapper; first | (rw [if_pos (by decide +kernel)]; kernel_rfl) | (rw [if_neg (by decide +kernel)]; exact ⟨rfl, rfl⟩))
    (fun os started H enc _ F => by rw [OpenClaim.pre_eq_preRow]; exact lifted os started H enc F)

/-- No parameter wants a stand-in. -/
theorem plain (f : FuncId) (fn : Func) (hf : Tryz.pinned.checked.prog.funcNamed "gnomon/gnomonlaw5.PrintExact" = some f) (hfn : Tryz.pinned.checked.prog.funcs[f]? = some fn) :
    true = Tryz.pinned.checked.prog.looks [] ∧ ∀ (j : Nat) t, fn.params[j]? = some t → Tryz.pinned.checked.prog.wantsStandIn t = false := by
  obtain rfl : f = 3 := Option.some.inj ((show Tryz.prog.funcNamed "gnomon/gnomonlaw5.PrintExact" = some 3 by kernel_rfl).symm.trans hf) |>.symm
  obtain rfl : fn = Tryz.f3 := (Option.some.inj (Tryz.func3.symm.trans hfn)).symm
  refine ⟨by kernel_rfl, fun j t ht => ?_⟩
  rw [Tryz.params3] at ht
  have hm : t ∈ [25] := by simpa using Array.mem_of_getElem? ht
  have hall : ([25].all fun u => !Tryz.prog.wantsStandIn u) = true := by kernel_rfl
  exact (show Tryz.prog.wantsStandIn t = false by simpa using List.all_eq_true.1 hall t hm)

/-- The tied card. -/
theorem card : Rows.PrintExactCardSaid :=
  Claim7.holds_tied_plain_at .later [] _ _ _ _ said (fun _ h => by cases h) (by kernel_rfl) (fun _ h => by cases h) printExact_row_tie rfl ⟨rfl, rfl⟩ (by kernel_rfl) rfl plain (by kernel_rfl)
#print axioms card
end Go.Proofs.YtbchibmmkmldiaaGreatDoor.printExact
