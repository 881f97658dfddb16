/-
  The document's Check and Size of a program (gnomonref3's): proved is what each answers, that Check's answer is the project's, and that neither turns anything that lay.
-/
import Derived.Test.YtpildlaloclanaaFormS
import Derived.Test.YtpildlaloclanaaFormD
import Derived.Test.YtpildlaloclanaaWalked
import Derived.Test.YtpildlaloclanaaPlainD
import Derived.Test.YtpildlaloclanaaEqualR
namespace Go.Proofs.Ytpildlaloclanaa
open Go Go.RowKit

/-- What the document's Check makes of the declarations. -/
def okD (n : Int) : Bool := decide (0 ≤ n) && decide (n ≤ 2147483647)
def declF : Nd → Fm → Fm | .mk _ _ n nm _ _ _ _, f => nameF nm true ⟨f.ok && okD n, f.names⟩
def declL : List Nd → Fm → Fm
  | [], f => f
  | x :: r, f => declL r (declF x f)
theorem declL_app : ∀ (l m : List Nd) (f : Fm), declL (l ++ m) f = declL m (declL l f)
  | [], m, f => by rw [List.nil_append]; rfl
  | y :: r, m, f => by rw [List.cons_append, declL, declL]; exact declL_app r m _
theorem declL_take {l : List Nd} {i : Nat} (hi : i < l.length) (f : Fm) : declL (l.take (i + 1)) f = declF l[i] (declL (l.take i) f) := by
  rw [← List.take_append_getElem hi, declL_app]; rfl
/-- What the document's Check answers. -/
def docP (ds ss : List Nd) : Int := if (progW ds ss).bad ≠ 0 then (progW ds ss).bad else toldF (formL ss (declL ds ⟨true, true⟩))

set_option maxRecDepth 100000 in
set_option maxHeartbeats 8000000 in
theorem rcheck_any (ds ss : List Nd) (v0 v1 : Value) (w : World) (hd : SlIn w .D ds v0) (hs : SlIn w .S ss v1) :
    Calls Try.prog 8 #[.agg #[v0, v1]] w (fun e w' => e = .returned (.int .i64 (docP ds ss)) ∧ Below w.heap.size w w') := by
  have hb0 : Below w.heap.size w (w.alloc (.cells #[v0, v1] 25)) := (Below.refl _ w).alloc (Nat.le_refl _) _
  have hC := walked_any ds ss v0 v1 (w.alloc (.cells #[v0, v1] 25)) (hd.keep (keeps_below hb0)) (hs.keep (keeps_below hb0))
  unfold docP
  obtain ⟨Q, hQ⟩ : ∃ Q, progW ds ss = Q := ⟨_, rfl⟩
  rw [hQ] at hC ⊢
  clear hQ
  unfold Wk.cells at hC
  obtain ⟨a0, c0, rfl, hlc0, hcm1, hrow0⟩ := hd
  obtain ⟨a1, c1, rfl, hlc1, hcm2, hrow1⟩ := hs
  have HROW1 := Lib.hid hrow0; clear hrow0
  have HROW2 := Lib.hid hrow1; clear hrow1
  have HC := Lib.hid hC; clear hC
  have HBW := Lib.hid hb0; clear hb0
  by_cases hz : Q.bad = 0
  · rw [if_neg (by simpa using hz)]
    have hz2 : (Q.bad != 0) = false := by simpa using hz
    clear hz
    obtain ⟨R, hR⟩ : ∃ R, toldF (formL ss (declL ds ⟨true, true⟩)) = R := ⟨_, rfl⟩
    rw [hR]
    have HR := Lib.hid hR; clear hR
    go_enter Try.func8, Try.ntmps8
    go_upto_block 0 with (first | (go_at_call 26; (with_reducible refine HC.out.mono ?_); rintro e w1 ⟨rfl, hb1⟩) | fail)
    clear hz2
    have hbw1 : Below w.heap.size w w1 := HBW.out.trans (hb1.mono HBW.out.size)
    have hs1 : w.heap.size < w1.heap.size := by have := hb1.size; simp at this; omega
    obtain ⟨W1, hW1⟩ : ∃ W1, (w1.alloc (.cells #[.int .i64 Q.n, .int .i64 Q.dep, .int .i64 Q.bad] 58)).alloc (.cells #[.bool true, .bool true] 61) = W1 := ⟨_, rfl⟩
    have hb : Below w.heap.size w W1 := by
      rw [← hW1]
      exact (hbw1.alloc hbw1.size _).alloc (by have := hbw1.size; simp; omega) _
    have hP1 : Blk W1 w.heap.size #[.slice a0 ds.length c0, .slice a1 ss.length c1] 25 := by
      rw [← hW1]
      have h := (Blk.new w #[.slice a0 ds.length c0, .slice a1 ss.length c1] 25).below hb1 (by simp)
      exact (h.alloc _).alloc _
    obtain ⟨B, hB⟩ : ∃ B, w1.heap.size + 1 = B := ⟨_, rfl⟩
    have hB1 : Blk W1 B (Fm.cells ⟨true, true⟩) 61 := by
      rw [← hW1, ← hB]
      have h := Blk.new (w1.alloc (.cells #[.int .i64 Q.n, .int .i64 Q.dep, .int .i64 Q.bad] 58)) #[.bool true, .bool true] 61
      rw [World.size_alloc] at h
      exact h
    rw [hB, hW1]
    have hne : w.heap.size ≠ B := by omega
    have hB0 : w.heap.size ≤ B := by omega
    have hb1' := Lib.hid hb; clear hb hb1 hbw1 hs1 hW1 hB HC HBW
    have HB1 := Lib.hid hB1; clear hB1
    have HX1 := Lib.hid hP1; clear hP1
    have HO1 := Lib.hid (Only.refl B W1)
    go_cut [5] (fun _ wx => Blk wx B (declL ds ⟨true, true⟩).cells 61 ∧ Blk wx w.heap.size #[.slice a0 ds.length c0, .slice a1 ss.length c1] 25 ∧ Only B W1 wx)
    case first =>
      go_wp2_with fail
      go_loopw [5] (fun x wr => ∃ i : Nat, x = .int .i64 i ∧ i ≤ ds.length ∧ Blk wr B (declL (ds.take i) ⟨true, true⟩).cells 61 ∧ Blk wr w.heap.size #[.slice a0 ds.length c0, .slice a1 ss.length c1] 25 ∧ Only B W1 wr) (fun x _ => ds.length - (intOf x).toNat)
      case atStart => exact ⟨0, rfl, by omega, by rw [List.take_zero, declL]; exact HB1.out, HX1.out, HO1.out⟩
      case round =>
        obtain ⟨i, rfl, hi, hBr, hXr, hOr⟩ := hrel
        clear HB1 HX1 HO1
        have e3 : wr.cell? ⟨w.heap.size, 0, none⟩ = some (.slice a0 ds.length c0) := hXr.cell 0
        have htk := fun h => declL_take (l := ds) (i := i) h ⟨true, true⟩
        have HX := Lib.hid hXr; clear hXr
        have HO := Lib.hid hOr; clear hOr
        by_cases hlt2 : i < ds.length
        · have hbi : (i : Int) + 1 ≤ 9223372036854775807 := by unfold maxLen at hcm1; omega
          have htk2 := htk hlt2
          clear htk
          obtain ⟨S, hS⟩ : ∃ S, declL (ds.take i) ⟨true, true⟩ = S := ⟨_, rfl⟩
          rw [hS] at hBr htk2
          clear hS
          have hxl : ¬ ds.length = 0 := by omega
          obtain ⟨b, o, rfl, hrow⟩ := HROW1.out.resolve_left hxl
          have hold : Below w.heap.size w wr := hb1'.out.trans (HO.out.old (by omega) hb1'.out.size)
          obtain ⟨hty, u0, u1, m0, m1, hnd⟩ := SlIn.item2 rfl hrow i hlt2
          have hbl : b < w.heap.size := World.block_lt_of_cell? w ⟨b, _, none⟩ m0
          have kk := keeps_below hold
          have k0 := kk _ _ _ m0
          have k1 := kk _ _ _ m1
          obtain ⟨X, hX⟩ : ∃ X, ds[i] = X := ⟨_, rfl⟩
          rw [hX] at hnd hty htk2
          clear hX m0 m1 kk hold hrow
          obtain ⟨ty, k, n, nm, xs, cs, ts, es⟩ := X
          simp only [Nd.ty] at hty
          subst hty
          unfold NdIn at hnd
          obtain ⟨hz, -, -, hnm, vx, vc, vt, ve, hvs, -⟩ := hnd
          simp only [lay, List.cons.injEq, and_true] at hvs
          obtain ⟨rfl, rfl⟩ := hvs
          clear hz
          simp only [declF] at htk2
          obtain ⟨ok, names⟩ := S
          have HTK := Lib.hid htk2; clear htk2
          have hb0 : wr.cell? ⟨B, 0, none⟩ = some (.bool ok) := hBr.cell 0
          have hf0 := hBr.free 0
          have HBr := Lib.hid hBr; clear hBr
          have HNM := Lib.hid hnm; clear hnm
          have hnb : b ≠ B := by omega
          go_upto_region 8 with fail
          go_cut [42] (fun _ wx => Blk wx B (Fm.cells ⟨ok && okD n, names⟩) 61 ∧ Blk wx w.heap.size #[.slice (some ⟨b, o, none⟩) ds.length c0, .slice a1 ss.length c1] 25 ∧ Only B W1 wx)
          case first =>
            cases ok with
            | false =>
              go_wp2_with fail
              go_meet
              exact ⟨by rw [Bool.false_and]; exact HBr.out.set 0 (.bool false), HX.out.only ((Only.refl B _).setCell (by rfl) _) hne, HO.out.setCell (by rfl) _⟩
            | true =>
            cases h1 : decide (0 ≤ n) with
            | false =>
              have e : okD n = false := by unfold okD; rw [h1]; rfl
              have E := Lib.hid e; clear e
              go_wp2_with fail
              go_meet
              exact ⟨by rw [E.out]; exact HBr.out.set 0 (.bool false), HX.out.only ((Only.refl B _).setCell (by rfl) _) hne, HO.out.setCell (by rfl) _⟩
            | true =>
              cases h2 : decide (n ≤ 2147483647) with
              | false =>
                have e : okD n = false := by unfold okD; rw [h1, h2]; rfl
                have E := Lib.hid e; clear e
                go_wp2_with fail
                go_meet
                exact ⟨by rw [E.out]; exact HBr.out.set 0 (.bool false), HX.out.only ((Only.refl B _).setCell (by rfl) _) hne, HO.out.setCell (by rfl) _⟩
              | true =>
                have e : okD n = true := by unfold okD; rw [h1, h2]; rfl
                have E := Lib.hid e; clear e
                go_wp2_with fail
                go_meet
                exact ⟨by rw [E.out]; exact HBr.out.set 0 (.bool true), HX.out.only ((Only.refl B _).setCell (by rfl) _) hne, HO.out.setCell (by rfl) _⟩
          case rest =>
            obtain ⟨hB2, hX2, hO2⟩ := hcut
            have k0 : wc.cell? ⟨b, o + i * 2, none⟩ = some (.string nm) := by
              have h := (HO.out.block b (by have := hb1'.out.size; omega) hnb)
              have h2 := (hO2.block b (by have := hb1'.out.size; omega) hnb)
              exact (World.cell?_of_block (a := ⟨b, o + i * 2, none⟩) (h2.trans h.symm)).trans k0
            have e3 : wc.cell? ⟨w.heap.size, 0, none⟩ = some (.slice (some ⟨b, o, none⟩) ds.length c0) := hX2.cell 0
            have HC := Lib.hid (fname_any nm true ⟨ok && okD n, names⟩ B wc HNM.out hB2)
            clear k1 hb0 hf0 HBr HX HO
            have HX := Lib.hid hX2; clear hX2
            have HO := Lib.hid hO2; clear hO2
            clear hB2
            go_wp2_with fail
            refine HC.out.mono ?_
            rintro e w2 ⟨rfl, hB3, hO3⟩
            rw [← HTK.out] at hB3
            have hX3 := HX.out.only hO3 hne
            have hO4 := HO.out.trans hO3
            have HB3 := Lib.hid hB3; clear hB3
            have HX3 := Lib.hid hX3; clear hX3
            clear hO3
            have HO4 := Lib.hid hO4; clear hO4
            go_wp2_with fail
            go_roundw
            case rel => exact ⟨i + 1, by go_num, by omega, HB3.out, HX3.out, HO4.out⟩
            case measure => simp [intOf]; omega
        · obtain rfl : i = ds.length := by omega
          rw [List.take_length] at hBr
          have HBr := Lib.hid hBr; clear hBr
          clear htk
          go_wp2_with fail
          go_meet
          exact ⟨HBr.out, HX.out, HO.out⟩
    case rest =>
      obtain ⟨hB2, hX2, hO2⟩ := hcut
      have HB2 := Lib.hid hB2; clear hB2
      have HX2 := Lib.hid hX2; clear hX2
      have HO2 := Lib.hid hO2; clear hO2
      clear HB1 HX1 HO1 HROW1
      obtain ⟨S1, hS1⟩ : ∃ S, declL ds ⟨true, true⟩ = S := ⟨_, rfl⟩
      rw [hS1] at HB2 HR
      clear hS1
      go_upto_block 2 with fail
      go_cut [6] (fun _ wx => Blk wx B (formL ss S1).cells 61 ∧ Blk wx w.heap.size #[.slice a0 ds.length c0, .slice a1 ss.length c1] 25 ∧ Only B W1 wx)
      case first =>
        go_wp2_with fail
        go_loopw [6] (fun x wr => ∃ i : Nat, x = .int .i64 i ∧ i ≤ ss.length ∧ Blk wr B (formL (ss.take i) S1).cells 61 ∧ Blk wr w.heap.size #[.slice a0 ds.length c0, .slice a1 ss.length c1] 25 ∧ Only B W1 wr) (fun x _ => ss.length - (intOf x).toNat)
        case atStart => exact ⟨0, rfl, by omega, by rw [List.take_zero, formL]; exact HB2.out, HX2.out, HO2.out⟩
        case round =>
          obtain ⟨i, rfl, hi, hBr, hXr, hOr⟩ := hrel
          clear HB2 HX2 HO2
          have e3 : wr.cell? ⟨w.heap.size, 1, none⟩ = some (.slice a1 ss.length c1) := hXr.cell 1
          have b2 : wr.cell? ⟨B, 0, none⟩ = some (.bool (formL (ss.take i) S1).ok) := hBr.cell 0
          have hstop := formL_stop (l := ss) (i := i) (f := S1)
          have htk := fun h => formL_take (l := ss) (i := i) h S1
          have HX := Lib.hid hXr; clear hXr
          have HO := Lib.hid hOr; clear hOr
          by_cases hlt2 : i < ss.length
          · have hbi : (i : Int) + 1 ≤ 9223372036854775807 := by unfold maxLen at hcm2; omega
            obtain ⟨S, hS⟩ : ∃ S, formL (ss.take i) S1 = S := ⟨_, rfl⟩
            rw [hS] at hBr b2 hstop htk
            clear hS
            have HBr := Lib.hid hBr; clear hBr
            have hxl : ¬ ss.length = 0 := by omega
            obtain ⟨b, o, rfl, hrow⟩ := HROW2.out.resolve_left hxl
            cases hb : S.ok with
            | true =>
              rw [hb] at b2
              have hold : Below w.heap.size w wr := hb1'.out.trans (HO.out.old (by omega) hb1'.out.size)
              obtain ⟨hty, u0, u1, u2, u3, u4, u5, m0, m1, m2, m3, m4, m5, hnd⟩ := SlIn.item6 rfl hrow i hlt2
              have kk := keeps_below hold
              have k0 := kk _ _ _ m0
              have k1 := kk _ _ _ m1
              have k2 := kk _ _ _ m2
              have k3 := kk _ _ _ m3
              have k4 := kk _ _ _ m4
              have k5 := kk _ _ _ m5
              have HC := Lib.hid (fstmt_any w B hB0 _ ss[i] u0 u1 u2 u3 u4 u5 S wr (Nat.le_refl _) hty hnd hold HBr.out)
              have HTK := Lib.hid (htk hlt2 hb)
              clear m0 m1 m2 m3 m4 m5 hnd hty hold kk hstop htk hrow hb
              go_wp2_with fail
              refine HC.out.mono ?_
              rintro e w2 ⟨rfl, hB2, hO2⟩
              rw [← HTK.out] at hB2
              have hX2 := HX.out.only hO2 hne
              have hO3 := HO.out.trans hO2
              have HB2 := Lib.hid hB2; clear hB2
              have HX2 := Lib.hid hX2; clear hX2
              clear hO2
              have HO3 := Lib.hid hO3; clear hO3
              go_wp2_with fail
              go_roundw
              case rel => exact ⟨i + 1, by go_num, by omega, HB2.out, HX2.out, HO3.out⟩
              case measure => simp [intOf]; omega
            | false =>
              rw [hb] at b2
              have HST := Lib.hid (hstop hb)
              clear hstop htk hb
              go_wp2_with fail
              go_meet
              exact ⟨by rw [HST.out]; exact HBr.out, HX.out, HO.out⟩
          · obtain rfl : i = ss.length := by omega
            rw [List.take_length] at hBr
            have HBr := Lib.hid hBr; clear hBr
            clear hstop htk b2
            go_wp2_with fail
            go_meet
            exact ⟨HBr.out, HX.out, HO.out⟩
      case rest =>
        obtain ⟨hB3, hX3, hO3⟩ := hcut
        clear HB2 HX2 HO2 HROW2 hX3
        obtain ⟨G, hG⟩ : ∃ G, formL ss S1 = G := ⟨_, rfl⟩
        rw [hG] at hB3 HR
        clear hG
        have l0 : wc.cell? ⟨B, 0, none⟩ = some (.bool G.ok) := hB3.cell 0
        have l1 : wc.cell? ⟨B, 1, none⟩ = some (.bool G.names) := hB3.cell 1
        have HO3 := Lib.hid hO3; clear hO3 hB3
        have HT := Lib.hid (told_any G wc)
        rw [HR.out] at HT
        go_wp2_with (first | (go_at_call 29; (with_reducible refine HT.out.mono ?_); rintro e w3 ⟨rfl, hb3⟩) | fail)
        go_ret
        have hb := hb1'.out.trans (HO3.out.old (by omega) hb1'.out.size)
        exact ⟨rfl, hb.trans (hb3.mono hb.size)⟩
  · rw [if_pos (by simpa using hz)]
    have hz2 : (Q.bad != 0) = true := by simpa using hz
    clear hz
    go_enter Try.func8, Try.ntmps8
    go_wp2_with (first | (go_at_call 26; (with_reducible refine HC.out.mono ?_); rintro e w1 ⟨rfl, hb1⟩) | fail)
    go_ret
    have hbw1 : Below w.heap.size w w1 := HBW.out.trans (hb1.mono HBW.out.size)
    exact ⟨rfl, hbw1.alloc hbw1.size _⟩

theorem formed_D : ∀ (ds : List Nd) (f : Fm), fitL .D ds → Formed (allL ds) f (declL ds f)
  | [], f, _ => by rw [allL, declL]; exact Formed.nil f
  | x :: r, f, h => by
    unfold fitL at h
    obtain ⟨hty, hx, hr⟩ := h
    rw [allL, declL]
    refine Formed.app ?_ (formed_D r _ hr)
    obtain ⟨ty, k, n, nm, xs, cs, ts, es⟩ := x
    simp only [Nd.ty] at hty
    subst hty
    unfold fitN at hx
    obtain ⟨⟨rfl, rfl, rfl, rfl, rfl⟩, -⟩ := hx
    have e : allN (.mk .D 0 n nm [] [] [] []) = [.mk .D 0 n nm [] [] [] []] := by
      unfold allN
      simp
    rw [e]
    refine Formed.one ?_ ?_
    · simp only [declF, nameF, if_true, wellN, wellD, okD]
      rw [Bool.not_or]
      congr 2
      · simp [← decide_not]
      · simp [← decide_not]
    · simp [declF, nameF, named, namelessB, mustN, ownNm]
theorem docP_same {ds ss : List Nd} (hd : fitL .D ds) (hs : ∀ y ∈ allL ss, y.ty ≠ .D) : docP ds ss = faultT (progT ds ss) := by
  unfold docP faultT
  rw [progW_T]
  by_cases hz : (progT ds ss).lim = 0
  · rw [if_neg (by simpa using hz), if_neg (by simpa using hz), progT_list hz, allL_app]
    obtain ⟨h1, h2⟩ := (formed_D ds ⟨true, true⟩ hd).app (formed_L ss (declL ds ⟨true, true⟩) hs)
    simp only [Bool.true_and] at h1 h2
    have ea : (allL ds ++ allL ss).any (fun x => !wellN x) = !(allL ds ++ allL ss).all wellN := by rw [List.not_all_eq_any_not]
    have eb : (allL ds ++ allL ss).any namelessB = !(allL ds ++ allL ss).all named := by
      rw [List.not_all_eq_any_not]
      congr 1
      funext y
      simp [named]
    rw [ea, eb]
    unfold toldF
    rw [h1] at h2 ⊢
    cases hw : (allL ds ++ allL ss).all wellN with
    | false => rfl
    | true =>
      rw [h2 hw]
      cases (allL ds ++ allL ss).all named <;> rfl
  · rw [if_pos (by simpa using hz), if_pos (by simpa using hz)]
theorem noD_list {w : World} {l : List Nd} {v : Value} (h : SlIn w .S l v) : ∀ y ∈ allL l, y.ty ≠ .D := noD_sl (ty := .S) (fun b o => noD_L w .S l (by decide) b o) h
theorem progW_match (ds ss : List Nd) : Match (progW ds ss) (progT ds ss) :=
  match_if (F := fun s => walkL ss 1 s) (fun s hs => walkL_bad ss 1 s hs) (match_L ds 1 ⟨0, 0, 0⟩ ⟨[], 0, 0⟩ ⟨rfl, rfl, rfl⟩ rfl) (fun hz => match_L ss 1 _ _ (match_L ds 1 ⟨0, 0, 0⟩ ⟨[], 0, 0⟩ ⟨rfl, rfl, rfl⟩ rfl) hz)

set_option maxRecDepth 100000 in
set_option maxHeartbeats 4000000 in
theorem rsize_any (ds ss : List Nd) (v0 v1 : Value) (w : World) (hd : SlIn w .D ds v0) (hs : SlIn w .S ss v1) :
    Calls Try.prog 13 #[.agg #[v0, v1]] w (fun e w' => e = .returned (.tuple #[.int .i64 (progW ds ss).dep, .int .i64 (progW ds ss).n]) ∧ Below w.heap.size w w') := by
  have hb0 : Below w.heap.size w (w.alloc (.cells #[v0, v1] 25)) := (Below.refl _ w).alloc (Nat.le_refl _) _
  have hC := walked_any ds ss v0 v1 (w.alloc (.cells #[v0, v1] 25)) (hd.keep (keeps_below hb0)) (hs.keep (keeps_below hb0))
  obtain ⟨Q, hQ⟩ : ∃ Q, progW ds ss = Q := ⟨_, rfl⟩
  rw [hQ] at hC ⊢
  clear hQ
  unfold Wk.cells at hC
  obtain ⟨a0, c0, rfl, -⟩ := hd
  obtain ⟨a1, c1, rfl, -⟩ := hs
  have HC := Lib.hid hC; clear hC
  have HBW := Lib.hid hb0; clear hb0
  go_enter Try.func13, Try.ntmps13
  go_upto_region 2 with (first | (go_at_call 26; (with_reducible refine HC.out.mono ?_); rintro e w1 ⟨rfl, hb1⟩) | fail)
  have hbw1 : Below w.heap.size w w1 := HBW.out.trans (hb1.mono HBW.out.size)
  obtain ⟨W1, hW1⟩ : ∃ W1, w1.alloc (.cells #[.int .i64 Q.n, .int .i64 Q.dep, .int .i64 Q.bad] 58) = W1 := ⟨_, rfl⟩
  have hb : Below w.heap.size w W1 := by rw [← hW1]; exact hbw1.alloc hbw1.size _
  have hX : Blk W1 w1.heap.size #[.int .i64 Q.n, .int .i64 Q.dep, .int .i64 Q.bad] 58 := by rw [← hW1]; exact Blk.new w1 _ _
  rw [hW1]
  have x0 : W1.cell? ⟨w1.heap.size, 0, none⟩ = some (.int .i64 Q.n) := hX.cell 0
  have x1 : W1.cell? ⟨w1.heap.size, 1, none⟩ = some (.int .i64 Q.dep) := hX.cell 1
  have HB := Lib.hid hb; clear hb hX hbw1 hb1 hW1 HC HBW
  go_region
  go_wp2_with fail
  go_ret2
  exact ⟨rfl, HB.out.drew⟩
end Go.Proofs.Ytpildlaloclanaa
