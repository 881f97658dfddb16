/-
  gnomonhelp.Outcome: proved is that it answers true for two outcomes that say the same.
-/
import Derived.Test.YtbhbmoppipohjaaQOnP
import Derived.Test.YtbhbmoppipohjaaQFamB
/-
  begins: proved is that it answers true where the first events begin with the second ones.
-/
namespace Go.Proofs.Ytbhbmoppipohjaa
open Go Go.RowKit Go.Maps

theorem cells_at (l : List (Bool × Int × Bool)) (i : Nat) (hi : i < l.length) : (cellsV l)[i * 3]? = some (.bool l[i].1) ∧ (cellsV l)[i * 3 + 1]? = some (.int .i64 l[i].2.1) ∧ (cellsV l)[i * 3 + 2]? = some (.bool l[i].2.2) := by
  induction l generalizing i with
  | nil => simp at hi
  | cons x r ih =>
    have e : cellsV (x :: r) = [.bool x.1, .int .i64 x.2.1, .bool x.2.2] ++ cellsV r := rfl
    rw [e]
    cases i with
    | zero => exact ⟨rfl, rfl, rfl⟩
    | succ i =>
      obtain ⟨h1, h2, h3⟩ := ih i (by simpa using hi)
      rw [show (i + 1) * 3 = i * 3 + 3 by omega]
      exact ⟨h1, h2, h3⟩
set_option maxRecDepth 100000 in
set_option maxHeartbeats 4000000 in
theorem begins_any (l m u : List (Bool × Int × Bool)) (hl : l = m ++ u) (lo lo' : Nat) (v v' : Value) (w : World) (h1 : EvsIn w lo l v) (h2 : EvsIn w lo' m v') (hf : l.length ≤ 65536) :
    Calls Try.prog 6 #[v, v'] w (fun e w' => e = .returned (.bool true) ∧ Below w.heap.size w w') := by
  obtain ⟨a, c, rfl, hc1, hc2, hr⟩ := h1
  obtain ⟨a', c', rfl, hd1, hd2, hr'⟩ := h2
  have hle : m.length ≤ l.length := by rw [hl]; simp
  have t0 : decide (l.length < m.length) = false := by simp <;> omega
  have hitem : ∀ i (hi : i < m.length) (hi2 : i < l.length), l[i] = m[i] := by
    intro i hi hi2
    subst hl
    rw [List.getElem_append_left hi]
  have HI := Lib.hid hitem
  have HC1 := Lib.hid hr
  have HC2 := Lib.hid hr'
  have HL := Lib.hid hle
  have HF := Lib.hid hf
  clear hitem hr hr' hc1 hc2 hd1 hd2 hl hle hf
  go_enter Try.func6, Try.ntmps6
  go_wp2_with fail
  go_loopw [5] (fun x wr => ∃ i : Nat, x = .int .i64 i ∧ i ≤ m.length ∧ Below w.heap.size w wr) (fun x _ => m.length - (intOf x).toNat)
  case atStart => exact ⟨0, rfl, by omega, Below.refl _ _⟩
  case round =>
    obtain ⟨i, rfl, hi, hbr⟩ := hrel
    by_cases hlt : i < m.length
    · have hlt2 : i < l.length := by have := HL.out; omega
      have hbi : (i : Int) + 1 ≤ 9223372036854775807 := by have := HL.out; have := HF.out; omega
      have hxl : ¬ l.length = 0 := by omega
      have hxl2 : ¬ m.length = 0 := by omega
      obtain ⟨g, rfl, -, hcell⟩ := HC1.out.resolve_left hxl
      obtain ⟨g', rfl, -, hcell'⟩ := HC2.out.resolve_left hxl2
      obtain ⟨q0, q1, q2⟩ := cells_at l i hlt2
      obtain ⟨p0, p1, p2⟩ := cells_at m i hlt
      rw [← HI.out i hlt hlt2] at p0 p1 p2
      obtain ⟨X, Y, Z⟩ := l[i]
      have up : ∀ {b o : Nat} {u : Value}, w.cell? ⟨b, o, none⟩ = some u → wr.cell? ⟨b, o, none⟩ = some u := fun h => keeps_below hbr _ _ _ h
      have m0 := up (hcell _ _ q0)
      have m1 := up (hcell _ _ q1)
      have m2 := up (hcell _ _ q2)
      have n0 := up (hcell' _ _ p0)
      have n1 := up (hcell' _ _ p1)
      have n2 := up (hcell' _ _ p2)
      clear up q0 q1 q2 p0 p1 p2 hcell hcell' hxl hxl2
      have HBR := Lib.hid hbr; clear hbr
      go_upto_region 6 with fail
      go_cut [25] (fun s wx => s = .bool false ∧ Below w.heap.size w wx)
      case first =>
        go_region
        go_wp2_with fail
        go_meet
        exact ⟨by simp, HBR.out.drew⟩
      case rest =>
        obtain ⟨rfl, hb⟩ := hcut
        clear m0 m1 m2 n0 n1 n2 HBR
        go_wp2_with fail
        go_roundw
        case rel => exact ⟨i + 1, by go_num, by omega, hb⟩
        case measure => simp [intOf]; omega
    · obtain rfl : i = m.length := by omega
      go_wp2_with fail
      go_ret
      exact ⟨rfl, hbr⟩
end Go.Proofs.Ytbhbmoppipohjaa

/-
  Longs: proved is that it answers true for two slices that hold the same numbers.
-/
namespace Go.Proofs.Ytbhbmoppipohjaa
open Go Go.RowKit Go.Maps

set_option maxRecDepth 100000 in
set_option maxHeartbeats 4000000 in
theorem longs_any (l : List Int) (lo lo' : Nat) (v v' : Value) (w : World) (h1 : IntsIn w lo l v) (h2 : IntsIn w lo' l v') :
    Calls Try.prog 12 #[v, v'] w (fun e w' => e = .returned (.bool true) ∧ Below w.heap.size w w') := by
  obtain ⟨b, c, rfl, hc1, hc2, hb0, hr⟩ := h1
  obtain ⟨b', c', rfl, hd1, hd2, hb0', hr'⟩ := h2
  have HC1 := Lib.hid hr
  have HC2 := Lib.hid hr'
  have HF := Lib.hid (show l.length ≤ maxLen by omega)
  clear hr hr' hc1 hc2 hd1 hd2 hb0 hb0'
  go_enter Try.func12, Try.ntmps12
  go_wp2_with fail
  go_loopw [5] (fun x wr => ∃ i : Nat, x = .int .i64 i ∧ i ≤ l.length ∧ Below w.heap.size w wr) (fun x _ => l.length - (intOf x).toNat)
  case atStart => exact ⟨0, rfl, by omega, Below.refl _ _⟩
  case round =>
    obtain ⟨i, rfl, hi, hbr⟩ := hrel
    by_cases hlt : i < l.length
    · have hbi : (i : Int) + 1 ≤ 9223372036854775807 := by have := HF.out; unfold maxLen at this; omega
      have m0 := keeps_below hbr _ _ _ (HC1.out i hlt)
      have n0 := keeps_below hbr _ _ _ (HC2.out i hlt)
      obtain ⟨X, hX⟩ : ∃ X, l[i] = X := ⟨_, rfl⟩
      rw [hX] at m0 n0
      clear hX
      have HBR := Lib.hid hbr; clear hbr
      go_upto_region 6 with fail
      go_cut [25] (fun s wx => s = .bool false ∧ Below w.heap.size w wx)
      case first =>
        go_region
        go_wp2_with fail
        go_meet
        exact ⟨by simp, HBR.out.drew⟩
      case rest =>
        obtain ⟨rfl, hb⟩ := hcut
        clear m0 n0 HBR
        go_wp2_with fail
        go_roundw
        case rel => exact ⟨i + 1, by go_num, by omega, hb⟩
        case measure => simp [intOf]; omega
    · obtain rfl : i = l.length := by omega
      go_wp2_with fail
      go_ret
      exact ⟨rfl, hbr⟩
end Go.Proofs.Ytbhbmoppipohjaa

/-
  gnomonhelp.Outcome: proved is that it answers true for two outcomes that say the same.
-/
namespace Go.Proofs.Ytbhbmoppipohjaa
open Go Go.RowKit Go.Maps

set_option maxRecDepth 100000 in
set_option maxHeartbeats 8000000 in
theorem outcome_any (o : Int × Int × Rn) (lo lo' : Nat) (v v' : Value) (w : World) (h1 : OutIn w lo o v) (h2 : OutIn w lo' o v') :
    Calls Try.prog 7 #[v, v'] w (fun e w' => e = .returned (.bool true) ∧ Below w.heap.size w w') := by
  obtain ⟨st, wg, s⟩ := o
  obtain ⟨ve, vv, va, rfl, hev, hiv, hav, hs, hel, hvl, hal⟩ := h1
  obtain ⟨ve', vv', va', rfl, hev', hiv', hav', -⟩ := h2
  simp only at hev hiv hav hs hel hvl hal hev' hiv' hav' ⊢
  have HLV := Lib.hid (fun W (hb : Below w.heap.size w W) => longs_any s.vars lo lo' vv vv' W (hiv.next (fun b o u _ h => keeps_below hb b o u h)) (hiv'.next (fun b o u _ h => keeps_below hb b o u h)))
  have HBW := Lib.hid (fun (o1 o2 : Obj) => ((Below.refl w.heap.size w).alloc (Nat.le_refl _) o1).alloc (by simp) o2)
  obtain ⟨b3, c3, rfl, -⟩ := hiv
  obtain ⟨b4, c4, rfl, -⟩ := hiv'
  obtain ⟨e1, e2, rfl, -, -, hE⟩ := hev
  obtain ⟨e3, e4, rfl, -, -, hE'⟩ := hev'
  obtain ⟨r1, r2, rfl, -, -, hR⟩ := hav
  obtain ⟨r3, r4, rfl, -, -, hR'⟩ := hav'
  have HE := Lib.hid (And.intro hE hE')
  have HR := Lib.hid (And.intro hR hR')
  have HS := Lib.hid (And.intro hs (And.intro hel (And.intro hvl hal)))
  clear hE hE' hR hR' hs hel hvl hal
  obtain ⟨B1, hB1⟩ : ∃ d, w.heap.size + 1 = d := ⟨_, rfl⟩
  have HB1 := Lib.hid hB1
  clear hB1
  go_enter Try.func7, Try.ntmps7
  go_wp2_with (first | (go_at_call 12; (with_reducible refine (HLV.out _ (HBW.out _ _)).mono ?_); rintro e w1 ⟨rfl, hb1⟩; have HW1 := Lib.hid (And.intro (((Blk.new w _ _).alloc _).next hb1) (And.intro ((Blk.at (b := w.heap.size + 1) (by simp)).next hb1) ((HBW.out _ _).trans (hb1.mono (HBW.out _ _).size)))); clear hb1; have p5 : w1.cell? ⟨w.heap.size, 5, none⟩ = some (.slice r1 s.arrs.length r2) := HW1.out.1.cell 5; have q5 : w1.cell? ⟨w.heap.size + 1, 5, none⟩ = some (.slice r3 s.arrs.length r4) := HW1.out.2.1.cell 5) | fail)
  clear p5 q5
  go_loopw [5] (fun x wr => ∃ i : Nat, x = .int .i64 i ∧ i ≤ s.evs.length ∧ Below w1.heap.size w1 wr) (fun x _ => s.evs.length - (intOf x).toNat)
  case atStart => exact ⟨0, rfl, by omega, Below.refl _ _⟩
  case round =>
    obtain ⟨i, rfl, hi, hbr⟩ := hrel
    have c0 : wr.cell? ⟨w.heap.size, 3, none⟩ = some (.slice e1 s.evs.length e2) := (HW1.out.1.next hbr).cell 3
    have d0 : wr.cell? ⟨w.heap.size + 1, 3, none⟩ = some (.slice e3 s.evs.length e4) := (HW1.out.2.1.next hbr).cell 3
    by_cases hlt : i < s.evs.length
    · have hbi : (i : Int) + 1 ≤ 9223372036854775807 := by have := HS.out.1; have := HS.out.2.1; omega
      have hxl : ¬ s.evs.length = 0 := by omega
      obtain ⟨g, rfl, -, hcell⟩ := HE.out.1.resolve_left hxl
      obtain ⟨g', rfl, -, hcell'⟩ := HE.out.2.resolve_left hxl
      obtain ⟨q0, q1, q2⟩ := cells_at s.evs i hlt
      obtain ⟨X, Y, Z⟩ := s.evs[i]
      have up : ∀ {b o : Nat} {u : Value}, w.cell? ⟨b, o, none⟩ = some u → wr.cell? ⟨b, o, none⟩ = some u := fun h => keeps_below hbr _ _ _ (keeps_below HW1.out.2.2 _ _ _ h)
      have m0 := up (hcell _ _ q0)
      have m1 := up (hcell _ _ q1)
      have m2 := up (hcell _ _ q2)
      have n0 := up (hcell' _ _ q0)
      have n1 := up (hcell' _ _ q1)
      have n2 := up (hcell' _ _ q2)
      clear up q0 q1 q2 hcell hcell' hxl
      have HBR := Lib.hid hbr; clear hbr
      go_upto_region 6 with fail
      go_cut [69] (fun s wx => s = .bool false ∧ Below w1.heap.size w1 wx)
      case first =>
        go_region
        go_wp2_with fail
        go_meet
        exact ⟨by simp, HBR.out.drew⟩
      case rest =>
        obtain ⟨rfl, hb⟩ := hcut
        clear m0 m1 m2 n0 n1 n2 HBR c0 d0
        go_wp2_with fail
        go_roundw
        case rel => exact ⟨i + 1, by go_num, by omega, hb⟩
        case measure => simp [intOf]; omega
    · obtain rfl : i = s.evs.length := by omega
      have HBR := Lib.hid (hbr.mono HW1.out.2.2.size |> HW1.out.2.2.trans)
      have HX := Lib.hid (And.intro (HW1.out.1.next hbr) (HW1.out.2.1.next hbr))
      clear hbr hi
      go_wp2_with fail
      clear c0 d0
      obtain ⟨wm, hwm⟩ : ∃ x, x = wr := ⟨_, rfl⟩
      subst hwm
      go_loopw [6] (fun x wz => ∃ i : Nat, x = .int .i64 i ∧ i ≤ s.arrs.length ∧ Below wm.heap.size wm wz) (fun x _ => s.arrs.length - (intOf x).toNat)
      case atStart => exact ⟨0, rfl, by omega, Below.refl _ _⟩
      case round =>
        obtain ⟨i, rfl, hi, hbz⟩ := hrel
        have c0 : wr.cell? ⟨w.heap.size, 5, none⟩ = some (.slice r1 s.arrs.length r2) := (HX.out.1.next hbz).cell 5
        have d0 : wr.cell? ⟨w.heap.size + 1, 5, none⟩ = some (.slice r3 s.arrs.length r4) := (HX.out.2.next hbz).cell 5
        by_cases hlt : i < s.arrs.length
        · have hbi : (i : Int) + 1 ≤ 9223372036854775807 := by have := HS.out.2.2.2; omega
          have hxl : ¬ s.arrs.length = 0 := by omega
          obtain ⟨g, rfl, -, hcell⟩ := HR.out.1.resolve_left hxl
          obtain ⟨g', rfl, -, hcell'⟩ := HR.out.2.resolve_left hxl
          obtain ⟨u, hu, hui⟩ := hcell i hlt
          obtain ⟨u', hu', hui'⟩ := hcell' i hlt
          have hww := HBR.out.trans (hbz.mono HBR.out.size)
          have m0 := keeps_below hww _ _ _ hu
          have n0 := keeps_below hww _ _ _ hu'
          have HLR := Lib.hid (fun W (hb : Below w.heap.size w W) => longs_any s.arrs[i] lo lo' u u' W (hui.next (fun b o u _ h => keeps_below hb b o u h)) (hui'.next (fun b o u _ h => keeps_below hb b o u h)))
          have HWW := Lib.hid hww.drew
          have HZZ := Lib.hid hbz
          obtain ⟨gb, gc, rfl, -⟩ := hui
          obtain ⟨gb', gc', rfl, -⟩ := hui'
          clear hww hcell hcell' hxl hu hu' hbz
          obtain ⟨L, hL⟩ : ∃ L, s.arrs[i].length = L := ⟨_, rfl⟩
          rw [hL] at HLR m0 n0
          clear hL
          go_upto_region 11 with fail
          go_cut [88] (fun s wx => s = .bool false ∧ Below wm.heap.size wm wx)
          case first =>
            go_region_with (first | (go_at_call 12; (with_reducible refine (HLR.out _ HWW.out).mono ?_); rintro e w2 ⟨rfl, hb2⟩) | fail)
            all_goals (go_wp2_with fail; go_meet; exact ⟨by simp, HZZ.out.drew.trans (hb2.mono HZZ.out.drew.size)⟩)
          case rest =>
            obtain ⟨rfl, hb⟩ := hcut
            clear m0 n0 c0 d0
            go_wp2_with fail
            go_roundw
            case rel => exact ⟨i + 1, by go_num, by omega, hb⟩
            case measure => simp [intOf]; omega
        · obtain rfl : i = s.arrs.length := by omega
          have HBZ := Lib.hid (HBR.out.trans (hbz.mono HBR.out.size))
          clear hbz hi
          go_wp2_with fail
          go_ret
          exact ⟨rfl, HBZ.out⟩
end Go.Proofs.Ytbhbmoppipohjaa
