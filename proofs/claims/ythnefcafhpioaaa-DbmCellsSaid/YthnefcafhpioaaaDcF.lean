/-
  The walk of DbmCells.
-/
import Derived.Test.YthnefcafhpioaaaDcE
namespace Go.Proofs.Ythnefcafhpioaaa
open Go Go.RowKit Go.Shelf

abbrev CF (w : World) (X Y : Nat) (cx cy : Array Value) (m : List Int) (a b : Option Addr) (W : World) : Prop := Blk W X cx 24 ∧ Blk W Y cy 24 ∧ MAt W m a ∧ MAt W m b ∧ Below w.heap.size w W
theorem cf_step {w : World} {X Y : Nat} {cx cy : Array Value} {m : List Int} {a b : Option Addr} {W W' : World} {k : Nat} (h : CF w X Y cx cy m a b W) (hb : Below k W W') (hk : k = W.heap.size) : CF w X Y cx cy m a b W' := by
  subst hk
  exact ⟨h.1.below hb h.1.lt, h.2.1.below hb h.2.1.lt, h.2.2.1.next hb, h.2.2.2.1.next hb, h.2.2.2.2.trans (hb.mono h.2.2.2.2.size)⟩
abbrev CH (B P Q : Nat) (cp cq : Array Value) (pm : List Int) (pa qa : Option Addr) (pc : Nat) (W6 W : World) : Prop := Below B W6 W ∧ Blk W P cp 24 ∧ MOwn B W pm pa pc ∧ Blk W Q cq 24 ∧ MAt W pm qa
theorem ch_step {B P Q : Nat} {cp cq : Array Value} {pm : List Int} {pa qa : Option Addr} {pc : Nat} {W6 W W' : World} (h : CH B P Q cp cq pm pa qa pc W6 W) (hb : Below W.heap.size W W') (hB : B = W6.heap.size) : CH B P Q cp cq pm pa qa pc W6 W' :=
  ⟨h.1.trans (hb.mono (by rw [hB]; exact h.1.size)), h.2.1.below hb h.2.1.lt, h.2.2.1.next hb rfl, h.2.2.2.1.below hb h.2.2.2.1.lt, h.2.2.2.2.next hb⟩
theorem octB_self (x : Oc) : octB x x = true := by unfold octB; simp
set_option maxRecDepth 100000 in
set_option maxHeartbeats 8000000 in
theorem cells_law (x : Oc) (a : Option Addr) (c : Nat) (i j q : Int) (w : World) (hm : MAt w x.m a) (hml : x.m.length ≤ maxLen) (hm8 : x.m.length * 8 ≤ 140737488355328) :
    Calls Try.prog 4 #[ocV x a c, .int .i64 i, .int .i64 j, .int .i64 q] w fun e w' => e = .returned (.bool true) ∧ Below w.heap.size w w' := by
  obtain ⟨X, hX⟩ : ∃ X, w.heap.size = X := ⟨_, rfl⟩
  obtain ⟨W1, hW1⟩ : ∃ W, w.alloc (.cells #[.int .i64 x.n, .bool x.em, .slice a x.m.length c] 24) = W := ⟨_, rfl⟩
  have hx1 : Blk W1 X #[.int .i64 x.n, .bool x.em, .slice a x.m.length c] 24 := by rw [← hW1, ← hX]; exact Blk.new w _ _
  have hb1 : Below X w W1 := by rw [← hW1, ← hX]; exact (Below.refl _ w).alloc (Nat.le_refl _) _
  have hm1 : MAt W1 x.m a := hm.next (by rw [hX]; exact hb1)
  have HKN := Lib.hid (known12_any W1)
  have HW := Lib.hid (And.intro hX hW1)
  have HCO : Hid (∀ ww : World, MAt ww x.m a → Calls Try.prog 19 #[.agg #[.int .i64 x.n, .bool x.em, .slice a x.m.length c]] ww fun e w' => ∃ a' c', e = .returned (ocV x a' c') ∧ MOwn ww.heap.size w' x.m a' c' ∧ Below ww.heap.size ww w') := Lib.hid fun ww h => copyoct_any x a c ww h hm8
  obtain ⟨gv, hgv⟩ : ∃ v, getV x i j = v := ⟨_, rfl⟩
  obtain ⟨v, ge⟩ := gv
  have HG1 : Hid (∀ (b : Option Addr) (d : Nat) (ww : World), MAt ww x.m b → Calls Try.prog 20 #[.agg #[.int .i64 x.n, .bool x.em, .slice b x.m.length d], .int .i64 i, .int .i64 j] ww fun e w' => e = .returned (.tuple #[.int .i64 v, .int .i64 ge]) ∧ Below ww.heap.size ww w') := Lib.hid fun b d ww h => by
    have h2 := get_any x b d i j ww h
    rw [hgv] at h2; exact h2
  have HG2 : Hid (∀ (b : Option Addr) (d : Nat) (ww : World), MAt ww x.m b → Calls Try.prog 21 #[.agg #[.int .i64 x.n, .bool x.em, .slice b x.m.length d], .int .i64 i, .int .i64 j] ww fun e w' => e = .returned (.tuple #[.int .i64 v, .int .i64 ge]) ∧ Below ww.heap.size ww w') := Lib.hid fun b d ww h => by
    have h2 := rget_any x b d i j ww h
    rw [hgv] at h2; exact h2
  obtain ⟨wo, hwo⟩ : ∃ v, withO x i j q = v := ⟨_, rfl⟩
  obtain ⟨⟨pn, pe, pm⟩, we⟩ := wo
  have HI1 : Hid (∀ (b : Option Addr) (d : Nat) (ww : World), MAt ww x.m b → Calls Try.prog 22 #[.agg #[.int .i64 x.n, .bool x.em, .slice b x.m.length d], .int .i64 i, .int .i64 j, .int .i64 q] ww fun e w' => ∃ a' c', e = .returned (.tuple #[.agg #[.int .i64 pn, .bool pe, .slice a' pm.length c'], .int .i64 we]) ∧ MOwn ww.heap.size w' pm a' c' ∧ Below ww.heap.size ww w') := Lib.hid fun b d ww h => by
    have h2 := with_any x b d i j q ww h hml
    rw [hwo] at h2; exact h2
  have HI2 : Hid (∀ (b : Option Addr) (d : Nat) (ww : World), MAt ww x.m b → Calls Try.prog 23 #[.agg #[.int .i64 x.n, .bool x.em, .slice b x.m.length d], .int .i64 i, .int .i64 j, .int .i64 q] ww fun e w' => ∃ a' c', e = .returned (.tuple #[.agg #[.int .i64 pn, .bool pe, .slice a' pm.length c'], .int .i64 we]) ∧ MOwn ww.heap.size w' pm a' c' ∧ Below ww.heap.size ww w') := Lib.hid fun b d ww h => by
    have h2 := rwith_any x b d i j q ww h
    rw [hwo] at h2; exact h2
  have HO1 : Hid (∀ (b b2 : Option Addr) (d d2 : Nat) (ww : World), MAt ww x.m b → MAt ww x.m b2 → Calls Try.prog 16 #[.agg #[.int .i64 x.n, .bool x.em, .slice b x.m.length d], .agg #[.int .i64 x.n, .bool x.em, .slice b2 x.m.length d2]] ww fun e w' => e = .returned (.bool true) ∧ Below ww.heap.size ww w') := Lib.hid fun b b2 d d2 ww h h2 => by
    have h3 := oct_any x x b b2 d d2 ww h h2 hml
    rw [octB_self] at h3; exact h3
  have HO2 : Hid (∀ (b b2 : Option Addr) (d d2 B : Nat) (ww : World), MOwn B ww pm b d → MAt ww pm b2 → Calls Try.prog 16 #[.agg #[.int .i64 pn, .bool pe, .slice b pm.length d], .agg #[.int .i64 pn, .bool pe, .slice b2 pm.length d2]] ww fun e w' => e = .returned (.bool true) ∧ Below ww.heap.size ww w') := Lib.hid fun b b2 d d2 B ww h h2 => by
    have h3 := oct_any ⟨pn, pe, pm⟩ ⟨pn, pe, pm⟩ b b2 d d2 ww h.mat h2 (Nat.le_trans h.1 h.2.1)
    rw [octB_self] at h3; exact h3
  have HSP : Hid (∀ (b : Option Addr) (d B : Nat) (ww : World), MOwn B ww pm b d → B ≤ ww.heap.size → Calls Try.prog 24 #[.agg #[.int .i64 pn, .bool pe, .slice b pm.length d]] ww fun e w' => (∃ v, e = .returned v) ∧ Below B ww w') := Lib.hid fun b d B ww h hB => spoil_any ⟨pn, pe, pm⟩ b d B ww h hB
  obtain ⟨n, em, m⟩ := x
  have x0 : W1.cell? ⟨X, 0, none⟩ = some (.int .i64 n) := hx1.cell 0
  have x1 : W1.cell? ⟨X, 1, none⟩ = some (.bool em) := hx1.cell 1
  have x2 : W1.cell? ⟨X, 2, none⟩ = some (.slice a m.length c) := hx1.cell 2
  have HK1 : Hid (Blk W1 X #[.int .i64 n, .bool em, .slice a m.length c] 24 ∧ MAt W1 m a ∧ Below X w W1) := Lib.hid ⟨hx1, hm1, hb1⟩
  simp only at HCO HG1 HG2 HI1 HI2 HO1 HW
  show Calls Try.prog 4 #[.agg #[.int .i64 n, .bool em, .slice a m.length c], .int .i64 i, .int .i64 j, .int .i64 q] w _
  obtain ⟨L, hL⟩ : ∃ L, m.length = L := ⟨_, rfl⟩
  obtain ⟨PL, hPL⟩ : ∃ L, pm.length = L := ⟨_, rfl⟩
  rw [hL] at x2 HW HK1 HG1 HG2 HI1 HI2 HO1 ⊢
  rw [hPL] at HI1 HI2 HO2 HSP
  have HC2 : Hid (∀ ww : World, MAt ww m a → Calls Try.prog 19 #[.agg #[.int .i64 n, .bool em, .slice a L c]] ww fun e w' => ∃ a' c', e = .returned (.agg #[.int .i64 n, .bool em, .slice a' L c']) ∧ MOwn ww.heap.size w' m a' c' ∧ Below ww.heap.size ww w') := Lib.hid fun ww h => by
    have h2 := HCO.out ww h
    unfold ocV at h2
    simp only [hL] at h2
    exact h2
  clear hX hW1 hx1 hb1 hm1 hm hml hm8 hgv hwo HCO hL hPL
  go_enter Try.func4, Try.ntmps4
  go_upto_region 1 with fail
  rw [HW.out.1, HW.out.2]
  go_upto_region 4 with (first | (go_at_call 9; (with_reducible refine HKN.out.mono ?_); rintro e w2 ⟨rfl, hb2⟩; have HK2 := Lib.hid (gt_step HK1.out hb2); have y0 := HK2.out.1.cell 0; have y1 := HK2.out.1.cell 1; have y2 := HK2.out.1.cell 2) | (go_at_call 19; (with_reducible refine (HC2.out _ HK2.out.2.1).mono ?_); rintro e w3 ⟨a3, c3, rfl, hmo3, hb3⟩) | fail)
  obtain ⟨Y, hY⟩ : ∃ Y, w3.heap.size = Y := ⟨_, rfl⟩
  obtain ⟨W4, hW4⟩ : ∃ W, w3.alloc (.cells #[.int .i64 n, .bool em, .slice a3 L c3] 24) = W := ⟨_, rfl⟩
  have H4 : Hid (CF w X Y #[.int .i64 n, .bool em, .slice a L c] #[.int .i64 n, .bool em, .slice a3 L c3] m a a3 W4) := Lib.hid (by
    have h3 := gt_step HK2.out hb3
    have hb4 : Below w3.heap.size w3 W4 := by rw [← hW4]; exact (Below.refl _ w3).alloc (Nat.le_refl _) _
    have h4 := gt_step h3 hb4
    refine ⟨h4.1, by rw [← hW4, ← hY]; exact Blk.new w3 _ _, h4.2.1, hmo3.mat.next hb4, ?_⟩
    rw [HW.out.1]; exact h4.2.2)
  rw [hW4, hY]
  have y0 := H4.out.1.cell 0
  have y1 := H4.out.1.cell 1
  have y2 := H4.out.1.cell 2
  have z0 := H4.out.2.1.cell 0
  have z1 := H4.out.2.1.cell 1
  have z2 := H4.out.2.1.cell 2
  clear hY hW4 hmo3 hb3 hb2 HK2 HK1 HC2 HKN x0 x1 x2
  go_upto_region 9 with (first | (go_at_call 20; (with_reducible refine (HG1.out _ _ _ H4.out.2.2.2.1).mono ?_); rintro e w5 ⟨rfl, hb5⟩; have H5 := Lib.hid (cf_step H4.out hb5 rfl); have y0 := H5.out.1.cell 0; have y1 := H5.out.1.cell 1; have y2 := H5.out.1.cell 2) | (go_at_call 21; (with_reducible refine (HG2.out _ _ _ H5.out.2.2.1).mono ?_); rintro e w6 ⟨rfl, hb6⟩; have H6 := Lib.hid (cf_step H5.out hb6 rfl); have z0 := H6.out.2.1.cell 0; have z1 := H6.out.2.1.cell 1; have z2 := H6.out.2.1.cell 2) | (go_at_call 22; (with_reducible refine (HI1.out _ _ _ H6.out.2.2.2.1).mono ?_); rintro e w7 ⟨pa, pc, rfl, hmo7, hb7⟩) | fail)
  obtain ⟨P, hP⟩ : ∃ Y, w7.heap.size = Y := ⟨_, rfl⟩
  obtain ⟨B, hB⟩ : ∃ Y, w6.heap.size = Y := ⟨_, rfl⟩
  rw [hB] at hmo7 hb7
  obtain ⟨W8, hW8⟩ : ∃ W, w7.alloc (.cells #[.int .i64 pn, .bool pe, .slice pa PL pc] 24) = W := ⟨_, rfl⟩
  have hb8 : Below w7.heap.size w7 W8 := by rw [← hW8]; exact (Below.refl _ w7).alloc (Nat.le_refl _) _
  have hB7 : B ≤ w7.heap.size := by rw [← hB]; exact (show w6.heap.size ≤ w7.heap.size by rw [hB]; have := hb7.size; omega)
  have H8 : Hid (Below B w6 W8 ∧ Blk W8 P #[.int .i64 pn, .bool pe, .slice pa PL pc] 24 ∧ MOwn B W8 pm pa pc ∧ B = w6.heap.size) := Lib.hid ⟨hb7.trans (hb8.mono hB7), by rw [← hW8, ← hP]; exact Blk.new w7 _ _, hmo7.next hb8 rfl, hB.symm⟩
  have HM : Hid (∀ ww : World, Below B w6 ww → CF w X Y #[.int .i64 n, .bool em, .slice a L c] #[.int .i64 n, .bool em, .slice a3 L c3] m a a3 ww) := Lib.hid fun ww hb => cf_step H6.out hb hB.symm
  have H8m := Lib.hid (HM.out _ H8.out.1)
  rw [hW8, hP]
  have y0 := H8m.out.1.cell 0
  have y1 := H8m.out.1.cell 1
  have y2 := H8m.out.1.cell 2
  clear hP hB hW8 hb8 hB7 hmo7 hb7 z0 z1 z2 hb5 hb6 H4 H5 HG1 HG2 HI1
  go_upto_region 10 with (first | (go_at_call 23; (with_reducible refine (HI2.out _ _ _ H8m.out.2.2.1).mono ?_); rintro e w9 ⟨qa, qc, rfl, hmo9, hb9⟩) | fail)
  obtain ⟨Q, hQ⟩ : ∃ Y, w9.heap.size = Y := ⟨_, rfl⟩
  obtain ⟨W10, hW10⟩ : ∃ W, w9.alloc (.cells #[.int .i64 pn, .bool pe, .slice qa PL qc] 24) = W := ⟨_, rfl⟩
  have hb10 : Below w9.heap.size w9 W10 := by rw [← hW10]; exact (Below.refl _ w9).alloc (Nat.le_refl _) _
  have H10 : Hid (CH B P Q #[.int .i64 pn, .bool pe, .slice pa PL pc] #[.int .i64 pn, .bool pe, .slice qa PL qc] pm pa qa pc w6 W10) := Lib.hid (by
    have hb : Below W8.heap.size W8 W10 := hb9.trans (hb10.mono hb9.size)
    refine ⟨H8.out.1.trans (hb.mono (by have h1 := H8.out.1.size; have h2 := H8.out.2.2.2; omega)), H8.out.2.1.below hb H8.out.2.1.lt, H8.out.2.2.1.next hb rfl, by rw [← hW10, ← hQ]; exact Blk.new w9 _ _, hmo9.mat.next hb10⟩)
  have HBB := Lib.hid H8.out.2.2.2
  rw [hW10, hQ]
  have p0 := H10.out.2.1.cell 0
  have p1 := H10.out.2.1.cell 1
  have p2 := H10.out.2.1.cell 2
  have q0 := H10.out.2.2.2.1.cell 0
  have q1 := H10.out.2.2.2.1.cell 1
  have q2 := H10.out.2.2.2.1.cell 2
  clear hQ hW10 hb10 hmo9 hb9 y0 y1 y2 H8 H8m H6
  go_upto_region 12 with (first | (go_at_call 16; first | ((with_reducible refine (HO2.out _ _ _ _ _ W10 H10.out.2.2.1 H10.out.2.2.2.2).mono ?_); rintro e w11 ⟨rfl, hb11⟩; have H11 := Lib.hid (ch_step H10.out hb11 HBB.out); have H11m := Lib.hid (HM.out _ H11.out.1); have y0 := H11m.out.1.cell 0; have y1 := H11m.out.1.cell 1; have y2 := H11m.out.1.cell 2; have z0 := H11m.out.2.1.cell 0; have z1 := H11m.out.2.1.cell 1; have z2 := H11m.out.2.1.cell 2) | ((with_reducible refine (HO1.out _ _ _ _ w11 H11m.out.2.2.2.1 H11m.out.2.2.1).mono ?_); rintro e w12 ⟨rfl, hb12⟩; have H12 := Lib.hid (ch_step H11.out hb12 HBB.out))) | fail)
  have p0 := H12.out.2.1.cell 0
  have p1 := H12.out.2.1.cell 1
  have p2 := H12.out.2.1.cell 2
  have HSZ := Lib.hid (show B ≤ w12.heap.size by have h1 := H12.out.1.size; have h2 := HBB.out; omega)
  clear q0 q1 q2 y0 y1 y2 z0 z1 z2 hb11 hb12 H10 H11 H11m
  go_upto_region 13 with (first | (go_at_call 24; (with_reducible refine (HSP.out _ _ _ _ H12.out.2.2.1 HSZ.out).mono ?_); rintro e w13 ⟨⟨vs, rfl⟩, hb13⟩) | fail)
  have H13 := Lib.hid (HM.out _ (H12.out.1.trans hb13))
  have y0 := H13.out.1.cell 0
  have y1 := H13.out.1.cell 1
  have y2 := H13.out.1.cell 2
  have z0 := H13.out.2.1.cell 0
  have z1 := H13.out.2.1.cell 1
  have z2 := H13.out.2.1.cell 2
  clear p0 p1 p2 hb13 H12
  go_wp2_with (first | (go_at_call 16; (with_reducible refine (HO1.out _ _ _ _ w13 H13.out.2.2.2.1 H13.out.2.2.1).mono ?_); rintro e w14 ⟨rfl, hb14⟩) | fail)
  go_ret
  exact ⟨rfl, H13.out.2.2.2.2.trans (hb14.mono H13.out.2.2.2.2.size)⟩
end Go.Proofs.Ythnefcafhpioaaa
