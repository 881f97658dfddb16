/-
  The walk of DbmChecks.
-/
import Derived.Test.YthnefcafhpioaaaDdC
import Derived.Test.YthnefcafhpioaaaRegO
namespace Go.Proofs.Ythnefcafhpioaaa
open Go Go.RowKit Go.Shelf

def CkJ (W9 : World) (N TL : Nat) (tm : List Int) (b : Bool) (R : Value) (w' : World) : Prop := Below W9.heap.size W9 w' ∧ (b = true → ∃ ra rc, R = .agg #[.int .i64 N, .bool false, .slice ra TL rc] ∧ MAt w' tm ra)
theorem ck_keep {W9 w' : World} {N TL : Nat} {tm : List Int} {l : Array Bool} {R : Value} {i : Nat} (h : CkJ W9 N TL tm (l.getD 9 false) R w') (hi : i ≠ 9) : CkJ W9 N TL tm ((l.setIfInBounds i true).getD 9 false) R w' := by rw [getD_set_ne false hi]; exact h
theorem ck_next {W9 w' w2 : World} {N TL : Nat} {tm : List Int} {l : Array Bool} {R : Value} {i : Nat} (h : CkJ W9 N TL tm (l.getD 9 false) R w') (hi : i ≠ 9) (hb : Below w'.heap.size w' w2) : CkJ W9 N TL tm ((l.setIfInBounds i true).getD 9 false) R w2 := by
  rw [getD_set_ne false hi]
  refine ⟨h.1.trans (hb.mono h.1.size), fun h9 => ?_⟩
  obtain ⟨ra, rc, hR, hm⟩ := h.2 h9
  exact ⟨ra, rc, hR, hm.next hb⟩
theorem octB_self' (x : Oc) : octB x x = true := by unfold octB; simp
theorem ck_two {w a b c : World} (h : Below w.heap.size w a) (h1 : Below a.heap.size a b) (h2 : Below b.heap.size b c) : Below w.heap.size w c := (h.trans (h1.mono h.size)).trans (h2.mono (Nat.le_trans h.size h1.size))
set_option maxRecDepth 100000 in
set_option maxHeartbeats 8000000 in
theorem checks_law (x y : Oc) (a1 a2 : Option Addr) (c1 c2 : Nat) (nn : Int) (w : World) (hx : MAt w x.m a1) (hy : MAt w y.m a2) (hxl : x.m.length ≤ maxLen) :
    Calls Try.prog 3 #[ocV x a1 c1, ocV y a2 c2, .int .i64 nn] w fun e w' => e = .returned (.bool true) ∧ Below w.heap.size w w' := by
  have HC1 : Hid (∀ ww : World, MAt ww x.m a1 → Calls Try.prog 10 #[.agg #[.int .i64 x.n, .bool x.em, .slice a1 x.m.length c1]] ww fun e w' => e = .returned (.int .i64 (chkO x)) ∧ Below ww.heap.size ww w') := Lib.hid fun ww h => check_any x a1 c1 ww h
  have HC2 : Hid (∀ ww : World, MAt ww x.m a1 → Calls Try.prog 11 #[.agg #[.int .i64 x.n, .bool x.em, .slice a1 x.m.length c1]] ww fun e w' => e = .returned (.int .i64 (chkO x)) ∧ Below ww.heap.size ww w') := Lib.hid fun ww h => rchk_any x a1 c1 ww h
  have HE1 : Hid (∀ ww : World, MAt ww x.m a1 → MAt ww y.m a2 → Calls Try.prog 12 #[.agg #[.int .i64 x.n, .bool x.em, .slice a1 x.m.length c1], .agg #[.int .i64 y.n, .bool y.em, .slice a2 y.m.length c2]] ww fun e w' => e = .returned (.bool ((chkO x == 0) && ((chkO y == 0) && octB x y))) ∧ Below ww.heap.size ww w') := Lib.hid fun ww h h2 => equal_any x y a1 a2 c1 c2 ww h h2 hxl
  have HE2 : Hid (∀ ww : World, MAt ww x.m a1 → MAt ww y.m a2 → Calls Try.prog 13 #[.agg #[.int .i64 x.n, .bool x.em, .slice a1 x.m.length c1], .agg #[.int .i64 y.n, .bool y.em, .slice a2 y.m.length c2]] ww fun e w' => e = .returned (.bool ((chkO x == 0) && ((chkO y == 0) && octB x y))) ∧ Below ww.heap.size ww w') := Lib.hid fun ww h h2 => requal_any x y a1 a2 c1 c2 ww h h2 hxl
  obtain ⟨E, hE⟩ : ∃ E, ((chkO x == 0) && ((chkO y == 0) && octB x y)) = E := ⟨_, rfl⟩
  obtain ⟨F, hF⟩ : ∃ F, chkO x = F := ⟨_, rfl⟩
  rw [hE] at HE1 HE2
  rw [hF] at HC1 HC2
  obtain ⟨n1, e1, m1⟩ := x
  obtain ⟨n2, e2, m2⟩ := y
  simp only at hx hy HC1 HC2 HE1 HE2
  show Calls Try.prog 3 #[.agg #[.int .i64 n1, .bool e1, .slice a1 m1.length c1], .agg #[.int .i64 n2, .bool e2, .slice a2 m2.length c2], .int .i64 nn] w _
  obtain ⟨X, hX⟩ : ∃ X, w.heap.size = X := ⟨_, rfl⟩
  obtain ⟨L1, hL1⟩ : ∃ X, m1.length = X := ⟨_, rfl⟩
  obtain ⟨L2, hL2⟩ : ∃ X, m2.length = X := ⟨_, rfl⟩
  rw [hL1] at HC1 HC2
  rw [hL1, hL2] at HE1 HE2 ⊢
  obtain ⟨W1, hW1⟩ : ∃ W, (w.alloc (.cells #[.int .i64 n1, .bool e1, .slice a1 L1 c1] 24)).alloc (.cells #[.int .i64 n2, .bool e2, .slice a2 L2 c2] 24) = W := ⟨_, rfl⟩
  have hx1 : Blk W1 X #[.int .i64 n1, .bool e1, .slice a1 L1 c1] 24 := by rw [← hW1, ← hX]; exact (Blk.new w _ _).alloc _
  have hy1 : Blk W1 (X + 1) #[.int .i64 n2, .bool e2, .slice a2 L2 c2] 24 := by
    have h := Blk.new (w.alloc (.cells #[.int .i64 n1, .bool e1, .slice a1 L1 c1] 24)) #[.int .i64 n2, .bool e2, .slice a2 L2 c2] 24
    rw [World.size_alloc, hX] at h
    rw [← hW1]; exact h
  have hb1 : Below w.heap.size w W1 := by rw [← hW1]; exact ((Below.refl _ w).alloc (Nat.le_refl _) _).alloc (by simp) _
  have HW := Lib.hid (And.intro hX hW1)
  have HKN := Lib.hid (known12_any W1)
  have HE : Hid (EqF X w #[.int .i64 n1, .bool e1, .slice a1 L1 c1] #[.int .i64 n2, .bool e2, .slice a2 L2 c2] m1 m2 a1 a2 W1) := Lib.hid ⟨hx1, hy1, hx.next hb1, hy.next hb1, hb1⟩
  clear hx hy hxl hE hF hX hL1 hL2 hW1 hx1 hy1 hb1
  go_enter Try.func3, Try.ntmps3
  go_upto_region 1 with fail
  simp only [HW.out.1]
  rw [HW.out.2]
  go_upto_region 3 with (first | (go_at_call 9; (with_reducible refine HKN.out.mono ?_); rintro e W3 ⟨rfl, hb2⟩; have H3 := Lib.hid (eq_step HE.out hb2); clear hb2) | fail)
  refine wp_region_any (by kernel_rfl) ?_
  refine wpAny_vals [13, 14, 15, 16, 17, 18, 19, 20, 21, 22, 23, 24, 25, 26] [.agg #[.int .i64 n1, .bool e1, .slice a1 L1 c1], .int .i64 F, .agg #[.int .i64 n1, .bool e1, .slice a1 L1 c1], .int .i64 F, .bool false, .bool false, .agg #[.int .i64 n1, .bool e1, .slice a1 L1 c1], .agg #[.int .i64 n2, .bool e2, .slice a2 L2 c2], .bool E, .agg #[.int .i64 n1, .bool e1, .slice a1 L1 c1], .agg #[.int .i64 n2, .bool e2, .slice a2 L2 c2], .bool E, .bool false, .bool false] (fun w' => Below W3.heap.size W3 w') rfl (by kernel_rfl) (by decide) (by kernel_rfl) ?hs ?he ?hj
  case hj => exact (Below.refl _ _).drew
  case hs =>
    intro qi qo ho fr0 hv hx w' hJ
    have hi : qi < 14 := (Array.getElem?_eq_some_iff.1 ho).1
    have HM := Lib.hid (And.intro (H3.out.2.2.1.next hJ) (H3.out.2.2.2.1.next hJ))
    have x0 : w'.cell? ⟨X, 0, none⟩ = some (.int .i64 n1) := (hJ.cell (p := ⟨X, 0, none⟩) H3.out.1.lt).trans (H3.out.1.cell 0)
    have x1 : w'.cell? ⟨X, 1, none⟩ = some (.bool e1) := (hJ.cell (p := ⟨X, 1, none⟩) H3.out.1.lt).trans (H3.out.1.cell 1)
    have x2 : w'.cell? ⟨X, 2, none⟩ = some (.slice a1 L1 c1) := (hJ.cell (p := ⟨X, 2, none⟩) H3.out.1.lt).trans (H3.out.1.cell 2)
    have y0 : w'.cell? ⟨(X + 1), 0, none⟩ = some (.int .i64 n2) := (hJ.cell (p := ⟨(X + 1), 0, none⟩) H3.out.2.1.lt).trans (H3.out.2.1.cell 0)
    have y1 : w'.cell? ⟨(X + 1), 1, none⟩ = some (.bool e2) := (hJ.cell (p := ⟨(X + 1), 1, none⟩) H3.out.2.1.lt).trans (H3.out.2.1.cell 1)
    have y2 : w'.cell? ⟨(X + 1), 2, none⟩ = some (.slice a2 L2 c2) := (hJ.cell (p := ⟨(X + 1), 2, none⟩) H3.out.2.1.lt).trans (H3.out.2.1.cell 2)
    have HJ := Lib.hid hJ
    clear hJ
    have hcase : qi = 0 ∨ qi = 1 ∨ qi = 2 ∨ qi = 3 ∨ qi = 4 ∨ qi = 5 ∨ qi = 6 ∨ qi = 7 ∨ qi = 8 ∨ qi = 9 ∨ qi = 10 ∨ qi = 11 ∨ qi = 12 ∨ qi = 13 := by omega
    clear hi
    rcases hcase with rfl | rfl | rfl | rfl | rfl | rfl | rfl | rfl | rfl | rfl | rfl | rfl | rfl | rfl
    · obtain rfl := Option.some.inj ho.symm
      clear ho
      have x3 : fr0.tmps[(3 : Nat)]? = some (.pointer (some ⟨X, 0, none⟩)) := hx 3 (by decide)
      clear hv hx
      refine wpOp_step rfl (fun K hK => ?_)
      go_simp
      exact hK _ _ ⟨rfl, HJ.out⟩
    · obtain rfl := Option.some.inj ho.symm
      clear ho
      have d0 : fr0.tmps[(13 : Nat)]? = some (.agg #[.int .i64 n1, .bool e1, .slice a1 L1 c1]) := hv ⟨0, .data⟩ (by simp) rfl
      clear hv hx
      refine wpOp_step rfl (fun K hK => ?_)
      go_simp
      go_at_call 10
      refine (HC1.out _ HM.out.1).mono ?_
      rintro e w2 ⟨rfl, hb2⟩
      exact hK _ _ ⟨rfl, HJ.out.trans (hb2.mono HJ.out.size)⟩
    · obtain rfl := Option.some.inj ho.symm
      clear ho
      have x3 : fr0.tmps[(3 : Nat)]? = some (.pointer (some ⟨X, 0, none⟩)) := hx 3 (by decide)
      clear hv hx
      refine wpOp_step rfl (fun K hK => ?_)
      go_simp
      exact hK _ _ ⟨rfl, HJ.out⟩
    · obtain rfl := Option.some.inj ho.symm
      clear ho
      have d2 : fr0.tmps[(15 : Nat)]? = some (.agg #[.int .i64 n1, .bool e1, .slice a1 L1 c1]) := hv ⟨2, .data⟩ (by simp) rfl
      clear hv hx
      refine wpOp_step rfl (fun K hK => ?_)
      go_simp
      go_at_call 11
      refine (HC2.out _ HM.out.1).mono ?_
      rintro e w2 ⟨rfl, hb2⟩
      exact hK _ _ ⟨rfl, HJ.out.trans (hb2.mono HJ.out.size)⟩
    · obtain rfl := Option.some.inj ho.symm
      clear ho
      have d1 : fr0.tmps[(14 : Nat)]? = some (.int .i64 F) := hv ⟨1, .data⟩ (by simp) rfl
      have d3 : fr0.tmps[(16 : Nat)]? = some (.int .i64 F) := hv ⟨3, .data⟩ (by simp) rfl
      clear hv hx
      refine wpOp_step rfl (fun K hK => ?_)
      go_simp
      exact hK _ _ ⟨rfl, HJ.out⟩
    · obtain rfl := Option.some.inj ho.symm
      clear ho
      have d4 : fr0.tmps[(17 : Nat)]? = some (.bool false) := hv ⟨4, .data⟩ (by simp) rfl
      clear hv hx
      refine wpOp_step rfl (fun K hK => ?_)
      go_simp
      exact hK _ _ ⟨rfl, HJ.out⟩
    · obtain rfl := Option.some.inj ho.symm
      clear ho
      have d5 : fr0.tmps[(18 : Nat)]? = some (.bool false) := hv ⟨5, .guard⟩ (by simp) rfl
      have x3 : fr0.tmps[(3 : Nat)]? = some (.pointer (some ⟨X, 0, none⟩)) := hx 3 (by decide)
      clear hv hx
      refine wpOp_step rfl (fun K hK => ?_)
      go_simp
      exact hK _ _ ⟨rfl, HJ.out⟩
    · obtain rfl := Option.some.inj ho.symm
      clear ho
      have d5 : fr0.tmps[(18 : Nat)]? = some (.bool false) := hv ⟨5, .guard⟩ (by simp) rfl
      have x4 : fr0.tmps[(4 : Nat)]? = some (.pointer (some ⟨(X + 1), 0, none⟩)) := hx 4 (by decide)
      clear hv hx
      refine wpOp_step rfl (fun K hK => ?_)
      go_simp
      exact hK _ _ ⟨rfl, HJ.out⟩
    · obtain rfl := Option.some.inj ho.symm
      clear ho
      have d6 : fr0.tmps[(19 : Nat)]? = some (.agg #[.int .i64 n1, .bool e1, .slice a1 L1 c1]) := hv ⟨6, .data⟩ (by simp) rfl
      have d7 : fr0.tmps[(20 : Nat)]? = some (.agg #[.int .i64 n2, .bool e2, .slice a2 L2 c2]) := hv ⟨7, .data⟩ (by simp) rfl
      have d5 : fr0.tmps[(18 : Nat)]? = some (.bool false) := hv ⟨5, .guard⟩ (by simp) rfl
      clear hv hx
      refine wpOp_step rfl (fun K hK => ?_)
      go_simp
      go_at_call 12
      refine (HE1.out _ HM.out.1 HM.out.2).mono ?_
      rintro e w2 ⟨rfl, hb2⟩
      exact hK _ _ ⟨rfl, HJ.out.trans (hb2.mono HJ.out.size)⟩
    · obtain rfl := Option.some.inj ho.symm
      clear ho
      have d5 : fr0.tmps[(18 : Nat)]? = some (.bool false) := hv ⟨5, .guard⟩ (by simp) rfl
      have x3 : fr0.tmps[(3 : Nat)]? = some (.pointer (some ⟨X, 0, none⟩)) := hx 3 (by decide)
      clear hv hx
      refine wpOp_step rfl (fun K hK => ?_)
      go_simp
      exact hK _ _ ⟨rfl, HJ.out⟩
    · obtain rfl := Option.some.inj ho.symm
      clear ho
      have d5 : fr0.tmps[(18 : Nat)]? = some (.bool false) := hv ⟨5, .guard⟩ (by simp) rfl
      have x4 : fr0.tmps[(4 : Nat)]? = some (.pointer (some ⟨(X + 1), 0, none⟩)) := hx 4 (by decide)
      clear hv hx
      refine wpOp_step rfl (fun K hK => ?_)
      go_simp
      exact hK _ _ ⟨rfl, HJ.out⟩
    · obtain rfl := Option.some.inj ho.symm
      clear ho
      have d9 : fr0.tmps[(22 : Nat)]? = some (.agg #[.int .i64 n1, .bool e1, .slice a1 L1 c1]) := hv ⟨9, .data⟩ (by simp) rfl
      have d10 : fr0.tmps[(23 : Nat)]? = some (.agg #[.int .i64 n2, .bool e2, .slice a2 L2 c2]) := hv ⟨10, .data⟩ (by simp) rfl
      have d5 : fr0.tmps[(18 : Nat)]? = some (.bool false) := hv ⟨5, .guard⟩ (by simp) rfl
      clear hv hx
      refine wpOp_step rfl (fun K hK => ?_)
      go_simp
      go_at_call 13
      refine (HE2.out _ HM.out.1 HM.out.2).mono ?_
      rintro e w2 ⟨rfl, hb2⟩
      exact hK _ _ ⟨rfl, HJ.out.trans (hb2.mono HJ.out.size)⟩
    · obtain rfl := Option.some.inj ho.symm
      clear ho
      have d8 : fr0.tmps[(21 : Nat)]? = some (.bool E) := hv ⟨8, .data⟩ (by simp) rfl
      have d11 : fr0.tmps[(24 : Nat)]? = some (.bool E) := hv ⟨11, .data⟩ (by simp) rfl
      have d5 : fr0.tmps[(18 : Nat)]? = some (.bool false) := hv ⟨5, .guard⟩ (by simp) rfl
      clear hv hx
      refine wpOp_step rfl (fun K hK => ?_)
      go_simp
      exact hK _ _ ⟨rfl, HJ.out⟩
    · obtain rfl := Option.some.inj ho.symm
      clear ho
      have d5 : fr0.tmps[(18 : Nat)]? = some (.bool false) := hv ⟨5, .data⟩ (by simp) rfl
      have d12 : fr0.tmps[(25 : Nat)]? = some (.bool false) := hv ⟨12, .data⟩ (by simp) rfl
      clear hv hx
      refine wpOp_step rfl (fun K hK => ?_)
      go_simp
      exact hK _ _ ⟨rfl, HJ.out⟩
  case he =>
    intro w' hJ
    simp only [putF, valsAt, Nat.reduceAdd, Nat.zero_add, List.getD_cons_zero, List.getD_cons_succ, Act.put, List.setIfInBounds_toArray, List.set_cons_succ, List.set_cons_zero]
    have H5 := Lib.hid (H3.out.2.2.2.2.trans (hJ.mono H3.out.2.2.2.2.size))
    clear hJ HC1 HC2 HE1 HE2 HE HKN H3
    cases hnb : numB nn with
    | false =>
      have HT : Hid (∀ ww : World, Calls Try.prog 14 #[.int .i64 nn] ww fun e w' => ∃ a c, e = .returned (.tuple #[.agg #[.int .i64 0, .bool false, .slice a 0 c], .int .i64 120]) ∧ MOwn ww.heap.size w' [] a c ∧ Below ww.heap.size ww w') := Lib.hid fun ww => topBad_any nn ww hnb
      have HU : Hid (∀ ww : World, Calls Try.prog 15 #[.int .i64 nn] ww fun e w' => ∃ a c, e = .returned (.tuple #[.agg #[.int .i64 0, .bool false, .slice a 0 c], .int .i64 120]) ∧ MOwn ww.heap.size w' [] a c ∧ Below ww.heap.size ww w') := Lib.hid fun ww => emptyBad_any nn ww hnb
      have HO : Hid (∀ (b b2 : Option Addr) (d d2 : Nat) (ww : World), Calls Try.prog 16 #[.agg #[.int .i64 0, .bool false, .slice b 0 d], .agg #[.int .i64 0, .bool false, .slice b2 0 d2]] ww fun e w' => e = .returned (.bool true) ∧ Below ww.heap.size ww w') := Lib.hid fun b b2 d d2 ww => by
        have h3 := oct_any zeroOc zeroOc b b2 d d2 ww (.inl rfl) (.inl rfl) (Nat.zero_le _)
        rw [octB_self'] at h3; exact h3
      rcases numB_false hnb with hlt | hgt
      · clear hnb
        go_upto_region 6 with (first | (go_at_call 14; (with_reducible refine (HT.out _).mono ?_); rintro e w5 ⟨ta, tc, rfl, hmt, hb5⟩) | fail)
        obtain ⟨V, hV⟩ : ∃ Y, w5.heap.size = Y := ⟨_, rfl⟩
        obtain ⟨W6, hW6⟩ : ∃ W, w5.alloc (.cells #[.int .i64 0, .bool false, .slice ta 0 tc] 24) = W := ⟨_, rfl⟩
        have hb6 : Below w5.heap.size w5 W6 := by rw [← hW6]; exact (Below.refl _ w5).alloc (Nat.le_refl _) _
        have H6 : Hid (Blk W6 V #[.int .i64 0, .bool false, .slice ta 0 tc] 24 ∧ Below w.heap.size w W6) := Lib.hid ⟨by rw [← hW6, ← hV]; exact Blk.new w5 _ _, (H5.out.trans (hb5.mono H5.out.size)).trans (hb6.mono (Nat.le_trans H5.out.size hb5.size))⟩
        rw [hW6, hV]
        clear hV hW6 hb6 hmt hb5 H5
        go_upto_region 7 with (first | (go_at_call 15; (with_reducible refine (HU.out _).mono ?_); rintro e w7 ⟨ua, uc, rfl, hmu, hb7⟩) | fail)
        obtain ⟨U, hU⟩ : ∃ Y, w7.heap.size = Y := ⟨_, rfl⟩
        obtain ⟨W9, hW9⟩ : ∃ W, w7.alloc (.cells #[.int .i64 0, .bool false, .slice ua 0 uc] 24) = W := ⟨_, rfl⟩
        have hb9 : Below w7.heap.size w7 W9 := by rw [← hW9]; exact (Below.refl _ w7).alloc (Nat.le_refl _) _
        have H9 : Hid (Blk W9 V #[.int .i64 0, .bool false, .slice ta 0 tc] 24 ∧ Blk W9 U #[.int .i64 0, .bool false, .slice ua 0 uc] 24 ∧ Below w.heap.size w W9) := Lib.hid (by
          have hb : Below W6.heap.size W6 W9 := hb7.trans (hb9.mono hb7.size)
          exact ⟨H6.out.1.below hb H6.out.1.lt, by rw [← hW9, ← hU]; exact Blk.new w7 _ _, H6.out.2.trans (hb.mono H6.out.2.size)⟩)
        rw [hW9, hU]
        clear hU hW9 hb9 hb7 hmu H6
        have t0 := H9.out.1.cell 0
        have t1 := H9.out.1.cell 1
        have t2 := H9.out.1.cell 2
        go_wp2_with (first | (go_at_call 16; first | ((with_reducible refine (HO.out _ _ _ _ W9).mono ?_); rintro e w10 ⟨rfl, hb10⟩; have h10 := H9.out.2.1.below hb10 H9.out.2.1.lt; have u0 := h10.cell 0; have u1 := h10.cell 1; have u2 := h10.cell 2; clear h10) | ((with_reducible refine (HO.out _ _ _ _ w10).mono ?_); rintro e w11 ⟨rfl, hb11⟩)) | fail)
        go_ret
        exact ⟨rfl, ck_two H9.out.2.2 hb10 hb11⟩
      · have hge : 0 ≤ nn := by omega
        clear hnb
        go_upto_region 6 with (first | (go_at_call 14; (with_reducible refine (HT.out _).mono ?_); rintro e w5 ⟨ta, tc, rfl, hmt, hb5⟩) | fail)
        obtain ⟨V, hV⟩ : ∃ Y, w5.heap.size = Y := ⟨_, rfl⟩
        obtain ⟨W6, hW6⟩ : ∃ W, w5.alloc (.cells #[.int .i64 0, .bool false, .slice ta 0 tc] 24) = W := ⟨_, rfl⟩
        have hb6 : Below w5.heap.size w5 W6 := by rw [← hW6]; exact (Below.refl _ w5).alloc (Nat.le_refl _) _
        have H6 : Hid (Blk W6 V #[.int .i64 0, .bool false, .slice ta 0 tc] 24 ∧ Below w.heap.size w W6) := Lib.hid ⟨by rw [← hW6, ← hV]; exact Blk.new w5 _ _, (H5.out.trans (hb5.mono H5.out.size)).trans (hb6.mono (Nat.le_trans H5.out.size hb5.size))⟩
        rw [hW6, hV]
        clear hV hW6 hb6 hmt hb5 H5
        go_upto_region 7 with (first | (go_at_call 15; (with_reducible refine (HU.out _).mono ?_); rintro e w7 ⟨ua, uc, rfl, hmu, hb7⟩) | fail)
        obtain ⟨U, hU⟩ : ∃ Y, w7.heap.size = Y := ⟨_, rfl⟩
        obtain ⟨W9, hW9⟩ : ∃ W, w7.alloc (.cells #[.int .i64 0, .bool false, .slice ua 0 uc] 24) = W := ⟨_, rfl⟩
        have hb9 : Below w7.heap.size w7 W9 := by rw [← hW9]; exact (Below.refl _ w7).alloc (Nat.le_refl _) _
        have H9 : Hid (Blk W9 V #[.int .i64 0, .bool false, .slice ta 0 tc] 24 ∧ Blk W9 U #[.int .i64 0, .bool false, .slice ua 0 uc] 24 ∧ Below w.heap.size w W9) := Lib.hid (by
          have hb : Below W6.heap.size W6 W9 := hb7.trans (hb9.mono hb7.size)
          exact ⟨H6.out.1.below hb H6.out.1.lt, by rw [← hW9, ← hU]; exact Blk.new w7 _ _, H6.out.2.trans (hb.mono H6.out.2.size)⟩)
        rw [hW9, hU]
        clear hU hW9 hb9 hb7 hmu H6
        have t0 := H9.out.1.cell 0
        have t1 := H9.out.1.cell 1
        have t2 := H9.out.1.cell 2
        go_wp2_with (first | (go_at_call 16; first | ((with_reducible refine (HO.out _ _ _ _ W9).mono ?_); rintro e w10 ⟨rfl, hb10⟩; have h10 := H9.out.2.1.below hb10 H9.out.2.1.lt; have u0 := h10.cell 0; have u1 := h10.cell 1; have u2 := h10.cell 2; clear h10) | ((with_reducible refine (HO.out _ _ _ _ w10).mono ?_); rintro e w11 ⟨rfl, hb11⟩)) | fail)
        go_ret
        exact ⟨rfl, ck_two H9.out.2.2 hb10 hb11⟩
    | true =>
      obtain ⟨h0, h64⟩ := numB_true hnb
      obtain ⟨N, rfl⟩ : ∃ N : Nat, nn = (N : Int) := ⟨nn.toNat, by omega⟩
      have hN : N ≤ 64 := by omega
      obtain ⟨tm, htm⟩ : ∃ m, (topO (N : Int)).m = m := ⟨_, rfl⟩
      obtain ⟨TL, hTL⟩ : ∃ L, tm.length = L := ⟨_, rfl⟩
      have htl : (topO (N : Int)).m.length = TL := by rw [htm]; exact hTL
      have HT : Hid (∀ ww : World, Calls Try.prog 14 #[.int .i64 N] ww fun e w' => ∃ a c, e = .returned (.tuple #[.agg #[.int .i64 N, .bool false, .slice a TL c], .int .i64 0]) ∧ MAt w' tm a ∧ Below ww.heap.size ww w') := Lib.hid fun ww => (top_any N ww hN).mono fun e w' ⟨a, c, he, hm, hb⟩ => ⟨a, c, by rw [he, ← htl]; rfl, by rw [← htm]; exact hm.mat, hb⟩
      have HTR : Hid (∀ ww : World, Calls Try.prog 17 #[.int .i64 N] ww fun e w' => ∃ a c, e = .returned (.agg #[.int .i64 N, .bool false, .slice a TL c]) ∧ MAt w' tm a ∧ Below ww.heap.size ww w') := Lib.hid fun ww => (rtop_any N ww hN).mono fun e w' ⟨a, c, he, hm, hb⟩ => ⟨a, c, by rw [he, ← htl]; rfl, by rw [← htm]; exact hm.mat, hb⟩
      have HU : Hid (∀ ww : World, Calls Try.prog 15 #[.int .i64 N] ww fun e w' => e = .returned (.tuple #[.agg #[.int .i64 N, .bool true, .slice none 0 0], .int .i64 0]) ∧ Below ww.heap.size ww w') := Lib.hid fun ww => by have h := empty_any (N : Int) ww; rw [if_pos hnb] at h; exact h
      have HER := Lib.hid (fun ww => rempty_any (N : Int) ww)
      have HOT : Hid (∀ (b b2 : Option Addr) (d d2 : Nat) (ww : World), MAt ww tm b → MAt ww tm b2 → Calls Try.prog 16 #[.agg #[.int .i64 N, .bool false, .slice b TL d], .agg #[.int .i64 N, .bool false, .slice b2 TL d2]] ww fun e w' => e = .returned (.bool true) ∧ Below ww.heap.size ww w') := Lib.hid fun b b2 d d2 ww h h2 => by
        have h3 := oct_any ⟨N, false, tm⟩ ⟨N, false, tm⟩ b b2 d d2 ww h h2 (by rw [← htm, show (topO (N : Int)).m = topM (2 * ((N : Int)).toNat) from rfl, topM_len]; exact Nat.le_trans (Nat.mul_le_mul (show 2 * ((N : Int)).toNat ≤ 128 by omega) (show 2 * ((N : Int)).toNat ≤ 128 by omega)) (by unfold maxLen; omega))
        rw [octB_self'] at h3
        rw [← hTL]; exact h3
      have HOE : Hid (∀ (ww : World), Calls Try.prog 16 #[.agg #[.int .i64 N, .bool true, .slice none 0 0], .agg #[.int .i64 N, .bool true, .slice none 0 0]] ww fun e w' => e = .returned (.bool true) ∧ Below ww.heap.size ww w') := Lib.hid fun ww => by
        have h3 := oct_any (emptyOc N) (emptyOc N) none none 0 0 ww (.inl rfl) (.inl rfl) (Nat.zero_le _)
        rw [octB_self'] at h3; exact h3
      clear hnb htl htm hTL
      go_upto_region 6 with (first | (go_at_call 14; (with_reducible refine (HT.out _).mono ?_); rintro e w5 ⟨ta, tc, rfl, hmt, hb5⟩) | fail)
      obtain ⟨V, hV⟩ : ∃ Y, w5.heap.size = Y := ⟨_, rfl⟩
      obtain ⟨W6, hW6⟩ : ∃ W, w5.alloc (.cells #[.int .i64 N, .bool false, .slice ta TL tc] 24) = W := ⟨_, rfl⟩
      have hb6 : Below w5.heap.size w5 W6 := by rw [← hW6]; exact (Below.refl _ w5).alloc (Nat.le_refl _) _
      have H6 : Hid (Blk W6 V #[.int .i64 N, .bool false, .slice ta TL tc] 24 ∧ MAt W6 tm ta ∧ Below w.heap.size w W6) := Lib.hid ⟨by rw [← hW6, ← hV]; exact Blk.new w5 _ _, hmt.next hb6, (H5.out.trans (hb5.mono H5.out.size)).trans (hb6.mono (Nat.le_trans H5.out.size hb5.size))⟩
      rw [hW6, hV]
      clear hV hW6 hb6 hmt hb5 H5
      go_upto_region 7 with (first | (go_at_call 15; (with_reducible refine (HU.out _).mono ?_); rintro e w7 ⟨rfl, hb7⟩) | fail)
      obtain ⟨U, hU⟩ : ∃ Y, w7.heap.size = Y := ⟨_, rfl⟩
      obtain ⟨W9, hW9⟩ : ∃ W, w7.alloc (.cells #[.int .i64 N, .bool true, .slice none 0 0] 24) = W := ⟨_, rfl⟩
      have hb9 : Below w7.heap.size w7 W9 := by rw [← hW9]; exact (Below.refl _ w7).alloc (Nat.le_refl _) _
      have H9 : Hid (Blk W9 V #[.int .i64 N, .bool false, .slice ta TL tc] 24 ∧ Blk W9 U #[.int .i64 N, .bool true, .slice none 0 0] 24 ∧ MAt W9 tm ta ∧ Below w.heap.size w W9) := Lib.hid (by
        have hb : Below W6.heap.size W6 W9 := hb7.trans (hb9.mono hb7.size)
        exact ⟨H6.out.1.below hb H6.out.1.lt, by rw [← hW9, ← hU]; exact Blk.new w7 _ _, H6.out.2.1.next hb, H6.out.2.2.trans (hb.mono H6.out.2.2.size)⟩)
      rw [hW9, hU]
      clear hU hW9 hb9 hb7 H6
      go_upto_region 9 with fail
      refine wp_region_any (by kernel_rfl) ?_
      refine wpAny_mem3 [some 59, some 60, some 61, some 62, some 63, some 64, some 65, some 66, some 67, some 68, some 69, some 70, some 71, some 72, some 73, some 74, some 75, some 76, some 6] (fun R => valsAt [.int .i64 0, .bool true, .bool true, .int .i64 0, .bool true, .bool true, .bool true, .agg #[.int .i64 N, .bool false, .slice ta TL tc], .int .i64 N, R, .bool true, .bool true, .bool true, .agg #[.int .i64 N, .bool true, .slice none 0 0], .int .i64 N, .agg #[.int .i64 N, .bool true, .slice none 0 0], .bool true, .bool true, .bool true]) (fun l R w' => CkJ W9 N TL tm (l.getD 9 false) R w') 9 undef rfl ?hvs (by kernel_rfl) (by kernel_rfl) (by kernel_rfl) ?hs ?he ?hj
      case hvs =>
        intro R R' j hj hwait
        rcases j with _ | _ | _ | _ | _ | _ | _ | _ | _ | _ | _ | _ | _ | _ | _ | _ | _ | _ | j
        · rfl
        · rfl
        · rfl
        · rfl
        · rfl
        · rfl
        · rfl
        · rfl
        · rfl
        · exact absurd rfl hj
        · rfl
        · rfl
        · rfl
        · rfl
        · rfl
        · rfl
        · rfl
        · rfl
        · rfl
      case hj => exact ⟨(Below.refl _ _).drew, fun h => by cases h⟩
      case hs =>
        intro qi qo ho hi lz Rz fr0 hl hl0 hup hv hx hcl w' hJ
        have HH := Lib.hid (And.intro hl hJ)
        have hi : qi < 19 := (Array.getElem?_eq_some_iff.1 ho).1
        have hcase : qi = 0 ∨ qi = 1 ∨ qi = 2 ∨ qi = 3 ∨ qi = 4 ∨ qi = 5 ∨ qi = 6 ∨ qi = 7 ∨ qi = 8 ∨ qi = 9 ∨ qi = 10 ∨ qi = 11 ∨ qi = 12 ∨ qi = 13 ∨ qi = 14 ∨ qi = 15 ∨ qi = 16 ∨ qi = 17 ∨ qi = 18 := by omega
        clear hi hl hJ
        rcases hcase with rfl | rfl | rfl | rfl | rfl | rfl | rfl | rfl | rfl | rfl | rfl | rfl | rfl | rfl | rfl | rfl | rfl | rfl | rfl
        · obtain rfl := Option.some.inj ho.symm
          clear ho
          have x8 : fr0.tmps[(8 : Nat)]? = some (.int .i64 0) := hx 8 (not_up (by decide))
          clear hv hx hcl hl0 hup
          refine wpOp_step rfl (fun K hK => ?_)
          go_simp
          exact hK _ _ ⟨Rz, fun _ => rfl, rfl, ck_keep HH.out.2 (by decide)⟩
        · obtain rfl := Option.some.inj ho.symm
          clear ho
          have d0 : fr0.tmps[(59 : Nat)]? = some (.int .i64 0) := hv ⟨0, .data⟩ (by simp) rfl _ rfl
          clear hv hx hcl hl0 hup
          refine wpOp_step rfl (fun K hK => ?_)
          go_simp
          exact hK _ _ ⟨Rz, fun _ => rfl, rfl, ck_keep HH.out.2 (by decide)⟩
        · obtain rfl := Option.some.inj ho.symm
          clear ho
          have d1 : fr0.tmps[(60 : Nat)]? = some (.bool true) := hv ⟨1, .data⟩ (by simp) rfl _ rfl
          clear hv hx hcl hl0 hup
          refine wpOp_step rfl (fun K hK => ?_)
          go_simp
          exact hK _ _ ⟨Rz, fun _ => rfl, rfl, ck_keep HH.out.2 (by decide)⟩
        · obtain rfl := Option.some.inj ho.symm
          clear ho
          have d2 : fr0.tmps[(61 : Nat)]? = some (.bool true) := hv ⟨2, .guard⟩ (by simp) rfl _ rfl
          have x10 : fr0.tmps[(10 : Nat)]? = some (.int .i64 0) := hx 10 (not_up (by decide))
          clear hv hx hcl hl0 hup
          refine wpOp_step rfl (fun K hK => ?_)
          go_simp
          exact hK _ _ ⟨Rz, fun _ => rfl, rfl, ck_keep HH.out.2 (by decide)⟩
        · obtain rfl := Option.some.inj ho.symm
          clear ho
          have d3 : fr0.tmps[(62 : Nat)]? = some (.int .i64 0) := hv ⟨3, .data⟩ (by simp) rfl _ rfl
          have d2 : fr0.tmps[(61 : Nat)]? = some (.bool true) := hv ⟨2, .guard⟩ (by simp) rfl _ rfl
          clear hv hx hcl hl0 hup
          refine wpOp_step rfl (fun K hK => ?_)
          go_simp
          exact hK _ _ ⟨Rz, fun _ => rfl, rfl, ck_keep HH.out.2 (by decide)⟩
        · obtain rfl := Option.some.inj ho.symm
          clear ho
          have d2 : fr0.tmps[(61 : Nat)]? = some (.bool true) := hv ⟨2, .data⟩ (by simp) rfl _ rfl
          have d4 : fr0.tmps[(63 : Nat)]? = some (.bool true) := hv ⟨4, .data⟩ (by simp) rfl _ rfl
          clear hv hx hcl hl0 hup
          refine wpOp_step rfl (fun K hK => ?_)
          go_simp
          exact hK _ _ ⟨Rz, fun _ => rfl, rfl, ck_keep HH.out.2 (by decide)⟩
        · obtain rfl := Option.some.inj ho.symm
          clear ho
          have d5 : fr0.tmps[(64 : Nat)]? = some (.bool true) := hv ⟨5, .data⟩ (by simp) rfl _ rfl
          clear hv hx hcl hl0 hup
          refine wpOp_step rfl (fun K hK => ?_)
          go_simp
          exact hK _ _ ⟨Rz, fun _ => rfl, rfl, ck_keep HH.out.2 (by decide)⟩
        · obtain rfl := Option.some.inj ho.symm
          clear ho
          have d6 : fr0.tmps[(65 : Nat)]? = some (.bool true) := hv ⟨6, .guard⟩ (by simp) rfl _ rfl
          have x7 : fr0.tmps[(7 : Nat)]? = some (.pointer (some ⟨V, 0, none⟩)) := hx 7 (not_up (by decide))
          have t0 : w'.cell? ⟨V, 0, none⟩ = some (.int .i64 N) := (HH.out.2.1.cell (p := ⟨V, 0, none⟩) H9.out.1.lt).trans (H9.out.1.cell 0)
          have t1 : w'.cell? ⟨V, 1, none⟩ = some (.bool false) := (HH.out.2.1.cell (p := ⟨V, 1, none⟩) H9.out.1.lt).trans (H9.out.1.cell 1)
          have t2 : w'.cell? ⟨V, 2, none⟩ = some (.slice ta TL tc) := (HH.out.2.1.cell (p := ⟨V, 2, none⟩) H9.out.1.lt).trans (H9.out.1.cell 2)
          clear hv hx hcl hl0 hup
          refine wpOp_step rfl (fun K hK => ?_)
          go_simp
          exact hK _ _ ⟨Rz, fun _ => rfl, rfl, ck_keep HH.out.2 (by decide)⟩
        · obtain rfl := Option.some.inj ho.symm
          clear ho
          have d6 : fr0.tmps[(65 : Nat)]? = some (.bool true) := hv ⟨6, .guard⟩ (by simp) rfl _ rfl
          have x2 : fr0.tmps[(2 : Nat)]? = some (.int .i64 N) := hx 2 (not_up (by decide))
          clear hv hx hcl hl0 hup
          refine wpOp_step rfl (fun K hK => ?_)
          go_simp
          exact hK _ _ ⟨Rz, fun _ => rfl, rfl, ck_keep HH.out.2 (by decide)⟩
        · obtain rfl := Option.some.inj ho.symm
          clear ho
          have d8 : fr0.tmps[(67 : Nat)]? = some (.int .i64 N) := hv ⟨8, .data⟩ (by simp) rfl _ rfl
          have d6 : fr0.tmps[(65 : Nat)]? = some (.bool true) := hv ⟨6, .guard⟩ (by simp) rfl _ rfl
          clear hv hx hcl hl0 hup
          refine wpOp_step rfl (fun K hK => ?_)
          go_simp
          go_at_call 17
          refine (HTR.out _).mono ?_
          rintro e w2 ⟨ra, rc, rfl, hmr, hb2⟩
          exact hK _ _ ⟨_, fun h => absurd rfl h, rfl, HH.out.2.1.trans (hb2.mono HH.out.2.1.size), fun _ => ⟨ra, rc, rfl, hmr⟩⟩
        · obtain rfl := Option.some.inj ho.symm
          clear ho
          have d7 : fr0.tmps[(66 : Nat)]? = some (.agg #[.int .i64 N, .bool false, .slice ta TL tc]) := hv ⟨7, .data⟩ (by simp) rfl _ rfl
          have d9 : fr0.tmps[(68 : Nat)]? = some (Rz) := hv ⟨9, .data⟩ (by simp) rfl _ rfl
          have d6 : fr0.tmps[(65 : Nat)]? = some (.bool true) := hv ⟨6, .guard⟩ (by simp) rfl _ rfl
          have h9 : lz.getD 9 false = true := hup ⟨9, .data⟩ (by simp) rfl
          obtain ⟨ra, rc, hR, hmr⟩ := HH.out.2.2 h9
          subst hR
          have HO := Lib.hid (And.intro hmr (H9.out.2.2.1.next HH.out.2.1))
          clear hmr
          clear hv hx hcl hl0 hup
          refine wpOp_step rfl (fun K hK => ?_)
          go_simp
          go_at_call 16
          refine (HOT.out _ _ _ _ _ HO.out.2 HO.out.1).mono ?_
          rintro e w2 ⟨rfl, hb2⟩
          exact hK _ _ ⟨.agg #[.int .i64 N, .bool false, .slice ra TL rc], fun _ => rfl, rfl, ck_next HH.out.2 (by decide) hb2⟩
        · obtain rfl := Option.some.inj ho.symm
          clear ho
          have d6 : fr0.tmps[(65 : Nat)]? = some (.bool true) := hv ⟨6, .data⟩ (by simp) rfl _ rfl
          have d10 : fr0.tmps[(69 : Nat)]? = some (.bool true) := hv ⟨10, .data⟩ (by simp) rfl _ rfl
          clear hv hx hcl hl0 hup
          refine wpOp_step rfl (fun K hK => ?_)
          go_simp
          exact hK _ _ ⟨Rz, fun _ => rfl, rfl, ck_keep HH.out.2 (by decide)⟩
        · obtain rfl := Option.some.inj ho.symm
          clear ho
          have d11 : fr0.tmps[(70 : Nat)]? = some (.bool true) := hv ⟨11, .data⟩ (by simp) rfl _ rfl
          clear hv hx hcl hl0 hup
          refine wpOp_step rfl (fun K hK => ?_)
          go_simp
          exact hK _ _ ⟨Rz, fun _ => rfl, rfl, ck_keep HH.out.2 (by decide)⟩
        · obtain rfl := Option.some.inj ho.symm
          clear ho
          have d12 : fr0.tmps[(71 : Nat)]? = some (.bool true) := hv ⟨12, .guard⟩ (by simp) rfl _ rfl
          have x9 : fr0.tmps[(9 : Nat)]? = some (.pointer (some ⟨U, 0, none⟩)) := hx 9 (not_up (by decide))
          have t0 : w'.cell? ⟨U, 0, none⟩ = some (.int .i64 N) := (HH.out.2.1.cell (p := ⟨U, 0, none⟩) H9.out.2.1.lt).trans (H9.out.2.1.cell 0)
          have t1 : w'.cell? ⟨U, 1, none⟩ = some (.bool true) := (HH.out.2.1.cell (p := ⟨U, 1, none⟩) H9.out.2.1.lt).trans (H9.out.2.1.cell 1)
          have t2 : w'.cell? ⟨U, 2, none⟩ = some (.slice none 0 0) := (HH.out.2.1.cell (p := ⟨U, 2, none⟩) H9.out.2.1.lt).trans (H9.out.2.1.cell 2)
          clear hv hx hcl hl0 hup
          refine wpOp_step rfl (fun K hK => ?_)
          go_simp
          exact hK _ _ ⟨Rz, fun _ => rfl, rfl, ck_keep HH.out.2 (by decide)⟩
        · obtain rfl := Option.some.inj ho.symm
          clear ho
          have d12 : fr0.tmps[(71 : Nat)]? = some (.bool true) := hv ⟨12, .guard⟩ (by simp) rfl _ rfl
          have x2 : fr0.tmps[(2 : Nat)]? = some (.int .i64 N) := hx 2 (not_up (by decide))
          clear hv hx hcl hl0 hup
          refine wpOp_step rfl (fun K hK => ?_)
          go_simp
          exact hK _ _ ⟨Rz, fun _ => rfl, rfl, ck_keep HH.out.2 (by decide)⟩
        · obtain rfl := Option.some.inj ho.symm
          clear ho
          have d14 : fr0.tmps[(73 : Nat)]? = some (.int .i64 N) := hv ⟨14, .data⟩ (by simp) rfl _ rfl
          have d12 : fr0.tmps[(71 : Nat)]? = some (.bool true) := hv ⟨12, .guard⟩ (by simp) rfl _ rfl
          clear hv hx hcl hl0 hup
          refine wpOp_step rfl (fun K hK => ?_)
          go_simp
          go_at_call 18
          refine (HER.out _).mono ?_
          rintro e w2 ⟨rfl, hb2⟩
          exact hK _ _ ⟨Rz, fun _ => rfl, rfl, ck_next HH.out.2 (by decide) hb2⟩
        · obtain rfl := Option.some.inj ho.symm
          clear ho
          have d13 : fr0.tmps[(72 : Nat)]? = some (.agg #[.int .i64 N, .bool true, .slice none 0 0]) := hv ⟨13, .data⟩ (by simp) rfl _ rfl
          have d15 : fr0.tmps[(74 : Nat)]? = some (.agg #[.int .i64 N, .bool true, .slice none 0 0]) := hv ⟨15, .data⟩ (by simp) rfl _ rfl
          have d12 : fr0.tmps[(71 : Nat)]? = some (.bool true) := hv ⟨12, .guard⟩ (by simp) rfl _ rfl
          clear hv hx hcl hl0 hup
          refine wpOp_step rfl (fun K hK => ?_)
          go_simp
          go_at_call 16
          refine (HOE.out _).mono ?_
          rintro e w2 ⟨rfl, hb2⟩
          exact hK _ _ ⟨Rz, fun _ => rfl, rfl, ck_next HH.out.2 (by decide) hb2⟩
        · obtain rfl := Option.some.inj ho.symm
          clear ho
          have d12 : fr0.tmps[(71 : Nat)]? = some (.bool true) := hv ⟨12, .data⟩ (by simp) rfl _ rfl
          have d16 : fr0.tmps[(75 : Nat)]? = some (.bool true) := hv ⟨16, .data⟩ (by simp) rfl _ rfl
          clear hv hx hcl hl0 hup
          refine wpOp_step rfl (fun K hK => ?_)
          go_simp
          exact hK _ _ ⟨Rz, fun _ => rfl, rfl, ck_keep HH.out.2 (by decide)⟩
        · obtain rfl := Option.some.inj ho.symm
          clear ho
          have d17 : fr0.tmps[(76 : Nat)]? = some (.bool true) := hv ⟨17, .data⟩ (by simp) rfl _ rfl
          clear hv hx hcl hl0 hup
          refine wpOp_step rfl (fun K hK => ?_)
          go_simp
          exact hK _ _ ⟨Rz, fun _ => rfl, rfl, ck_keep HH.out.2 (by decide)⟩
      case he =>
        intro lz Rz w' hall hJ
        simp only [putM, valsAt, Nat.reduceAdd, Nat.zero_add, List.getD_cons_zero, List.getD_cons_succ, Act.put, List.setIfInBounds_toArray, List.set_cons_succ, List.set_cons_zero]
        have HB := Lib.hid hJ.1
        clear hJ hall
        go_wp2_with fail
        go_ret
        exact ⟨rfl, H9.out.2.2.2.trans (HB.out.mono H9.out.2.2.2.size)⟩
end Go.Proofs.Ythnefcafhpioaaa
