/-
  The walk of DbmWith.
-/
import Derived.Test.YthnefcafhpioaaaDbL
namespace Go.Proofs.Ythnefcafhpioaaa
open Go Go.RowKit Go.Shelf

theorem withO_zero {x : Oc} {i j q : Int} (h : (withO x i j q).2 = 0) : chkO x = 0 ∧ witB x.n i j = true := by
  unfold withO at h
  by_cases h0 : chkO x = 0
  · refine ⟨h0, ?_⟩
    rw [if_neg (by simp [h0])] at h
    cases hw : witB x.n i j with
    | true => rfl
    | false => rw [if_pos hw] at h; cases h
  · rw [if_pos h0] at h; exact absurd h h0
abbrev WlF (w : World) (X Y : Nat) (cx cy : Array Value) (m pm p : List Int) (a pa ap : Option Addr) (W : World) : Prop := Blk W X cx 24 ∧ Blk W Y cy 24 ∧ MAt W m a ∧ MAt W pm pa ∧ MAt W p ap ∧ Below w.heap.size w W
theorem wl_step {w W W' : World} {X Y : Nat} {cx cy : Array Value} {m pm p : List Int} {a pa ap : Option Addr} (h : WlF w X Y cx cy m pm p a pa ap W) (hb : Below W.heap.size W W') : WlF w X Y cx cy m pm p a pa ap W' :=
  ⟨h.1.below hb h.1.lt, h.2.1.below hb h.2.1.lt, h.2.2.1.next hb, h.2.2.2.1.next hb, h.2.2.2.2.1.next hb, h.2.2.2.2.2.trans (hb.mono h.2.2.2.2.2.size)⟩
set_option maxRecDepth 100000 in
set_option maxHeartbeats 8000000 in
theorem with_law (x : Oc) (a : Option Addr) (c : Nat) (i j q : Int) (p : List Int) (ap : Option Addr) (cp : Nat) (w : World) (hm : MAt w x.m a) (hml : x.m.length ≤ maxLen) (hp : MAt w p ap) (hpi : ∀ v ∈ p, isI v) (hq : isI q) :
    Calls Try.prog 7 #[ocV x a c, .int .i64 i, .int .i64 j, .int .i64 q, .slice ap p.length cp] w fun e w' => e = .returned (.bool true) ∧ Below w.heap.size w w' := by
  obtain ⟨X, hX⟩ : ∃ X, w.heap.size = X := ⟨_, rfl⟩
  obtain ⟨n, em, m⟩ := x
  simp only at hm hml
  show Calls Try.prog 7 #[.agg #[.int .i64 n, .bool em, .slice a m.length c], .int .i64 i, .int .i64 j, .int .i64 q, .slice ap p.length cp] w _
  obtain ⟨W1, hW1⟩ : ∃ W, w.alloc (.cells #[.int .i64 n, .bool em, .slice a m.length c] 24) = W := ⟨_, rfl⟩
  have hx1 : Blk W1 X #[.int .i64 n, .bool em, .slice a m.length c] 24 := by rw [← hW1, ← hX]; exact Blk.new w _ _
  have hb1 : Below X w W1 := by rw [← hW1, ← hX]; exact (Below.refl _ w).alloc (Nat.le_refl _) _
  have HKN := Lib.hid (known12_any W1)
  have HKP : Hid (∀ ww : World, Below W1.heap.size W1 ww → Blk ww X #[.int .i64 n, .bool em, .slice a m.length c] 24 ∧ MAt ww m a ∧ MAt ww p ap ∧ Below X w ww) := Lib.hid fun ww hb => ⟨hx1.below hb hx1.lt, (hm.next (by rw [hX]; exact hb1)).next hb, (hp.next (by rw [hX]; exact hb1)).next hb, hb1.trans (hb.mono (Nat.le_of_lt hx1.lt))⟩
  have HWI : Hid (∀ ww : World, MAt ww m a → Calls Try.prog 22 #[.agg #[.int .i64 n, .bool em, .slice a m.length c], .int .i64 i, .int .i64 j, .int .i64 q] ww (OctTo ww (withO ⟨n, em, m⟩ i j q).1 (withO ⟨n, em, m⟩ i j q).2)) := Lib.hid fun ww h => with_any ⟨n, em, m⟩ a c i j q ww h hml
  have HW := Lib.hid (And.intro hX hW1)
  obtain ⟨L, hL⟩ : ∃ L, m.length = L := ⟨_, rfl⟩
  obtain ⟨np, hnp⟩ : ∃ L, p.length = L := ⟨_, rfl⟩
  obtain ⟨E, hE⟩ : ∃ E, (withO ⟨n, em, m⟩ i j q).2 = E := ⟨_, rfl⟩
  obtain ⟨po, hpo⟩ : ∃ E, (withO ⟨n, em, m⟩ i j q).1 = E := ⟨_, rfl⟩
  rw [hE, hpo] at HWI
  have x0 : W1.cell? ⟨X, 0, none⟩ = some (.int .i64 n) := hx1.cell 0
  have x1 : W1.cell? ⟨X, 1, none⟩ = some (.bool em) := hx1.cell 1
  have x2 : W1.cell? ⟨X, 2, none⟩ = some (.slice a m.length c) := hx1.cell 2
  by_cases h0 : E = 0
  · subst h0
    by_cases hnn : (np : Int) = n
    · obtain ⟨hc0, hw0⟩ := withO_zero hE
      obtain ⟨N, hN, hn, -, -⟩ := chk_zero hc0
      simp only at hn hw0
      obtain ⟨hi0, hj0, hi1, hj1⟩ := (witB_iff _ _ _).1 hw0
      obtain ⟨i, rfl⟩ : ∃ k : Nat, i = (k : Int) := ⟨i.toNat, by omega⟩
      obtain ⟨j, rfl⟩ : ∃ k : Nat, j = (k : Int) := ⟨j.toNat, by omega⟩
      have hwh := (with_has (p := p) hc0 hw0 (by rw [hnp]; exact hnn) hq.2).2
      rw [hpo] at hwh
      obtain ⟨H2, hH2⟩ : ∃ H, hasV ⟨n, em, m⟩ p = H := ⟨_, rfl⟩
      rw [hH2] at hwh
      have HH2 : Hid (∀ ww : World, MAt ww m a → MAt ww p ap → Calls Try.prog 25 #[.agg #[.int .i64 n, .bool em, .slice a L c], .slice ap np cp] ww fun e w' => e = .returned (.bool H2) ∧ Below ww.heap.size ww w') := Lib.hid fun ww h1 h2 => by
        have h := has_any ⟨n, em, m⟩ a c p ap cp ww h1 h2 hpi
        rw [hH2] at h
        rw [← hL, ← hnp]; exact h
      have HDD : Hid (∀ ww : World, MAt ww p ap → Calls Try.prog 31 #[.slice ap np cp, .int .i64 i, .int .i64 j] ww fun e w' => e = .returned (.tuple #[.int .i64 (diffV p i j).1, .int .i64 (diffV p i j).2]) ∧ Below ww.heap.size ww w') := Lib.hid fun ww h => by
        have h2 := diff_any p hpi ap cp i j (by omega) (by omega) (by omega) ww h
        rw [hnp] at h2
        exact h2
      rw [hL] at x2 HW HKP HWI ⊢
      rw [hnp]
      have HPI := Lib.hid (And.intro hpi hnp)
      have k0 : ((np : Int) != n) = false := by simp [hnn]
      clear hW1 hX hx1 hb1 hm hp hE hpo hH2 hi0 hj0 hi1 hj1 hc0 hw0 hn hL hnp hpi hml hN
      go_enter Try.func7, Try.ntmps7
      go_upto_region 1 with fail
      rw [HW.out.1, HW.out.2]
      go_upto_region 4 with (first | (go_at_call 9; (with_reducible refine HKN.out.mono ?_); rintro e w2 ⟨rfl, hb2⟩; have HK2 := Lib.hid (HKP.out _ hb2); have y0 := HK2.out.1.cell 0; have y1 := HK2.out.1.cell 1; have y2 := HK2.out.1.cell 2) | (go_at_call 22; (with_reducible refine (HWI.out _ HK2.out.2.1).mono ?_); rintro e w3 ⟨pa, pc, rfl, hpm, hb3⟩))
      obtain ⟨pn, pe, pm⟩ := po
      have HH1 : Hid (∀ ww : World, MAt ww pm pa → MAt ww p ap → Calls Try.prog 25 #[.agg #[.int .i64 pn, .bool pe, .slice pa pm.length pc], .slice ap np cp] ww fun e w' => e = .returned (.bool (H2 && keepB p i j q)) ∧ Below ww.heap.size ww w') := Lib.hid fun ww h1 h2 => by
        have h := has_any ⟨pn, pe, pm⟩ pa pc p ap cp ww h1 h2 HPI.out.1
        rw [hwh, HPI.out.2] at h
        exact h
      obtain ⟨Y, hY⟩ : ∃ Y, w3.heap.size = Y := ⟨_, rfl⟩
      obtain ⟨pl, hpl⟩ : ∃ Y, pm.length = Y := ⟨_, rfl⟩
      obtain ⟨W4, hW4⟩ : ∃ W, w3.alloc (.cells #[.int .i64 pn, .bool pe, .slice pa pm.length pc] 24) = W := ⟨_, rfl⟩
      have H4 : Hid (WlF w X Y #[.int .i64 n, .bool em, .slice a L c] #[.int .i64 pn, .bool pe, .slice pa pl pc] m pm p a pa ap W4) := Lib.hid (by
        have hb4 : Below w3.heap.size w3 W4 := by rw [← hW4]; exact (Below.refl _ w3).alloc (Nat.le_refl _) _
        have hsz : w2.heap.size ≤ w3.heap.size := hb3.size
        have hY4 : Blk W4 Y #[.int .i64 pn, .bool pe, .slice pa pm.length pc] 24 := by rw [← hW4, ← hY]; exact Blk.new w3 _ _
        rw [hpl] at hY4
        refine ⟨(HK2.out.1.below hb3 HK2.out.1.lt).below hb4 (by have := HK2.out.1.lt; omega), hY4, (HK2.out.2.1.next hb3).next hb4, hpm.mat.next hb4, (HK2.out.2.2.1.next hb3).next hb4, ?_⟩
        rw [HW.out.1]
        exact (HK2.out.2.2.2.trans (hb3.mono (by have := HK2.out.1.lt; omega))).trans (hb4.mono (by have := HK2.out.1.lt; omega)))
      rw [hpl] at hW4 HH1
      simp only [hY]
      rw [show (⟨pn, pe, pm⟩ : Oc).m.length = pl from hpl, hW4]
      have z0 : W4.cell? ⟨X, 0, none⟩ = some (.int .i64 n) := H4.out.1.cell 0
      have HDF := Lib.hid (HDD.out W4 H4.out.2.2.2.2.1)
      clear hY hW4 hpl hwh hpm hb3 hb2 HK2 HKP HWI HKN HDD x0 x1 x2 y0 y1 y2
      by_cases q1 : q ≤ 4611686018427387904
      · obtain ⟨d, far, hd⟩ : ∃ d far, diffV p i j = (d, far) := ⟨_, _, rfl⟩
        have hfar : far = 1 ∨ far = -1 ∨ far = 0 := by
          have : far = (diffV p i j).2 := by rw [hd]
          rw [this]; unfold diffV; split
          · exact .inl rfl
          · split
            · exact .inr (.inl rfl)
            · exact .inr (.inr rfl)
        have hkb : keepB p i j q = (decide (far < 0) || (far == 0 && decide (d ≤ max q (-4611686018427387904)))) := by unfold keepB; rw [if_pos q1, hd]
        rw [hd] at HDF
        rcases hfar with rfl | rfl | rfl
        · rw [show keepB p i j q = false by rw [hkb]; rfl] at HH1
          clear hkb hd hq hnn
          go_upto_region 10 with (go_at_call 31; (with_reducible refine (HDF.out).mono ?_); rintro e W9 ⟨rfl, hb9⟩)
          have H9 := Lib.hid (wl_step H4.out hb9)
          clear hb9 HDF H4
          cases hh : H2 with
          | true =>
            rw [hh] at HH2 HH1
            rw [show (true && false) = false from rfl] at HH1
            clear hh
            refine wp_region_any (by kernel_rfl) ?_
            refine wpAny_vals [56, 57, 58, 59, 60, 61, 62, 63, 64, 65, 10] [.agg #[.int .i64 pn, .bool pe, .slice pa pl pc], .slice ap np cp, .bool false, .agg #[.int .i64 n, .bool em, .slice a L c], .slice ap np cp, .bool true, .bool true, .bool false, .bool false, .bool true, .bool true] (fun w' => Below W9.heap.size W9 w') rfl (by kernel_rfl) (by decide) (by kernel_rfl) ?hs ?he ?hj
            case hj => exact (Below.refl _ _).drew
            case hs =>
              intro qi qo ho fr0 hv hx w' hJ
              have hi : qi < 11 := (Array.getElem?_eq_some_iff.1 ho).1
              have HM := Lib.hid (And.intro (H9.out.2.2.1.next hJ) (And.intro (H9.out.2.2.2.1.next hJ) (H9.out.2.2.2.2.1.next hJ)))
              have y0 : w'.cell? ⟨Y, 0, none⟩ = some (.int .i64 pn) := (hJ.cell (p := ⟨Y, 0, none⟩) H9.out.2.1.lt).trans (H9.out.2.1.cell 0)
              have y1 : w'.cell? ⟨Y, 1, none⟩ = some (.bool pe) := (hJ.cell (p := ⟨Y, 1, none⟩) H9.out.2.1.lt).trans (H9.out.2.1.cell 1)
              have y2 : w'.cell? ⟨Y, 2, none⟩ = some (.slice pa pl pc) := (hJ.cell (p := ⟨Y, 2, none⟩) H9.out.2.1.lt).trans (H9.out.2.1.cell 2)
              have x0 : w'.cell? ⟨X, 0, none⟩ = some (.int .i64 n) := (hJ.cell (p := ⟨X, 0, none⟩) H9.out.1.lt).trans (H9.out.1.cell 0)
              have x1 : w'.cell? ⟨X, 1, none⟩ = some (.bool em) := (hJ.cell (p := ⟨X, 1, none⟩) H9.out.1.lt).trans (H9.out.1.cell 1)
              have x2 : w'.cell? ⟨X, 2, none⟩ = some (.slice a L c) := (hJ.cell (p := ⟨X, 2, none⟩) H9.out.1.lt).trans (H9.out.1.cell 2)
              have HJ := Lib.hid hJ
              clear hJ
              have hcase : qi = 0 ∨ qi = 1 ∨ qi = 2 ∨ qi = 3 ∨ qi = 4 ∨ qi = 5 ∨ qi = 6 ∨ qi = 7 ∨ qi = 8 ∨ qi = 9 ∨ qi = 10 := by omega
              clear hi
              rcases hcase with rfl | rfl | rfl | rfl | rfl | rfl | rfl | rfl | rfl | rfl | rfl
              · obtain rfl := Option.some.inj ho.symm
                clear ho
                have x11 : fr0.tmps[(11 : Nat)]? = some (.pointer (some ⟨Y, 0, none⟩)) := hx 11 (by decide)
                clear hv hx
                refine wpOp_step rfl (fun K hK => ?_)
                go_simp
                exact hK _ _ ⟨rfl, HJ.out⟩
              · obtain rfl := Option.some.inj ho.symm
                clear ho
                have x4 : fr0.tmps[(4 : Nat)]? = some (.slice ap np cp) := hx 4 (by decide)
                clear hv hx
                refine wpOp_step rfl (fun K hK => ?_)
                go_simp
                exact hK _ _ ⟨rfl, HJ.out⟩
              · obtain rfl := Option.some.inj ho.symm
                clear ho
                have d0 : fr0.tmps[(56 : Nat)]? = some (.agg #[.int .i64 pn, .bool pe, .slice pa pl pc]) := hv ⟨0, .data⟩ (by simp) rfl
                have d1 : fr0.tmps[(57 : Nat)]? = some (.slice ap np cp) := hv ⟨1, .data⟩ (by simp) rfl
                clear hv hx
                refine wpOp_step rfl (fun K hK => ?_)
                go_simp
                go_at_call 25
                refine (HH1.out _ HM.out.2.1 HM.out.2.2).mono ?_
                rintro e w2 ⟨rfl, hb2⟩
                exact hK _ _ ⟨rfl, HJ.out.trans (hb2.mono HJ.out.size)⟩
              · obtain rfl := Option.some.inj ho.symm
                clear ho
                have x5 : fr0.tmps[(5 : Nat)]? = some (.pointer (some ⟨X, 0, none⟩)) := hx 5 (by decide)
                clear hv hx
                refine wpOp_step rfl (fun K hK => ?_)
                go_simp
                exact hK _ _ ⟨rfl, HJ.out⟩
              · obtain rfl := Option.some.inj ho.symm
                clear ho
                have x4 : fr0.tmps[(4 : Nat)]? = some (.slice ap np cp) := hx 4 (by decide)
                clear hv hx
                refine wpOp_step rfl (fun K hK => ?_)
                go_simp
                exact hK _ _ ⟨rfl, HJ.out⟩
              · obtain rfl := Option.some.inj ho.symm
                clear ho
                have d3 : fr0.tmps[(59 : Nat)]? = some (.agg #[.int .i64 n, .bool em, .slice a L c]) := hv ⟨3, .data⟩ (by simp) rfl
                have d4 : fr0.tmps[(60 : Nat)]? = some (.slice ap np cp) := hv ⟨4, .data⟩ (by simp) rfl
                clear hv hx
                refine wpOp_step rfl (fun K hK => ?_)
                go_simp
                go_at_call 25
                refine (HH2.out _ HM.out.1 HM.out.2.2).mono ?_
                rintro e w2 ⟨rfl, hb2⟩
                exact hK _ _ ⟨rfl, HJ.out.trans (hb2.mono HJ.out.size)⟩
              · obtain rfl := Option.some.inj ho.symm
                clear ho
                have d5 : fr0.tmps[(61 : Nat)]? = some (.bool true) := hv ⟨5, .data⟩ (by simp) rfl
                clear hv hx
                refine wpOp_step rfl (fun K hK => ?_)
                go_simp
                exact hK _ _ ⟨rfl, HJ.out⟩
              · obtain rfl := Option.some.inj ho.symm
                clear ho
                have d6 : fr0.tmps[(62 : Nat)]? = some (.bool true) := hv ⟨6, .guard⟩ (by simp) rfl
                have x13 : fr0.tmps[(13 : Nat)]? = some (.bool false) := hx 13 (by decide)
                clear hv hx
                refine wpOp_step rfl (fun K hK => ?_)
                go_simp
                exact hK _ _ ⟨rfl, HJ.out⟩
              · obtain rfl := Option.some.inj ho.symm
                clear ho
                have d6 : fr0.tmps[(62 : Nat)]? = some (.bool true) := hv ⟨6, .data⟩ (by simp) rfl
                have d7 : fr0.tmps[(63 : Nat)]? = some (.bool false) := hv ⟨7, .data⟩ (by simp) rfl
                clear hv hx
                refine wpOp_step rfl (fun K hK => ?_)
                go_simp
                exact hK _ _ ⟨rfl, HJ.out⟩
              · obtain rfl := Option.some.inj ho.symm
                clear ho
                have d2 : fr0.tmps[(58 : Nat)]? = some (.bool false) := hv ⟨2, .data⟩ (by simp) rfl
                have d8 : fr0.tmps[(64 : Nat)]? = some (.bool false) := hv ⟨8, .data⟩ (by simp) rfl
                clear hv hx
                refine wpOp_step rfl (fun K hK => ?_)
                go_simp
                exact hK _ _ ⟨rfl, HJ.out⟩
              · obtain rfl := Option.some.inj ho.symm
                clear ho
                have d9 : fr0.tmps[(65 : Nat)]? = some (.bool true) := hv ⟨9, .data⟩ (by simp) rfl
                clear hv hx
                refine wpOp_step rfl (fun K hK => ?_)
                go_simp
                exact hK _ _ ⟨rfl, HJ.out⟩
            case he =>
              intro w' hJ
              simp only [putF, valsAt, Nat.reduceAdd, Nat.zero_add, List.getD_cons_zero, List.getD_cons_succ, Act.put, List.setIfInBounds_toArray, List.set_cons_succ, List.set_cons_zero]
              have HJ := Lib.hid hJ
              clear hJ
              go_wp2_with fail
              go_ret
              exact ⟨rfl, H9.out.2.2.2.2.2.trans (HJ.out.mono H9.out.2.2.2.2.2.size)⟩
          | false =>
            rw [hh] at HH2 HH1
            rw [show (false && false) = false from rfl] at HH1
            clear hh
            refine wp_region_any (by kernel_rfl) ?_
            refine wpAny_vals [56, 57, 58, 59, 60, 61, 62, 63, 64, 65, 10] [.agg #[.int .i64 pn, .bool pe, .slice pa pl pc], .slice ap np cp, .bool false, .agg #[.int .i64 n, .bool em, .slice a L c], .slice ap np cp, .bool false, .bool false, undef, .bool false, .bool true, .bool true] (fun w' => Below W9.heap.size W9 w') rfl (by kernel_rfl) (by decide) (by kernel_rfl) ?hs ?he ?hj
            case hj => exact (Below.refl _ _).drew
            case hs =>
              intro qi qo ho fr0 hv hx w' hJ
              have hi : qi < 11 := (Array.getElem?_eq_some_iff.1 ho).1
              have HM := Lib.hid (And.intro (H9.out.2.2.1.next hJ) (And.intro (H9.out.2.2.2.1.next hJ) (H9.out.2.2.2.2.1.next hJ)))
              have y0 : w'.cell? ⟨Y, 0, none⟩ = some (.int .i64 pn) := (hJ.cell (p := ⟨Y, 0, none⟩) H9.out.2.1.lt).trans (H9.out.2.1.cell 0)
              have y1 : w'.cell? ⟨Y, 1, none⟩ = some (.bool pe) := (hJ.cell (p := ⟨Y, 1, none⟩) H9.out.2.1.lt).trans (H9.out.2.1.cell 1)
              have y2 : w'.cell? ⟨Y, 2, none⟩ = some (.slice pa pl pc) := (hJ.cell (p := ⟨Y, 2, none⟩) H9.out.2.1.lt).trans (H9.out.2.1.cell 2)
              have x0 : w'.cell? ⟨X, 0, none⟩ = some (.int .i64 n) := (hJ.cell (p := ⟨X, 0, none⟩) H9.out.1.lt).trans (H9.out.1.cell 0)
              have x1 : w'.cell? ⟨X, 1, none⟩ = some (.bool em) := (hJ.cell (p := ⟨X, 1, none⟩) H9.out.1.lt).trans (H9.out.1.cell 1)
              have x2 : w'.cell? ⟨X, 2, none⟩ = some (.slice a L c) := (hJ.cell (p := ⟨X, 2, none⟩) H9.out.1.lt).trans (H9.out.1.cell 2)
              have HJ := Lib.hid hJ
              clear hJ
              have hcase : qi = 0 ∨ qi = 1 ∨ qi = 2 ∨ qi = 3 ∨ qi = 4 ∨ qi = 5 ∨ qi = 6 ∨ qi = 7 ∨ qi = 8 ∨ qi = 9 ∨ qi = 10 := by omega
              clear hi
              rcases hcase with rfl | rfl | rfl | rfl | rfl | rfl | rfl | rfl | rfl | rfl | rfl
              · obtain rfl := Option.some.inj ho.symm
                clear ho
                have x11 : fr0.tmps[(11 : Nat)]? = some (.pointer (some ⟨Y, 0, none⟩)) := hx 11 (by decide)
                clear hv hx
                refine wpOp_step rfl (fun K hK => ?_)
                go_simp
                exact hK _ _ ⟨rfl, HJ.out⟩
              · obtain rfl := Option.some.inj ho.symm
                clear ho
                have x4 : fr0.tmps[(4 : Nat)]? = some (.slice ap np cp) := hx 4 (by decide)
                clear hv hx
                refine wpOp_step rfl (fun K hK => ?_)
                go_simp
                exact hK _ _ ⟨rfl, HJ.out⟩
              · obtain rfl := Option.some.inj ho.symm
                clear ho
                have d0 : fr0.tmps[(56 : Nat)]? = some (.agg #[.int .i64 pn, .bool pe, .slice pa pl pc]) := hv ⟨0, .data⟩ (by simp) rfl
                have d1 : fr0.tmps[(57 : Nat)]? = some (.slice ap np cp) := hv ⟨1, .data⟩ (by simp) rfl
                clear hv hx
                refine wpOp_step rfl (fun K hK => ?_)
                go_simp
                go_at_call 25
                refine (HH1.out _ HM.out.2.1 HM.out.2.2).mono ?_
                rintro e w2 ⟨rfl, hb2⟩
                exact hK _ _ ⟨rfl, HJ.out.trans (hb2.mono HJ.out.size)⟩
              · obtain rfl := Option.some.inj ho.symm
                clear ho
                have x5 : fr0.tmps[(5 : Nat)]? = some (.pointer (some ⟨X, 0, none⟩)) := hx 5 (by decide)
                clear hv hx
                refine wpOp_step rfl (fun K hK => ?_)
                go_simp
                exact hK _ _ ⟨rfl, HJ.out⟩
              · obtain rfl := Option.some.inj ho.symm
                clear ho
                have x4 : fr0.tmps[(4 : Nat)]? = some (.slice ap np cp) := hx 4 (by decide)
                clear hv hx
                refine wpOp_step rfl (fun K hK => ?_)
                go_simp
                exact hK _ _ ⟨rfl, HJ.out⟩
              · obtain rfl := Option.some.inj ho.symm
                clear ho
                have d3 : fr0.tmps[(59 : Nat)]? = some (.agg #[.int .i64 n, .bool em, .slice a L c]) := hv ⟨3, .data⟩ (by simp) rfl
                have d4 : fr0.tmps[(60 : Nat)]? = some (.slice ap np cp) := hv ⟨4, .data⟩ (by simp) rfl
                clear hv hx
                refine wpOp_step rfl (fun K hK => ?_)
                go_simp
                go_at_call 25
                refine (HH2.out _ HM.out.1 HM.out.2.2).mono ?_
                rintro e w2 ⟨rfl, hb2⟩
                exact hK _ _ ⟨rfl, HJ.out.trans (hb2.mono HJ.out.size)⟩
              · obtain rfl := Option.some.inj ho.symm
                clear ho
                have d5 : fr0.tmps[(61 : Nat)]? = some (.bool false) := hv ⟨5, .data⟩ (by simp) rfl
                clear hv hx
                refine wpOp_step rfl (fun K hK => ?_)
                go_simp
                exact hK _ _ ⟨rfl, HJ.out⟩
              · obtain rfl := Option.some.inj ho.symm
                clear ho
                have d6 : fr0.tmps[(62 : Nat)]? = some (.bool false) := hv ⟨6, .guard⟩ (by simp) rfl
                have x13 : fr0.tmps[(13 : Nat)]? = some (.bool false) := hx 13 (by decide)
                clear hv hx
                refine wpOp_step rfl (fun K hK => ?_)
                go_simp
                exact hK _ _ ⟨rfl, HJ.out⟩
              · obtain rfl := Option.some.inj ho.symm
                clear ho
                have d6 : fr0.tmps[(62 : Nat)]? = some (.bool false) := hv ⟨6, .data⟩ (by simp) rfl
                have d7 : fr0.tmps[(63 : Nat)]? = some (undef) := hv ⟨7, .data⟩ (by simp) rfl
                clear hv hx
                refine wpOp_step rfl (fun K hK => ?_)
                go_simp
                exact hK _ _ ⟨rfl, HJ.out⟩
              · obtain rfl := Option.some.inj ho.symm
                clear ho
                have d2 : fr0.tmps[(58 : Nat)]? = some (.bool false) := hv ⟨2, .data⟩ (by simp) rfl
                have d8 : fr0.tmps[(64 : Nat)]? = some (.bool false) := hv ⟨8, .data⟩ (by simp) rfl
                clear hv hx
                refine wpOp_step rfl (fun K hK => ?_)
                go_simp
                exact hK _ _ ⟨rfl, HJ.out⟩
              · obtain rfl := Option.some.inj ho.symm
                clear ho
                have d9 : fr0.tmps[(65 : Nat)]? = some (.bool true) := hv ⟨9, .data⟩ (by simp) rfl
                clear hv hx
                refine wpOp_step rfl (fun K hK => ?_)
                go_simp
                exact hK _ _ ⟨rfl, HJ.out⟩
            case he =>
              intro w' hJ
              simp only [putF, valsAt, Nat.reduceAdd, Nat.zero_add, List.getD_cons_zero, List.getD_cons_succ, Act.put, List.setIfInBounds_toArray, List.set_cons_succ, List.set_cons_zero]
              have HJ := Lib.hid hJ
              clear hJ
              go_wp2_with fail
              go_ret
              exact ⟨rfl, H9.out.2.2.2.2.2.trans (HJ.out.mono H9.out.2.2.2.2.2.size)⟩
        · rw [show keepB p i j q = true by rw [hkb]; rfl] at HH1
          clear hkb hd hq hnn
          go_upto_region 10 with (go_at_call 31; (with_reducible refine (HDF.out).mono ?_); rintro e W9 ⟨rfl, hb9⟩)
          have H9 := Lib.hid (wl_step H4.out hb9)
          clear hb9 HDF H4
          cases hh : H2 with
          | true =>
            rw [hh] at HH2 HH1
            rw [show (true && true) = true from rfl] at HH1
            clear hh
            refine wp_region_any (by kernel_rfl) ?_
            refine wpAny_vals [56, 57, 58, 59, 60, 61, 62, 63, 64, 65, 10] [.agg #[.int .i64 pn, .bool pe, .slice pa pl pc], .slice ap np cp, .bool true, .agg #[.int .i64 n, .bool em, .slice a L c], .slice ap np cp, .bool true, .bool true, .bool true, .bool true, .bool true, .bool true] (fun w' => Below W9.heap.size W9 w') rfl (by kernel_rfl) (by decide) (by kernel_rfl) ?hs ?he ?hj
            case hj => exact (Below.refl _ _).drew
            case hs =>
              intro qi qo ho fr0 hv hx w' hJ
              have hi : qi < 11 := (Array.getElem?_eq_some_iff.1 ho).1
              have HM := Lib.hid (And.intro (H9.out.2.2.1.next hJ) (And.intro (H9.out.2.2.2.1.next hJ) (H9.out.2.2.2.2.1.next hJ)))
              have y0 : w'.cell? ⟨Y, 0, none⟩ = some (.int .i64 pn) := (hJ.cell (p := ⟨Y, 0, none⟩) H9.out.2.1.lt).trans (H9.out.2.1.cell 0)
              have y1 : w'.cell? ⟨Y, 1, none⟩ = some (.bool pe) := (hJ.cell (p := ⟨Y, 1, none⟩) H9.out.2.1.lt).trans (H9.out.2.1.cell 1)
              have y2 : w'.cell? ⟨Y, 2, none⟩ = some (.slice pa pl pc) := (hJ.cell (p := ⟨Y, 2, none⟩) H9.out.2.1.lt).trans (H9.out.2.1.cell 2)
              have x0 : w'.cell? ⟨X, 0, none⟩ = some (.int .i64 n) := (hJ.cell (p := ⟨X, 0, none⟩) H9.out.1.lt).trans (H9.out.1.cell 0)
              have x1 : w'.cell? ⟨X, 1, none⟩ = some (.bool em) := (hJ.cell (p := ⟨X, 1, none⟩) H9.out.1.lt).trans (H9.out.1.cell 1)
              have x2 : w'.cell? ⟨X, 2, none⟩ = some (.slice a L c) := (hJ.cell (p := ⟨X, 2, none⟩) H9.out.1.lt).trans (H9.out.1.cell 2)
              have HJ := Lib.hid hJ
              clear hJ
              have hcase : qi = 0 ∨ qi = 1 ∨ qi = 2 ∨ qi = 3 ∨ qi = 4 ∨ qi = 5 ∨ qi = 6 ∨ qi = 7 ∨ qi = 8 ∨ qi = 9 ∨ qi = 10 := by omega
              clear hi
              rcases hcase with rfl | rfl | rfl | rfl | rfl | rfl | rfl | rfl | rfl | rfl | rfl
              · obtain rfl := Option.some.inj ho.symm
                clear ho
                have x11 : fr0.tmps[(11 : Nat)]? = some (.pointer (some ⟨Y, 0, none⟩)) := hx 11 (by decide)
                clear hv hx
                refine wpOp_step rfl (fun K hK => ?_)
                go_simp
                exact hK _ _ ⟨rfl, HJ.out⟩
              · obtain rfl := Option.some.inj ho.symm
                clear ho
                have x4 : fr0.tmps[(4 : Nat)]? = some (.slice ap np cp) := hx 4 (by decide)
                clear hv hx
                refine wpOp_step rfl (fun K hK => ?_)
                go_simp
                exact hK _ _ ⟨rfl, HJ.out⟩
              · obtain rfl := Option.some.inj ho.symm
                clear ho
                have d0 : fr0.tmps[(56 : Nat)]? = some (.agg #[.int .i64 pn, .bool pe, .slice pa pl pc]) := hv ⟨0, .data⟩ (by simp) rfl
                have d1 : fr0.tmps[(57 : Nat)]? = some (.slice ap np cp) := hv ⟨1, .data⟩ (by simp) rfl
                clear hv hx
                refine wpOp_step rfl (fun K hK => ?_)
                go_simp
                go_at_call 25
                refine (HH1.out _ HM.out.2.1 HM.out.2.2).mono ?_
                rintro e w2 ⟨rfl, hb2⟩
                exact hK _ _ ⟨rfl, HJ.out.trans (hb2.mono HJ.out.size)⟩
              · obtain rfl := Option.some.inj ho.symm
                clear ho
                have x5 : fr0.tmps[(5 : Nat)]? = some (.pointer (some ⟨X, 0, none⟩)) := hx 5 (by decide)
                clear hv hx
                refine wpOp_step rfl (fun K hK => ?_)
                go_simp
                exact hK _ _ ⟨rfl, HJ.out⟩
              · obtain rfl := Option.some.inj ho.symm
                clear ho
                have x4 : fr0.tmps[(4 : Nat)]? = some (.slice ap np cp) := hx 4 (by decide)
                clear hv hx
                refine wpOp_step rfl (fun K hK => ?_)
                go_simp
                exact hK _ _ ⟨rfl, HJ.out⟩
              · obtain rfl := Option.some.inj ho.symm
                clear ho
                have d3 : fr0.tmps[(59 : Nat)]? = some (.agg #[.int .i64 n, .bool em, .slice a L c]) := hv ⟨3, .data⟩ (by simp) rfl
                have d4 : fr0.tmps[(60 : Nat)]? = some (.slice ap np cp) := hv ⟨4, .data⟩ (by simp) rfl
                clear hv hx
                refine wpOp_step rfl (fun K hK => ?_)
                go_simp
                go_at_call 25
                refine (HH2.out _ HM.out.1 HM.out.2.2).mono ?_
                rintro e w2 ⟨rfl, hb2⟩
                exact hK _ _ ⟨rfl, HJ.out.trans (hb2.mono HJ.out.size)⟩
              · obtain rfl := Option.some.inj ho.symm
                clear ho
                have d5 : fr0.tmps[(61 : Nat)]? = some (.bool true) := hv ⟨5, .data⟩ (by simp) rfl
                clear hv hx
                refine wpOp_step rfl (fun K hK => ?_)
                go_simp
                exact hK _ _ ⟨rfl, HJ.out⟩
              · obtain rfl := Option.some.inj ho.symm
                clear ho
                have d6 : fr0.tmps[(62 : Nat)]? = some (.bool true) := hv ⟨6, .guard⟩ (by simp) rfl
                have x13 : fr0.tmps[(13 : Nat)]? = some (.bool true) := hx 13 (by decide)
                clear hv hx
                refine wpOp_step rfl (fun K hK => ?_)
                go_simp
                exact hK _ _ ⟨rfl, HJ.out⟩
              · obtain rfl := Option.some.inj ho.symm
                clear ho
                have d6 : fr0.tmps[(62 : Nat)]? = some (.bool true) := hv ⟨6, .data⟩ (by simp) rfl
                have d7 : fr0.tmps[(63 : Nat)]? = some (.bool true) := hv ⟨7, .data⟩ (by simp) rfl
                clear hv hx
                refine wpOp_step rfl (fun K hK => ?_)
                go_simp
                exact hK _ _ ⟨rfl, HJ.out⟩
              · obtain rfl := Option.some.inj ho.symm
                clear ho
                have d2 : fr0.tmps[(58 : Nat)]? = some (.bool true) := hv ⟨2, .data⟩ (by simp) rfl
                have d8 : fr0.tmps[(64 : Nat)]? = some (.bool true) := hv ⟨8, .data⟩ (by simp) rfl
                clear hv hx
                refine wpOp_step rfl (fun K hK => ?_)
                go_simp
                exact hK _ _ ⟨rfl, HJ.out⟩
              · obtain rfl := Option.some.inj ho.symm
                clear ho
                have d9 : fr0.tmps[(65 : Nat)]? = some (.bool true) := hv ⟨9, .data⟩ (by simp) rfl
                clear hv hx
                refine wpOp_step rfl (fun K hK => ?_)
                go_simp
                exact hK _ _ ⟨rfl, HJ.out⟩
            case he =>
              intro w' hJ
              simp only [putF, valsAt, Nat.reduceAdd, Nat.zero_add, List.getD_cons_zero, List.getD_cons_succ, Act.put, List.setIfInBounds_toArray, List.set_cons_succ, List.set_cons_zero]
              have HJ := Lib.hid hJ
              clear hJ
              go_wp2_with fail
              go_ret
              exact ⟨rfl, H9.out.2.2.2.2.2.trans (HJ.out.mono H9.out.2.2.2.2.2.size)⟩
          | false =>
            rw [hh] at HH2 HH1
            rw [show (false && true) = false from rfl] at HH1
            clear hh
            refine wp_region_any (by kernel_rfl) ?_
            refine wpAny_vals [56, 57, 58, 59, 60, 61, 62, 63, 64, 65, 10] [.agg #[.int .i64 pn, .bool pe, .slice pa pl pc], .slice ap np cp, .bool false, .agg #[.int .i64 n, .bool em, .slice a L c], .slice ap np cp, .bool false, .bool false, undef, .bool false, .bool true, .bool true] (fun w' => Below W9.heap.size W9 w') rfl (by kernel_rfl) (by decide) (by kernel_rfl) ?hs ?he ?hj
            case hj => exact (Below.refl _ _).drew
            case hs =>
              intro qi qo ho fr0 hv hx w' hJ
              have hi : qi < 11 := (Array.getElem?_eq_some_iff.1 ho).1
              have HM := Lib.hid (And.intro (H9.out.2.2.1.next hJ) (And.intro (H9.out.2.2.2.1.next hJ) (H9.out.2.2.2.2.1.next hJ)))
              have y0 : w'.cell? ⟨Y, 0, none⟩ = some (.int .i64 pn) := (hJ.cell (p := ⟨Y, 0, none⟩) H9.out.2.1.lt).trans (H9.out.2.1.cell 0)
              have y1 : w'.cell? ⟨Y, 1, none⟩ = some (.bool pe) := (hJ.cell (p := ⟨Y, 1, none⟩) H9.out.2.1.lt).trans (H9.out.2.1.cell 1)
              have y2 : w'.cell? ⟨Y, 2, none⟩ = some (.slice pa pl pc) := (hJ.cell (p := ⟨Y, 2, none⟩) H9.out.2.1.lt).trans (H9.out.2.1.cell 2)
              have x0 : w'.cell? ⟨X, 0, none⟩ = some (.int .i64 n) := (hJ.cell (p := ⟨X, 0, none⟩) H9.out.1.lt).trans (H9.out.1.cell 0)
              have x1 : w'.cell? ⟨X, 1, none⟩ = some (.bool em) := (hJ.cell (p := ⟨X, 1, none⟩) H9.out.1.lt).trans (H9.out.1.cell 1)
              have x2 : w'.cell? ⟨X, 2, none⟩ = some (.slice a L c) := (hJ.cell (p := ⟨X, 2, none⟩) H9.out.1.lt).trans (H9.out.1.cell 2)
              have HJ := Lib.hid hJ
              clear hJ
              have hcase : qi = 0 ∨ qi = 1 ∨ qi = 2 ∨ qi = 3 ∨ qi = 4 ∨ qi = 5 ∨ qi = 6 ∨ qi = 7 ∨ qi = 8 ∨ qi = 9 ∨ qi = 10 := by omega
              clear hi
              rcases hcase with rfl | rfl | rfl | rfl | rfl | rfl | rfl | rfl | rfl | rfl | rfl
              · obtain rfl := Option.some.inj ho.symm
                clear ho
                have x11 : fr0.tmps[(11 : Nat)]? = some (.pointer (some ⟨Y, 0, none⟩)) := hx 11 (by decide)
                clear hv hx
                refine wpOp_step rfl (fun K hK => ?_)
                go_simp
                exact hK _ _ ⟨rfl, HJ.out⟩
              · obtain rfl := Option.some.inj ho.symm
                clear ho
                have x4 : fr0.tmps[(4 : Nat)]? = some (.slice ap np cp) := hx 4 (by decide)
                clear hv hx
                refine wpOp_step rfl (fun K hK => ?_)
                go_simp
                exact hK _ _ ⟨rfl, HJ.out⟩
              · obtain rfl := Option.some.inj ho.symm
                clear ho
                have d0 : fr0.tmps[(56 : Nat)]? = some (.agg #[.int .i64 pn, .bool pe, .slice pa pl pc]) := hv ⟨0, .data⟩ (by simp) rfl
                have d1 : fr0.tmps[(57 : Nat)]? = some (.slice ap np cp) := hv ⟨1, .data⟩ (by simp) rfl
                clear hv hx
                refine wpOp_step rfl (fun K hK => ?_)
                go_simp
                go_at_call 25
                refine (HH1.out _ HM.out.2.1 HM.out.2.2).mono ?_
                rintro e w2 ⟨rfl, hb2⟩
                exact hK _ _ ⟨rfl, HJ.out.trans (hb2.mono HJ.out.size)⟩
              · obtain rfl := Option.some.inj ho.symm
                clear ho
                have x5 : fr0.tmps[(5 : Nat)]? = some (.pointer (some ⟨X, 0, none⟩)) := hx 5 (by decide)
                clear hv hx
                refine wpOp_step rfl (fun K hK => ?_)
                go_simp
                exact hK _ _ ⟨rfl, HJ.out⟩
              · obtain rfl := Option.some.inj ho.symm
                clear ho
                have x4 : fr0.tmps[(4 : Nat)]? = some (.slice ap np cp) := hx 4 (by decide)
                clear hv hx
                refine wpOp_step rfl (fun K hK => ?_)
                go_simp
                exact hK _ _ ⟨rfl, HJ.out⟩
              · obtain rfl := Option.some.inj ho.symm
                clear ho
                have d3 : fr0.tmps[(59 : Nat)]? = some (.agg #[.int .i64 n, .bool em, .slice a L c]) := hv ⟨3, .data⟩ (by simp) rfl
                have d4 : fr0.tmps[(60 : Nat)]? = some (.slice ap np cp) := hv ⟨4, .data⟩ (by simp) rfl
                clear hv hx
                refine wpOp_step rfl (fun K hK => ?_)
                go_simp
                go_at_call 25
                refine (HH2.out _ HM.out.1 HM.out.2.2).mono ?_
                rintro e w2 ⟨rfl, hb2⟩
                exact hK _ _ ⟨rfl, HJ.out.trans (hb2.mono HJ.out.size)⟩
              · obtain rfl := Option.some.inj ho.symm
                clear ho
                have d5 : fr0.tmps[(61 : Nat)]? = some (.bool false) := hv ⟨5, .data⟩ (by simp) rfl
                clear hv hx
                refine wpOp_step rfl (fun K hK => ?_)
                go_simp
                exact hK _ _ ⟨rfl, HJ.out⟩
              · obtain rfl := Option.some.inj ho.symm
                clear ho
                have d6 : fr0.tmps[(62 : Nat)]? = some (.bool false) := hv ⟨6, .guard⟩ (by simp) rfl
                have x13 : fr0.tmps[(13 : Nat)]? = some (.bool true) := hx 13 (by decide)
                clear hv hx
                refine wpOp_step rfl (fun K hK => ?_)
                go_simp
                exact hK _ _ ⟨rfl, HJ.out⟩
              · obtain rfl := Option.some.inj ho.symm
                clear ho
                have d6 : fr0.tmps[(62 : Nat)]? = some (.bool false) := hv ⟨6, .data⟩ (by simp) rfl
                have d7 : fr0.tmps[(63 : Nat)]? = some (undef) := hv ⟨7, .data⟩ (by simp) rfl
                clear hv hx
                refine wpOp_step rfl (fun K hK => ?_)
                go_simp
                exact hK _ _ ⟨rfl, HJ.out⟩
              · obtain rfl := Option.some.inj ho.symm
                clear ho
                have d2 : fr0.tmps[(58 : Nat)]? = some (.bool false) := hv ⟨2, .data⟩ (by simp) rfl
                have d8 : fr0.tmps[(64 : Nat)]? = some (.bool false) := hv ⟨8, .data⟩ (by simp) rfl
                clear hv hx
                refine wpOp_step rfl (fun K hK => ?_)
                go_simp
                exact hK _ _ ⟨rfl, HJ.out⟩
              · obtain rfl := Option.some.inj ho.symm
                clear ho
                have d9 : fr0.tmps[(65 : Nat)]? = some (.bool true) := hv ⟨9, .data⟩ (by simp) rfl
                clear hv hx
                refine wpOp_step rfl (fun K hK => ?_)
                go_simp
                exact hK _ _ ⟨rfl, HJ.out⟩
            case he =>
              intro w' hJ
              simp only [putF, valsAt, Nat.reduceAdd, Nat.zero_add, List.getD_cons_zero, List.getD_cons_succ, Act.put, List.setIfInBounds_toArray, List.set_cons_succ, List.set_cons_zero]
              have HJ := Lib.hid hJ
              clear hJ
              go_wp2_with fail
              go_ret
              exact ⟨rfl, H9.out.2.2.2.2.2.trans (HJ.out.mono H9.out.2.2.2.2.2.size)⟩
        · cases k9 : decide (d ≤ max q (-4611686018427387904)) with
          | true =>
            rw [show keepB p i j q = true by rw [hkb, k9]; rfl] at HH1
            clear hkb hd hq hnn
            go_upto_region 10 with (go_at_call 31; (with_reducible refine (HDF.out).mono ?_); rintro e W9 ⟨rfl, hb9⟩)
            have H9 := Lib.hid (wl_step H4.out hb9)
            clear hb9 HDF H4
            cases hh : H2 with
            | true =>
              rw [hh] at HH2 HH1
              rw [show (true && true) = true from rfl] at HH1
              clear hh
              refine wp_region_any (by kernel_rfl) ?_
              refine wpAny_vals [56, 57, 58, 59, 60, 61, 62, 63, 64, 65, 10] [.agg #[.int .i64 pn, .bool pe, .slice pa pl pc], .slice ap np cp, .bool true, .agg #[.int .i64 n, .bool em, .slice a L c], .slice ap np cp, .bool true, .bool true, .bool true, .bool true, .bool true, .bool true] (fun w' => Below W9.heap.size W9 w') rfl (by kernel_rfl) (by decide) (by kernel_rfl) ?hs ?he ?hj
              case hj => exact (Below.refl _ _).drew
              case hs =>
                intro qi qo ho fr0 hv hx w' hJ
                have hi : qi < 11 := (Array.getElem?_eq_some_iff.1 ho).1
                have HM := Lib.hid (And.intro (H9.out.2.2.1.next hJ) (And.intro (H9.out.2.2.2.1.next hJ) (H9.out.2.2.2.2.1.next hJ)))
                have y0 : w'.cell? ⟨Y, 0, none⟩ = some (.int .i64 pn) := (hJ.cell (p := ⟨Y, 0, none⟩) H9.out.2.1.lt).trans (H9.out.2.1.cell 0)
                have y1 : w'.cell? ⟨Y, 1, none⟩ = some (.bool pe) := (hJ.cell (p := ⟨Y, 1, none⟩) H9.out.2.1.lt).trans (H9.out.2.1.cell 1)
                have y2 : w'.cell? ⟨Y, 2, none⟩ = some (.slice pa pl pc) := (hJ.cell (p := ⟨Y, 2, none⟩) H9.out.2.1.lt).trans (H9.out.2.1.cell 2)
                have x0 : w'.cell? ⟨X, 0, none⟩ = some (.int .i64 n) := (hJ.cell (p := ⟨X, 0, none⟩) H9.out.1.lt).trans (H9.out.1.cell 0)
                have x1 : w'.cell? ⟨X, 1, none⟩ = some (.bool em) := (hJ.cell (p := ⟨X, 1, none⟩) H9.out.1.lt).trans (H9.out.1.cell 1)
                have x2 : w'.cell? ⟨X, 2, none⟩ = some (.slice a L c) := (hJ.cell (p := ⟨X, 2, none⟩) H9.out.1.lt).trans (H9.out.1.cell 2)
                have HJ := Lib.hid hJ
                clear hJ
                have hcase : qi = 0 ∨ qi = 1 ∨ qi = 2 ∨ qi = 3 ∨ qi = 4 ∨ qi = 5 ∨ qi = 6 ∨ qi = 7 ∨ qi = 8 ∨ qi = 9 ∨ qi = 10 := by omega
                clear hi
                rcases hcase with rfl | rfl | rfl | rfl | rfl | rfl | rfl | rfl | rfl | rfl | rfl
                · obtain rfl := Option.some.inj ho.symm
                  clear ho
                  have x11 : fr0.tmps[(11 : Nat)]? = some (.pointer (some ⟨Y, 0, none⟩)) := hx 11 (by decide)
                  clear hv hx
                  refine wpOp_step rfl (fun K hK => ?_)
                  go_simp
                  exact hK _ _ ⟨rfl, HJ.out⟩
                · obtain rfl := Option.some.inj ho.symm
                  clear ho
                  have x4 : fr0.tmps[(4 : Nat)]? = some (.slice ap np cp) := hx 4 (by decide)
                  clear hv hx
                  refine wpOp_step rfl (fun K hK => ?_)
                  go_simp
                  exact hK _ _ ⟨rfl, HJ.out⟩
                · obtain rfl := Option.some.inj ho.symm
                  clear ho
                  have d0 : fr0.tmps[(56 : Nat)]? = some (.agg #[.int .i64 pn, .bool pe, .slice pa pl pc]) := hv ⟨0, .data⟩ (by simp) rfl
                  have d1 : fr0.tmps[(57 : Nat)]? = some (.slice ap np cp) := hv ⟨1, .data⟩ (by simp) rfl
                  clear hv hx
                  refine wpOp_step rfl (fun K hK => ?_)
                  go_simp
                  go_at_call 25
                  refine (HH1.out _ HM.out.2.1 HM.out.2.2).mono ?_
                  rintro e w2 ⟨rfl, hb2⟩
                  exact hK _ _ ⟨rfl, HJ.out.trans (hb2.mono HJ.out.size)⟩
                · obtain rfl := Option.some.inj ho.symm
                  clear ho
                  have x5 : fr0.tmps[(5 : Nat)]? = some (.pointer (some ⟨X, 0, none⟩)) := hx 5 (by decide)
                  clear hv hx
                  refine wpOp_step rfl (fun K hK => ?_)
                  go_simp
                  exact hK _ _ ⟨rfl, HJ.out⟩
                · obtain rfl := Option.some.inj ho.symm
                  clear ho
                  have x4 : fr0.tmps[(4 : Nat)]? = some (.slice ap np cp) := hx 4 (by decide)
                  clear hv hx
                  refine wpOp_step rfl (fun K hK => ?_)
                  go_simp
                  exact hK _ _ ⟨rfl, HJ.out⟩
                · obtain rfl := Option.some.inj ho.symm
                  clear ho
                  have d3 : fr0.tmps[(59 : Nat)]? = some (.agg #[.int .i64 n, .bool em, .slice a L c]) := hv ⟨3, .data⟩ (by simp) rfl
                  have d4 : fr0.tmps[(60 : Nat)]? = some (.slice ap np cp) := hv ⟨4, .data⟩ (by simp) rfl
                  clear hv hx
                  refine wpOp_step rfl (fun K hK => ?_)
                  go_simp
                  go_at_call 25
                  refine (HH2.out _ HM.out.1 HM.out.2.2).mono ?_
                  rintro e w2 ⟨rfl, hb2⟩
                  exact hK _ _ ⟨rfl, HJ.out.trans (hb2.mono HJ.out.size)⟩
                · obtain rfl := Option.some.inj ho.symm
                  clear ho
                  have d5 : fr0.tmps[(61 : Nat)]? = some (.bool true) := hv ⟨5, .data⟩ (by simp) rfl
                  clear hv hx
                  refine wpOp_step rfl (fun K hK => ?_)
                  go_simp
                  exact hK _ _ ⟨rfl, HJ.out⟩
                · obtain rfl := Option.some.inj ho.symm
                  clear ho
                  have d6 : fr0.tmps[(62 : Nat)]? = some (.bool true) := hv ⟨6, .guard⟩ (by simp) rfl
                  have x13 : fr0.tmps[(13 : Nat)]? = some (.bool true) := hx 13 (by decide)
                  clear hv hx
                  refine wpOp_step rfl (fun K hK => ?_)
                  go_simp
                  exact hK _ _ ⟨rfl, HJ.out⟩
                · obtain rfl := Option.some.inj ho.symm
                  clear ho
                  have d6 : fr0.tmps[(62 : Nat)]? = some (.bool true) := hv ⟨6, .data⟩ (by simp) rfl
                  have d7 : fr0.tmps[(63 : Nat)]? = some (.bool true) := hv ⟨7, .data⟩ (by simp) rfl
                  clear hv hx
                  refine wpOp_step rfl (fun K hK => ?_)
                  go_simp
                  exact hK _ _ ⟨rfl, HJ.out⟩
                · obtain rfl := Option.some.inj ho.symm
                  clear ho
                  have d2 : fr0.tmps[(58 : Nat)]? = some (.bool true) := hv ⟨2, .data⟩ (by simp) rfl
                  have d8 : fr0.tmps[(64 : Nat)]? = some (.bool true) := hv ⟨8, .data⟩ (by simp) rfl
                  clear hv hx
                  refine wpOp_step rfl (fun K hK => ?_)
                  go_simp
                  exact hK _ _ ⟨rfl, HJ.out⟩
                · obtain rfl := Option.some.inj ho.symm
                  clear ho
                  have d9 : fr0.tmps[(65 : Nat)]? = some (.bool true) := hv ⟨9, .data⟩ (by simp) rfl
                  clear hv hx
                  refine wpOp_step rfl (fun K hK => ?_)
                  go_simp
                  exact hK _ _ ⟨rfl, HJ.out⟩
              case he =>
                intro w' hJ
                simp only [putF, valsAt, Nat.reduceAdd, Nat.zero_add, List.getD_cons_zero, List.getD_cons_succ, Act.put, List.setIfInBounds_toArray, List.set_cons_succ, List.set_cons_zero]
                have HJ := Lib.hid hJ
                clear hJ
                go_wp2_with fail
                go_ret
                exact ⟨rfl, H9.out.2.2.2.2.2.trans (HJ.out.mono H9.out.2.2.2.2.2.size)⟩
            | false =>
              rw [hh] at HH2 HH1
              rw [show (false && true) = false from rfl] at HH1
              clear hh
              refine wp_region_any (by kernel_rfl) ?_
              refine wpAny_vals [56, 57, 58, 59, 60, 61, 62, 63, 64, 65, 10] [.agg #[.int .i64 pn, .bool pe, .slice pa pl pc], .slice ap np cp, .bool false, .agg #[.int .i64 n, .bool em, .slice a L c], .slice ap np cp, .bool false, .bool false, undef, .bool false, .bool true, .bool true] (fun w' => Below W9.heap.size W9 w') rfl (by kernel_rfl) (by decide) (by kernel_rfl) ?hs ?he ?hj
              case hj => exact (Below.refl _ _).drew
              case hs =>
                intro qi qo ho fr0 hv hx w' hJ
                have hi : qi < 11 := (Array.getElem?_eq_some_iff.1 ho).1
                have HM := Lib.hid (And.intro (H9.out.2.2.1.next hJ) (And.intro (H9.out.2.2.2.1.next hJ) (H9.out.2.2.2.2.1.next hJ)))
                have y0 : w'.cell? ⟨Y, 0, none⟩ = some (.int .i64 pn) := (hJ.cell (p := ⟨Y, 0, none⟩) H9.out.2.1.lt).trans (H9.out.2.1.cell 0)
                have y1 : w'.cell? ⟨Y, 1, none⟩ = some (.bool pe) := (hJ.cell (p := ⟨Y, 1, none⟩) H9.out.2.1.lt).trans (H9.out.2.1.cell 1)
                have y2 : w'.cell? ⟨Y, 2, none⟩ = some (.slice pa pl pc) := (hJ.cell (p := ⟨Y, 2, none⟩) H9.out.2.1.lt).trans (H9.out.2.1.cell 2)
                have x0 : w'.cell? ⟨X, 0, none⟩ = some (.int .i64 n) := (hJ.cell (p := ⟨X, 0, none⟩) H9.out.1.lt).trans (H9.out.1.cell 0)
                have x1 : w'.cell? ⟨X, 1, none⟩ = some (.bool em) := (hJ.cell (p := ⟨X, 1, none⟩) H9.out.1.lt).trans (H9.out.1.cell 1)
                have x2 : w'.cell? ⟨X, 2, none⟩ = some (.slice a L c) := (hJ.cell (p := ⟨X, 2, none⟩) H9.out.1.lt).trans (H9.out.1.cell 2)
                have HJ := Lib.hid hJ
                clear hJ
                have hcase : qi = 0 ∨ qi = 1 ∨ qi = 2 ∨ qi = 3 ∨ qi = 4 ∨ qi = 5 ∨ qi = 6 ∨ qi = 7 ∨ qi = 8 ∨ qi = 9 ∨ qi = 10 := by omega
                clear hi
                rcases hcase with rfl | rfl | rfl | rfl | rfl | rfl | rfl | rfl | rfl | rfl | rfl
                · obtain rfl := Option.some.inj ho.symm
                  clear ho
                  have x11 : fr0.tmps[(11 : Nat)]? = some (.pointer (some ⟨Y, 0, none⟩)) := hx 11 (by decide)
                  clear hv hx
                  refine wpOp_step rfl (fun K hK => ?_)
                  go_simp
                  exact hK _ _ ⟨rfl, HJ.out⟩
                · obtain rfl := Option.some.inj ho.symm
                  clear ho
                  have x4 : fr0.tmps[(4 : Nat)]? = some (.slice ap np cp) := hx 4 (by decide)
                  clear hv hx
                  refine wpOp_step rfl (fun K hK => ?_)
                  go_simp
                  exact hK _ _ ⟨rfl, HJ.out⟩
                · obtain rfl := Option.some.inj ho.symm
                  clear ho
                  have d0 : fr0.tmps[(56 : Nat)]? = some (.agg #[.int .i64 pn, .bool pe, .slice pa pl pc]) := hv ⟨0, .data⟩ (by simp) rfl
                  have d1 : fr0.tmps[(57 : Nat)]? = some (.slice ap np cp) := hv ⟨1, .data⟩ (by simp) rfl
                  clear hv hx
                  refine wpOp_step rfl (fun K hK => ?_)
                  go_simp
                  go_at_call 25
                  refine (HH1.out _ HM.out.2.1 HM.out.2.2).mono ?_
                  rintro e w2 ⟨rfl, hb2⟩
                  exact hK _ _ ⟨rfl, HJ.out.trans (hb2.mono HJ.out.size)⟩
                · obtain rfl := Option.some.inj ho.symm
                  clear ho
                  have x5 : fr0.tmps[(5 : Nat)]? = some (.pointer (some ⟨X, 0, none⟩)) := hx 5 (by decide)
                  clear hv hx
                  refine wpOp_step rfl (fun K hK => ?_)
                  go_simp
                  exact hK _ _ ⟨rfl, HJ.out⟩
                · obtain rfl := Option.some.inj ho.symm
                  clear ho
                  have x4 : fr0.tmps[(4 : Nat)]? = some (.slice ap np cp) := hx 4 (by decide)
                  clear hv hx
                  refine wpOp_step rfl (fun K hK => ?_)
                  go_simp
                  exact hK _ _ ⟨rfl, HJ.out⟩
                · obtain rfl := Option.some.inj ho.symm
                  clear ho
                  have d3 : fr0.tmps[(59 : Nat)]? = some (.agg #[.int .i64 n, .bool em, .slice a L c]) := hv ⟨3, .data⟩ (by simp) rfl
                  have d4 : fr0.tmps[(60 : Nat)]? = some (.slice ap np cp) := hv ⟨4, .data⟩ (by simp) rfl
                  clear hv hx
                  refine wpOp_step rfl (fun K hK => ?_)
                  go_simp
                  go_at_call 25
                  refine (HH2.out _ HM.out.1 HM.out.2.2).mono ?_
                  rintro e w2 ⟨rfl, hb2⟩
                  exact hK _ _ ⟨rfl, HJ.out.trans (hb2.mono HJ.out.size)⟩
                · obtain rfl := Option.some.inj ho.symm
                  clear ho
                  have d5 : fr0.tmps[(61 : Nat)]? = some (.bool false) := hv ⟨5, .data⟩ (by simp) rfl
                  clear hv hx
                  refine wpOp_step rfl (fun K hK => ?_)
                  go_simp
                  exact hK _ _ ⟨rfl, HJ.out⟩
                · obtain rfl := Option.some.inj ho.symm
                  clear ho
                  have d6 : fr0.tmps[(62 : Nat)]? = some (.bool false) := hv ⟨6, .guard⟩ (by simp) rfl
                  have x13 : fr0.tmps[(13 : Nat)]? = some (.bool true) := hx 13 (by decide)
                  clear hv hx
                  refine wpOp_step rfl (fun K hK => ?_)
                  go_simp
                  exact hK _ _ ⟨rfl, HJ.out⟩
                · obtain rfl := Option.some.inj ho.symm
                  clear ho
                  have d6 : fr0.tmps[(62 : Nat)]? = some (.bool false) := hv ⟨6, .data⟩ (by simp) rfl
                  have d7 : fr0.tmps[(63 : Nat)]? = some (undef) := hv ⟨7, .data⟩ (by simp) rfl
                  clear hv hx
                  refine wpOp_step rfl (fun K hK => ?_)
                  go_simp
                  exact hK _ _ ⟨rfl, HJ.out⟩
                · obtain rfl := Option.some.inj ho.symm
                  clear ho
                  have d2 : fr0.tmps[(58 : Nat)]? = some (.bool false) := hv ⟨2, .data⟩ (by simp) rfl
                  have d8 : fr0.tmps[(64 : Nat)]? = some (.bool false) := hv ⟨8, .data⟩ (by simp) rfl
                  clear hv hx
                  refine wpOp_step rfl (fun K hK => ?_)
                  go_simp
                  exact hK _ _ ⟨rfl, HJ.out⟩
                · obtain rfl := Option.some.inj ho.symm
                  clear ho
                  have d9 : fr0.tmps[(65 : Nat)]? = some (.bool true) := hv ⟨9, .data⟩ (by simp) rfl
                  clear hv hx
                  refine wpOp_step rfl (fun K hK => ?_)
                  go_simp
                  exact hK _ _ ⟨rfl, HJ.out⟩
              case he =>
                intro w' hJ
                simp only [putF, valsAt, Nat.reduceAdd, Nat.zero_add, List.getD_cons_zero, List.getD_cons_succ, Act.put, List.setIfInBounds_toArray, List.set_cons_succ, List.set_cons_zero]
                have HJ := Lib.hid hJ
                clear hJ
                go_wp2_with fail
                go_ret
                exact ⟨rfl, H9.out.2.2.2.2.2.trans (HJ.out.mono H9.out.2.2.2.2.2.size)⟩
          | false =>
            rw [show keepB p i j q = false by rw [hkb, k9]; rfl] at HH1
            clear hkb hd hq hnn
            go_upto_region 10 with (go_at_call 31; (with_reducible refine (HDF.out).mono ?_); rintro e W9 ⟨rfl, hb9⟩)
            have H9 := Lib.hid (wl_step H4.out hb9)
            clear hb9 HDF H4
            cases hh : H2 with
            | true =>
              rw [hh] at HH2 HH1
              rw [show (true && false) = false from rfl] at HH1
              clear hh
              refine wp_region_any (by kernel_rfl) ?_
              refine wpAny_vals [56, 57, 58, 59, 60, 61, 62, 63, 64, 65, 10] [.agg #[.int .i64 pn, .bool pe, .slice pa pl pc], .slice ap np cp, .bool false, .agg #[.int .i64 n, .bool em, .slice a L c], .slice ap np cp, .bool true, .bool true, .bool false, .bool false, .bool true, .bool true] (fun w' => Below W9.heap.size W9 w') rfl (by kernel_rfl) (by decide) (by kernel_rfl) ?hs ?he ?hj
              case hj => exact (Below.refl _ _).drew
              case hs =>
                intro qi qo ho fr0 hv hx w' hJ
                have hi : qi < 11 := (Array.getElem?_eq_some_iff.1 ho).1
                have HM := Lib.hid (And.intro (H9.out.2.2.1.next hJ) (And.intro (H9.out.2.2.2.1.next hJ) (H9.out.2.2.2.2.1.next hJ)))
                have y0 : w'.cell? ⟨Y, 0, none⟩ = some (.int .i64 pn) := (hJ.cell (p := ⟨Y, 0, none⟩) H9.out.2.1.lt).trans (H9.out.2.1.cell 0)
                have y1 : w'.cell? ⟨Y, 1, none⟩ = some (.bool pe) := (hJ.cell (p := ⟨Y, 1, none⟩) H9.out.2.1.lt).trans (H9.out.2.1.cell 1)
                have y2 : w'.cell? ⟨Y, 2, none⟩ = some (.slice pa pl pc) := (hJ.cell (p := ⟨Y, 2, none⟩) H9.out.2.1.lt).trans (H9.out.2.1.cell 2)
                have x0 : w'.cell? ⟨X, 0, none⟩ = some (.int .i64 n) := (hJ.cell (p := ⟨X, 0, none⟩) H9.out.1.lt).trans (H9.out.1.cell 0)
                have x1 : w'.cell? ⟨X, 1, none⟩ = some (.bool em) := (hJ.cell (p := ⟨X, 1, none⟩) H9.out.1.lt).trans (H9.out.1.cell 1)
                have x2 : w'.cell? ⟨X, 2, none⟩ = some (.slice a L c) := (hJ.cell (p := ⟨X, 2, none⟩) H9.out.1.lt).trans (H9.out.1.cell 2)
                have HJ := Lib.hid hJ
                clear hJ
                have hcase : qi = 0 ∨ qi = 1 ∨ qi = 2 ∨ qi = 3 ∨ qi = 4 ∨ qi = 5 ∨ qi = 6 ∨ qi = 7 ∨ qi = 8 ∨ qi = 9 ∨ qi = 10 := by omega
                clear hi
                rcases hcase with rfl | rfl | rfl | rfl | rfl | rfl | rfl | rfl | rfl | rfl | rfl
                · obtain rfl := Option.some.inj ho.symm
                  clear ho
                  have x11 : fr0.tmps[(11 : Nat)]? = some (.pointer (some ⟨Y, 0, none⟩)) := hx 11 (by decide)
                  clear hv hx
                  refine wpOp_step rfl (fun K hK => ?_)
                  go_simp
                  exact hK _ _ ⟨rfl, HJ.out⟩
                · obtain rfl := Option.some.inj ho.symm
                  clear ho
                  have x4 : fr0.tmps[(4 : Nat)]? = some (.slice ap np cp) := hx 4 (by decide)
                  clear hv hx
                  refine wpOp_step rfl (fun K hK => ?_)
                  go_simp
                  exact hK _ _ ⟨rfl, HJ.out⟩
                · obtain rfl := Option.some.inj ho.symm
                  clear ho
                  have d0 : fr0.tmps[(56 : Nat)]? = some (.agg #[.int .i64 pn, .bool pe, .slice pa pl pc]) := hv ⟨0, .data⟩ (by simp) rfl
                  have d1 : fr0.tmps[(57 : Nat)]? = some (.slice ap np cp) := hv ⟨1, .data⟩ (by simp) rfl
                  clear hv hx
                  refine wpOp_step rfl (fun K hK => ?_)
                  go_simp
                  go_at_call 25
                  refine (HH1.out _ HM.out.2.1 HM.out.2.2).mono ?_
                  rintro e w2 ⟨rfl, hb2⟩
                  exact hK _ _ ⟨rfl, HJ.out.trans (hb2.mono HJ.out.size)⟩
                · obtain rfl := Option.some.inj ho.symm
                  clear ho
                  have x5 : fr0.tmps[(5 : Nat)]? = some (.pointer (some ⟨X, 0, none⟩)) := hx 5 (by decide)
                  clear hv hx
                  refine wpOp_step rfl (fun K hK => ?_)
                  go_simp
                  exact hK _ _ ⟨rfl, HJ.out⟩
                · obtain rfl := Option.some.inj ho.symm
                  clear ho
                  have x4 : fr0.tmps[(4 : Nat)]? = some (.slice ap np cp) := hx 4 (by decide)
                  clear hv hx
                  refine wpOp_step rfl (fun K hK => ?_)
                  go_simp
                  exact hK _ _ ⟨rfl, HJ.out⟩
                · obtain rfl := Option.some.inj ho.symm
                  clear ho
                  have d3 : fr0.tmps[(59 : Nat)]? = some (.agg #[.int .i64 n, .bool em, .slice a L c]) := hv ⟨3, .data⟩ (by simp) rfl
                  have d4 : fr0.tmps[(60 : Nat)]? = some (.slice ap np cp) := hv ⟨4, .data⟩ (by simp) rfl
                  clear hv hx
                  refine wpOp_step rfl (fun K hK => ?_)
                  go_simp
                  go_at_call 25
                  refine (HH2.out _ HM.out.1 HM.out.2.2).mono ?_
                  rintro e w2 ⟨rfl, hb2⟩
                  exact hK _ _ ⟨rfl, HJ.out.trans (hb2.mono HJ.out.size)⟩
                · obtain rfl := Option.some.inj ho.symm
                  clear ho
                  have d5 : fr0.tmps[(61 : Nat)]? = some (.bool true) := hv ⟨5, .data⟩ (by simp) rfl
                  clear hv hx
                  refine wpOp_step rfl (fun K hK => ?_)
                  go_simp
                  exact hK _ _ ⟨rfl, HJ.out⟩
                · obtain rfl := Option.some.inj ho.symm
                  clear ho
                  have d6 : fr0.tmps[(62 : Nat)]? = some (.bool true) := hv ⟨6, .guard⟩ (by simp) rfl
                  have x13 : fr0.tmps[(13 : Nat)]? = some (.bool false) := hx 13 (by decide)
                  clear hv hx
                  refine wpOp_step rfl (fun K hK => ?_)
                  go_simp
                  exact hK _ _ ⟨rfl, HJ.out⟩
                · obtain rfl := Option.some.inj ho.symm
                  clear ho
                  have d6 : fr0.tmps[(62 : Nat)]? = some (.bool true) := hv ⟨6, .data⟩ (by simp) rfl
                  have d7 : fr0.tmps[(63 : Nat)]? = some (.bool false) := hv ⟨7, .data⟩ (by simp) rfl
                  clear hv hx
                  refine wpOp_step rfl (fun K hK => ?_)
                  go_simp
                  exact hK _ _ ⟨rfl, HJ.out⟩
                · obtain rfl := Option.some.inj ho.symm
                  clear ho
                  have d2 : fr0.tmps[(58 : Nat)]? = some (.bool false) := hv ⟨2, .data⟩ (by simp) rfl
                  have d8 : fr0.tmps[(64 : Nat)]? = some (.bool false) := hv ⟨8, .data⟩ (by simp) rfl
                  clear hv hx
                  refine wpOp_step rfl (fun K hK => ?_)
                  go_simp
                  exact hK _ _ ⟨rfl, HJ.out⟩
                · obtain rfl := Option.some.inj ho.symm
                  clear ho
                  have d9 : fr0.tmps[(65 : Nat)]? = some (.bool true) := hv ⟨9, .data⟩ (by simp) rfl
                  clear hv hx
                  refine wpOp_step rfl (fun K hK => ?_)
                  go_simp
                  exact hK _ _ ⟨rfl, HJ.out⟩
              case he =>
                intro w' hJ
                simp only [putF, valsAt, Nat.reduceAdd, Nat.zero_add, List.getD_cons_zero, List.getD_cons_succ, Act.put, List.setIfInBounds_toArray, List.set_cons_succ, List.set_cons_zero]
                have HJ := Lib.hid hJ
                clear hJ
                go_wp2_with fail
                go_ret
                exact ⟨rfl, H9.out.2.2.2.2.2.trans (HJ.out.mono H9.out.2.2.2.2.2.size)⟩
            | false =>
              rw [hh] at HH2 HH1
              rw [show (false && false) = false from rfl] at HH1
              clear hh
              refine wp_region_any (by kernel_rfl) ?_
              refine wpAny_vals [56, 57, 58, 59, 60, 61, 62, 63, 64, 65, 10] [.agg #[.int .i64 pn, .bool pe, .slice pa pl pc], .slice ap np cp, .bool false, .agg #[.int .i64 n, .bool em, .slice a L c], .slice ap np cp, .bool false, .bool false, undef, .bool false, .bool true, .bool true] (fun w' => Below W9.heap.size W9 w') rfl (by kernel_rfl) (by decide) (by kernel_rfl) ?hs ?he ?hj
              case hj => exact (Below.refl _ _).drew
              case hs =>
                intro qi qo ho fr0 hv hx w' hJ
                have hi : qi < 11 := (Array.getElem?_eq_some_iff.1 ho).1
                have HM := Lib.hid (And.intro (H9.out.2.2.1.next hJ) (And.intro (H9.out.2.2.2.1.next hJ) (H9.out.2.2.2.2.1.next hJ)))
                have y0 : w'.cell? ⟨Y, 0, none⟩ = some (.int .i64 pn) := (hJ.cell (p := ⟨Y, 0, none⟩) H9.out.2.1.lt).trans (H9.out.2.1.cell 0)
                have y1 : w'.cell? ⟨Y, 1, none⟩ = some (.bool pe) := (hJ.cell (p := ⟨Y, 1, none⟩) H9.out.2.1.lt).trans (H9.out.2.1.cell 1)
                have y2 : w'.cell? ⟨Y, 2, none⟩ = some (.slice pa pl pc) := (hJ.cell (p := ⟨Y, 2, none⟩) H9.out.2.1.lt).trans (H9.out.2.1.cell 2)
                have x0 : w'.cell? ⟨X, 0, none⟩ = some (.int .i64 n) := (hJ.cell (p := ⟨X, 0, none⟩) H9.out.1.lt).trans (H9.out.1.cell 0)
                have x1 : w'.cell? ⟨X, 1, none⟩ = some (.bool em) := (hJ.cell (p := ⟨X, 1, none⟩) H9.out.1.lt).trans (H9.out.1.cell 1)
                have x2 : w'.cell? ⟨X, 2, none⟩ = some (.slice a L c) := (hJ.cell (p := ⟨X, 2, none⟩) H9.out.1.lt).trans (H9.out.1.cell 2)
                have HJ := Lib.hid hJ
                clear hJ
                have hcase : qi = 0 ∨ qi = 1 ∨ qi = 2 ∨ qi = 3 ∨ qi = 4 ∨ qi = 5 ∨ qi = 6 ∨ qi = 7 ∨ qi = 8 ∨ qi = 9 ∨ qi = 10 := by omega
                clear hi
                rcases hcase with rfl | rfl | rfl | rfl | rfl | rfl | rfl | rfl | rfl | rfl | rfl
                · obtain rfl := Option.some.inj ho.symm
                  clear ho
                  have x11 : fr0.tmps[(11 : Nat)]? = some (.pointer (some ⟨Y, 0, none⟩)) := hx 11 (by decide)
                  clear hv hx
                  refine wpOp_step rfl (fun K hK => ?_)
                  go_simp
                  exact hK _ _ ⟨rfl, HJ.out⟩
                · obtain rfl := Option.some.inj ho.symm
                  clear ho
                  have x4 : fr0.tmps[(4 : Nat)]? = some (.slice ap np cp) := hx 4 (by decide)
                  clear hv hx
                  refine wpOp_step rfl (fun K hK => ?_)
                  go_simp
                  exact hK _ _ ⟨rfl, HJ.out⟩
                · obtain rfl := Option.some.inj ho.symm
                  clear ho
                  have d0 : fr0.tmps[(56 : Nat)]? = some (.agg #[.int .i64 pn, .bool pe, .slice pa pl pc]) := hv ⟨0, .data⟩ (by simp) rfl
                  have d1 : fr0.tmps[(57 : Nat)]? = some (.slice ap np cp) := hv ⟨1, .data⟩ (by simp) rfl
                  clear hv hx
                  refine wpOp_step rfl (fun K hK => ?_)
                  go_simp
                  go_at_call 25
                  refine (HH1.out _ HM.out.2.1 HM.out.2.2).mono ?_
                  rintro e w2 ⟨rfl, hb2⟩
                  exact hK _ _ ⟨rfl, HJ.out.trans (hb2.mono HJ.out.size)⟩
                · obtain rfl := Option.some.inj ho.symm
                  clear ho
                  have x5 : fr0.tmps[(5 : Nat)]? = some (.pointer (some ⟨X, 0, none⟩)) := hx 5 (by decide)
                  clear hv hx
                  refine wpOp_step rfl (fun K hK => ?_)
                  go_simp
                  exact hK _ _ ⟨rfl, HJ.out⟩
                · obtain rfl := Option.some.inj ho.symm
                  clear ho
                  have x4 : fr0.tmps[(4 : Nat)]? = some (.slice ap np cp) := hx 4 (by decide)
                  clear hv hx
                  refine wpOp_step rfl (fun K hK => ?_)
                  go_simp
                  exact hK _ _ ⟨rfl, HJ.out⟩
                · obtain rfl := Option.some.inj ho.symm
                  clear ho
                  have d3 : fr0.tmps[(59 : Nat)]? = some (.agg #[.int .i64 n, .bool em, .slice a L c]) := hv ⟨3, .data⟩ (by simp) rfl
                  have d4 : fr0.tmps[(60 : Nat)]? = some (.slice ap np cp) := hv ⟨4, .data⟩ (by simp) rfl
                  clear hv hx
                  refine wpOp_step rfl (fun K hK => ?_)
                  go_simp
                  go_at_call 25
                  refine (HH2.out _ HM.out.1 HM.out.2.2).mono ?_
                  rintro e w2 ⟨rfl, hb2⟩
                  exact hK _ _ ⟨rfl, HJ.out.trans (hb2.mono HJ.out.size)⟩
                · obtain rfl := Option.some.inj ho.symm
                  clear ho
                  have d5 : fr0.tmps[(61 : Nat)]? = some (.bool false) := hv ⟨5, .data⟩ (by simp) rfl
                  clear hv hx
                  refine wpOp_step rfl (fun K hK => ?_)
                  go_simp
                  exact hK _ _ ⟨rfl, HJ.out⟩
                · obtain rfl := Option.some.inj ho.symm
                  clear ho
                  have d6 : fr0.tmps[(62 : Nat)]? = some (.bool false) := hv ⟨6, .guard⟩ (by simp) rfl
                  have x13 : fr0.tmps[(13 : Nat)]? = some (.bool false) := hx 13 (by decide)
                  clear hv hx
                  refine wpOp_step rfl (fun K hK => ?_)
                  go_simp
                  exact hK _ _ ⟨rfl, HJ.out⟩
                · obtain rfl := Option.some.inj ho.symm
                  clear ho
                  have d6 : fr0.tmps[(62 : Nat)]? = some (.bool false) := hv ⟨6, .data⟩ (by simp) rfl
                  have d7 : fr0.tmps[(63 : Nat)]? = some (undef) := hv ⟨7, .data⟩ (by simp) rfl
                  clear hv hx
                  refine wpOp_step rfl (fun K hK => ?_)
                  go_simp
                  exact hK _ _ ⟨rfl, HJ.out⟩
                · obtain rfl := Option.some.inj ho.symm
                  clear ho
                  have d2 : fr0.tmps[(58 : Nat)]? = some (.bool false) := hv ⟨2, .data⟩ (by simp) rfl
                  have d8 : fr0.tmps[(64 : Nat)]? = some (.bool false) := hv ⟨8, .data⟩ (by simp) rfl
                  clear hv hx
                  refine wpOp_step rfl (fun K hK => ?_)
                  go_simp
                  exact hK _ _ ⟨rfl, HJ.out⟩
                · obtain rfl := Option.some.inj ho.symm
                  clear ho
                  have d9 : fr0.tmps[(65 : Nat)]? = some (.bool true) := hv ⟨9, .data⟩ (by simp) rfl
                  clear hv hx
                  refine wpOp_step rfl (fun K hK => ?_)
                  go_simp
                  exact hK _ _ ⟨rfl, HJ.out⟩
              case he =>
                intro w' hJ
                simp only [putF, valsAt, Nat.reduceAdd, Nat.zero_add, List.getD_cons_zero, List.getD_cons_succ, Act.put, List.setIfInBounds_toArray, List.set_cons_succ, List.set_cons_zero]
                have HJ := Lib.hid hJ
                clear hJ
                go_wp2_with fail
                go_ret
                exact ⟨rfl, H9.out.2.2.2.2.2.trans (HJ.out.mono H9.out.2.2.2.2.2.size)⟩
      · rw [show keepB p i j q = true by unfold keepB; rw [if_neg q1]] at HH1
        have q6 : 4611686018427387904 < q := by omega
        clear hq hnn q1
        go_upto_region 10 with fail
        have H9 := Lib.hid H4.out
        clear H4 HDF
        obtain ⟨W9, rfl⟩ : ∃ W, W = W4 := ⟨_, rfl⟩
        cases hh : H2 with
        | true =>
          rw [hh] at HH2 HH1
          rw [show (true && true) = true from rfl] at HH1
          clear hh
          refine wp_region_any (by kernel_rfl) ?_
          refine wpAny_vals [56, 57, 58, 59, 60, 61, 62, 63, 64, 65, 10] [.agg #[.int .i64 pn, .bool pe, .slice pa pl pc], .slice ap np cp, .bool true, .agg #[.int .i64 n, .bool em, .slice a L c], .slice ap np cp, .bool true, .bool true, .bool true, .bool true, .bool true, .bool true] (fun w' => Below W9.heap.size W9 w') rfl (by kernel_rfl) (by decide) (by kernel_rfl) ?hs ?he ?hj
          case hj => exact (Below.refl _ _).drew
          case hs =>
            intro qi qo ho fr0 hv hx w' hJ
            have hi : qi < 11 := (Array.getElem?_eq_some_iff.1 ho).1
            have HM := Lib.hid (And.intro (H9.out.2.2.1.next hJ) (And.intro (H9.out.2.2.2.1.next hJ) (H9.out.2.2.2.2.1.next hJ)))
            have y0 : w'.cell? ⟨Y, 0, none⟩ = some (.int .i64 pn) := (hJ.cell (p := ⟨Y, 0, none⟩) H9.out.2.1.lt).trans (H9.out.2.1.cell 0)
            have y1 : w'.cell? ⟨Y, 1, none⟩ = some (.bool pe) := (hJ.cell (p := ⟨Y, 1, none⟩) H9.out.2.1.lt).trans (H9.out.2.1.cell 1)
            have y2 : w'.cell? ⟨Y, 2, none⟩ = some (.slice pa pl pc) := (hJ.cell (p := ⟨Y, 2, none⟩) H9.out.2.1.lt).trans (H9.out.2.1.cell 2)
            have x0 : w'.cell? ⟨X, 0, none⟩ = some (.int .i64 n) := (hJ.cell (p := ⟨X, 0, none⟩) H9.out.1.lt).trans (H9.out.1.cell 0)
            have x1 : w'.cell? ⟨X, 1, none⟩ = some (.bool em) := (hJ.cell (p := ⟨X, 1, none⟩) H9.out.1.lt).trans (H9.out.1.cell 1)
            have x2 : w'.cell? ⟨X, 2, none⟩ = some (.slice a L c) := (hJ.cell (p := ⟨X, 2, none⟩) H9.out.1.lt).trans (H9.out.1.cell 2)
            have HJ := Lib.hid hJ
            clear hJ
            have hcase : qi = 0 ∨ qi = 1 ∨ qi = 2 ∨ qi = 3 ∨ qi = 4 ∨ qi = 5 ∨ qi = 6 ∨ qi = 7 ∨ qi = 8 ∨ qi = 9 ∨ qi = 10 := by omega
            clear hi
            rcases hcase with rfl | rfl | rfl | rfl | rfl | rfl | rfl | rfl | rfl | rfl | rfl
            · obtain rfl := Option.some.inj ho.symm
              clear ho
              have x11 : fr0.tmps[(11 : Nat)]? = some (.pointer (some ⟨Y, 0, none⟩)) := hx 11 (by decide)
              clear hv hx
              refine wpOp_step rfl (fun K hK => ?_)
              go_simp
              exact hK _ _ ⟨rfl, HJ.out⟩
            · obtain rfl := Option.some.inj ho.symm
              clear ho
              have x4 : fr0.tmps[(4 : Nat)]? = some (.slice ap np cp) := hx 4 (by decide)
              clear hv hx
              refine wpOp_step rfl (fun K hK => ?_)
              go_simp
              exact hK _ _ ⟨rfl, HJ.out⟩
            · obtain rfl := Option.some.inj ho.symm
              clear ho
              have d0 : fr0.tmps[(56 : Nat)]? = some (.agg #[.int .i64 pn, .bool pe, .slice pa pl pc]) := hv ⟨0, .data⟩ (by simp) rfl
              have d1 : fr0.tmps[(57 : Nat)]? = some (.slice ap np cp) := hv ⟨1, .data⟩ (by simp) rfl
              clear hv hx
              refine wpOp_step rfl (fun K hK => ?_)
              go_simp
              go_at_call 25
              refine (HH1.out _ HM.out.2.1 HM.out.2.2).mono ?_
              rintro e w2 ⟨rfl, hb2⟩
              exact hK _ _ ⟨rfl, HJ.out.trans (hb2.mono HJ.out.size)⟩
            · obtain rfl := Option.some.inj ho.symm
              clear ho
              have x5 : fr0.tmps[(5 : Nat)]? = some (.pointer (some ⟨X, 0, none⟩)) := hx 5 (by decide)
              clear hv hx
              refine wpOp_step rfl (fun K hK => ?_)
              go_simp
              exact hK _ _ ⟨rfl, HJ.out⟩
            · obtain rfl := Option.some.inj ho.symm
              clear ho
              have x4 : fr0.tmps[(4 : Nat)]? = some (.slice ap np cp) := hx 4 (by decide)
              clear hv hx
              refine wpOp_step rfl (fun K hK => ?_)
              go_simp
              exact hK _ _ ⟨rfl, HJ.out⟩
            · obtain rfl := Option.some.inj ho.symm
              clear ho
              have d3 : fr0.tmps[(59 : Nat)]? = some (.agg #[.int .i64 n, .bool em, .slice a L c]) := hv ⟨3, .data⟩ (by simp) rfl
              have d4 : fr0.tmps[(60 : Nat)]? = some (.slice ap np cp) := hv ⟨4, .data⟩ (by simp) rfl
              clear hv hx
              refine wpOp_step rfl (fun K hK => ?_)
              go_simp
              go_at_call 25
              refine (HH2.out _ HM.out.1 HM.out.2.2).mono ?_
              rintro e w2 ⟨rfl, hb2⟩
              exact hK _ _ ⟨rfl, HJ.out.trans (hb2.mono HJ.out.size)⟩
            · obtain rfl := Option.some.inj ho.symm
              clear ho
              have d5 : fr0.tmps[(61 : Nat)]? = some (.bool true) := hv ⟨5, .data⟩ (by simp) rfl
              clear hv hx
              refine wpOp_step rfl (fun K hK => ?_)
              go_simp
              exact hK _ _ ⟨rfl, HJ.out⟩
            · obtain rfl := Option.some.inj ho.symm
              clear ho
              have d6 : fr0.tmps[(62 : Nat)]? = some (.bool true) := hv ⟨6, .guard⟩ (by simp) rfl
              have x13 : fr0.tmps[(13 : Nat)]? = some (.bool true) := hx 13 (by decide)
              clear hv hx
              refine wpOp_step rfl (fun K hK => ?_)
              go_simp
              exact hK _ _ ⟨rfl, HJ.out⟩
            · obtain rfl := Option.some.inj ho.symm
              clear ho
              have d6 : fr0.tmps[(62 : Nat)]? = some (.bool true) := hv ⟨6, .data⟩ (by simp) rfl
              have d7 : fr0.tmps[(63 : Nat)]? = some (.bool true) := hv ⟨7, .data⟩ (by simp) rfl
              clear hv hx
              refine wpOp_step rfl (fun K hK => ?_)
              go_simp
              exact hK _ _ ⟨rfl, HJ.out⟩
            · obtain rfl := Option.some.inj ho.symm
              clear ho
              have d2 : fr0.tmps[(58 : Nat)]? = some (.bool true) := hv ⟨2, .data⟩ (by simp) rfl
              have d8 : fr0.tmps[(64 : Nat)]? = some (.bool true) := hv ⟨8, .data⟩ (by simp) rfl
              clear hv hx
              refine wpOp_step rfl (fun K hK => ?_)
              go_simp
              exact hK _ _ ⟨rfl, HJ.out⟩
            · obtain rfl := Option.some.inj ho.symm
              clear ho
              have d9 : fr0.tmps[(65 : Nat)]? = some (.bool true) := hv ⟨9, .data⟩ (by simp) rfl
              clear hv hx
              refine wpOp_step rfl (fun K hK => ?_)
              go_simp
              exact hK _ _ ⟨rfl, HJ.out⟩
          case he =>
            intro w' hJ
            simp only [putF, valsAt, Nat.reduceAdd, Nat.zero_add, List.getD_cons_zero, List.getD_cons_succ, Act.put, List.setIfInBounds_toArray, List.set_cons_succ, List.set_cons_zero]
            have HJ := Lib.hid hJ
            clear hJ
            go_wp2_with fail
            go_ret
            exact ⟨rfl, H9.out.2.2.2.2.2.trans (HJ.out.mono H9.out.2.2.2.2.2.size)⟩
        | false =>
          rw [hh] at HH2 HH1
          rw [show (false && true) = false from rfl] at HH1
          clear hh
          refine wp_region_any (by kernel_rfl) ?_
          refine wpAny_vals [56, 57, 58, 59, 60, 61, 62, 63, 64, 65, 10] [.agg #[.int .i64 pn, .bool pe, .slice pa pl pc], .slice ap np cp, .bool false, .agg #[.int .i64 n, .bool em, .slice a L c], .slice ap np cp, .bool false, .bool false, undef, .bool false, .bool true, .bool true] (fun w' => Below W9.heap.size W9 w') rfl (by kernel_rfl) (by decide) (by kernel_rfl) ?hs ?he ?hj
          case hj => exact (Below.refl _ _).drew
          case hs =>
            intro qi qo ho fr0 hv hx w' hJ
            have hi : qi < 11 := (Array.getElem?_eq_some_iff.1 ho).1
            have HM := Lib.hid (And.intro (H9.out.2.2.1.next hJ) (And.intro (H9.out.2.2.2.1.next hJ) (H9.out.2.2.2.2.1.next hJ)))
            have y0 : w'.cell? ⟨Y, 0, none⟩ = some (.int .i64 pn) := (hJ.cell (p := ⟨Y, 0, none⟩) H9.out.2.1.lt).trans (H9.out.2.1.cell 0)
            have y1 : w'.cell? ⟨Y, 1, none⟩ = some (.bool pe) := (hJ.cell (p := ⟨Y, 1, none⟩) H9.out.2.1.lt).trans (H9.out.2.1.cell 1)
            have y2 : w'.cell? ⟨Y, 2, none⟩ = some (.slice pa pl pc) := (hJ.cell (p := ⟨Y, 2, none⟩) H9.out.2.1.lt).trans (H9.out.2.1.cell 2)
            have x0 : w'.cell? ⟨X, 0, none⟩ = some (.int .i64 n) := (hJ.cell (p := ⟨X, 0, none⟩) H9.out.1.lt).trans (H9.out.1.cell 0)
            have x1 : w'.cell? ⟨X, 1, none⟩ = some (.bool em) := (hJ.cell (p := ⟨X, 1, none⟩) H9.out.1.lt).trans (H9.out.1.cell 1)
            have x2 : w'.cell? ⟨X, 2, none⟩ = some (.slice a L c) := (hJ.cell (p := ⟨X, 2, none⟩) H9.out.1.lt).trans (H9.out.1.cell 2)
            have HJ := Lib.hid hJ
            clear hJ
            have hcase : qi = 0 ∨ qi = 1 ∨ qi = 2 ∨ qi = 3 ∨ qi = 4 ∨ qi = 5 ∨ qi = 6 ∨ qi = 7 ∨ qi = 8 ∨ qi = 9 ∨ qi = 10 := by omega
            clear hi
            rcases hcase with rfl | rfl | rfl | rfl | rfl | rfl | rfl | rfl | rfl | rfl | rfl
            · obtain rfl := Option.some.inj ho.symm
              clear ho
              have x11 : fr0.tmps[(11 : Nat)]? = some (.pointer (some ⟨Y, 0, none⟩)) := hx 11 (by decide)
              clear hv hx
              refine wpOp_step rfl (fun K hK => ?_)
              go_simp
              exact hK _ _ ⟨rfl, HJ.out⟩
            · obtain rfl := Option.some.inj ho.symm
              clear ho
              have x4 : fr0.tmps[(4 : Nat)]? = some (.slice ap np cp) := hx 4 (by decide)
              clear hv hx
              refine wpOp_step rfl (fun K hK => ?_)
              go_simp
              exact hK _ _ ⟨rfl, HJ.out⟩
            · obtain rfl := Option.some.inj ho.symm
              clear ho
              have d0 : fr0.tmps[(56 : Nat)]? = some (.agg #[.int .i64 pn, .bool pe, .slice pa pl pc]) := hv ⟨0, .data⟩ (by simp) rfl
              have d1 : fr0.tmps[(57 : Nat)]? = some (.slice ap np cp) := hv ⟨1, .data⟩ (by simp) rfl
              clear hv hx
              refine wpOp_step rfl (fun K hK => ?_)
              go_simp
              go_at_call 25
              refine (HH1.out _ HM.out.2.1 HM.out.2.2).mono ?_
              rintro e w2 ⟨rfl, hb2⟩
              exact hK _ _ ⟨rfl, HJ.out.trans (hb2.mono HJ.out.size)⟩
            · obtain rfl := Option.some.inj ho.symm
              clear ho
              have x5 : fr0.tmps[(5 : Nat)]? = some (.pointer (some ⟨X, 0, none⟩)) := hx 5 (by decide)
              clear hv hx
              refine wpOp_step rfl (fun K hK => ?_)
              go_simp
              exact hK _ _ ⟨rfl, HJ.out⟩
            · obtain rfl := Option.some.inj ho.symm
              clear ho
              have x4 : fr0.tmps[(4 : Nat)]? = some (.slice ap np cp) := hx 4 (by decide)
              clear hv hx
              refine wpOp_step rfl (fun K hK => ?_)
              go_simp
              exact hK _ _ ⟨rfl, HJ.out⟩
            · obtain rfl := Option.some.inj ho.symm
              clear ho
              have d3 : fr0.tmps[(59 : Nat)]? = some (.agg #[.int .i64 n, .bool em, .slice a L c]) := hv ⟨3, .data⟩ (by simp) rfl
              have d4 : fr0.tmps[(60 : Nat)]? = some (.slice ap np cp) := hv ⟨4, .data⟩ (by simp) rfl
              clear hv hx
              refine wpOp_step rfl (fun K hK => ?_)
              go_simp
              go_at_call 25
              refine (HH2.out _ HM.out.1 HM.out.2.2).mono ?_
              rintro e w2 ⟨rfl, hb2⟩
              exact hK _ _ ⟨rfl, HJ.out.trans (hb2.mono HJ.out.size)⟩
            · obtain rfl := Option.some.inj ho.symm
              clear ho
              have d5 : fr0.tmps[(61 : Nat)]? = some (.bool false) := hv ⟨5, .data⟩ (by simp) rfl
              clear hv hx
              refine wpOp_step rfl (fun K hK => ?_)
              go_simp
              exact hK _ _ ⟨rfl, HJ.out⟩
            · obtain rfl := Option.some.inj ho.symm
              clear ho
              have d6 : fr0.tmps[(62 : Nat)]? = some (.bool false) := hv ⟨6, .guard⟩ (by simp) rfl
              have x13 : fr0.tmps[(13 : Nat)]? = some (.bool true) := hx 13 (by decide)
              clear hv hx
              refine wpOp_step rfl (fun K hK => ?_)
              go_simp
              exact hK _ _ ⟨rfl, HJ.out⟩
            · obtain rfl := Option.some.inj ho.symm
              clear ho
              have d6 : fr0.tmps[(62 : Nat)]? = some (.bool false) := hv ⟨6, .data⟩ (by simp) rfl
              have d7 : fr0.tmps[(63 : Nat)]? = some (undef) := hv ⟨7, .data⟩ (by simp) rfl
              clear hv hx
              refine wpOp_step rfl (fun K hK => ?_)
              go_simp
              exact hK _ _ ⟨rfl, HJ.out⟩
            · obtain rfl := Option.some.inj ho.symm
              clear ho
              have d2 : fr0.tmps[(58 : Nat)]? = some (.bool false) := hv ⟨2, .data⟩ (by simp) rfl
              have d8 : fr0.tmps[(64 : Nat)]? = some (.bool false) := hv ⟨8, .data⟩ (by simp) rfl
              clear hv hx
              refine wpOp_step rfl (fun K hK => ?_)
              go_simp
              exact hK _ _ ⟨rfl, HJ.out⟩
            · obtain rfl := Option.some.inj ho.symm
              clear ho
              have d9 : fr0.tmps[(65 : Nat)]? = some (.bool true) := hv ⟨9, .data⟩ (by simp) rfl
              clear hv hx
              refine wpOp_step rfl (fun K hK => ?_)
              go_simp
              exact hK _ _ ⟨rfl, HJ.out⟩
          case he =>
            intro w' hJ
            simp only [putF, valsAt, Nat.reduceAdd, Nat.zero_add, List.getD_cons_zero, List.getD_cons_succ, Act.put, List.setIfInBounds_toArray, List.set_cons_succ, List.set_cons_zero]
            have HJ := Lib.hid hJ
            clear hJ
            go_wp2_with fail
            go_ret
            exact ⟨rfl, H9.out.2.2.2.2.2.trans (HJ.out.mono H9.out.2.2.2.2.2.size)⟩
    · have k0 : ((np : Int) != n) = true := by simpa using hnn
      rw [hL] at x2 HW HKP HWI ⊢
      rw [hnp]
      clear hW1 hX hx1 hb1 hm hp hE hpo hL hnp hpi hml hq
      go_enter Try.func7, Try.ntmps7
      go_upto_region 1 with fail
      rw [HW.out.1, HW.out.2]
      go_upto_region 4 with (first | (go_at_call 9; (with_reducible refine HKN.out.mono ?_); rintro e w2 ⟨rfl, hb2⟩; have HK2 := Lib.hid (HKP.out _ hb2); have y0 := HK2.out.1.cell 0; have y1 := HK2.out.1.cell 1; have y2 := HK2.out.1.cell 2) | (go_at_call 22; (with_reducible refine (HWI.out _ HK2.out.2.1).mono ?_); rintro e w3 ⟨pa, pc, rfl, hpm, hb3⟩; have z0 : w3.cell? ⟨X, 0, none⟩ = some (.int .i64 n) := (HK2.out.1.below hb3 HK2.out.1.lt).cell 0; have hXne : X < w3.heap.size := Nat.lt_of_lt_of_le HK2.out.1.lt hb3.size))
      go_wp2_with fail
      go_ret
      exact ⟨rfl, by rw [HW.out.1]; exact (HK2.out.2.2.2.trans (hb3.mono (Nat.le_of_lt HK2.out.1.lt))).alloc (Nat.le_of_lt hXne) _⟩
  · have k0 : (E != 0) = true := by simpa using h0
    rw [hL] at x2 HW HKP HWI ⊢
    rw [hnp]
    clear hW1 hX hx1 hb1 hm hp hE hpo hL hnp hpi hml hq
    go_enter Try.func7, Try.ntmps7
    go_upto_region 1 with fail
    rw [HW.out.1, HW.out.2]
    go_upto_region 4 with (first | (go_at_call 9; (with_reducible refine HKN.out.mono ?_); rintro e w2 ⟨rfl, hb2⟩; have HK2 := Lib.hid (HKP.out _ hb2); have y0 := HK2.out.1.cell 0; have y1 := HK2.out.1.cell 1; have y2 := HK2.out.1.cell 2) | (go_at_call 22; (with_reducible refine (HWI.out _ HK2.out.2.1).mono ?_); rintro e w3 ⟨pa, pc, rfl, hpm, hb3⟩))
    go_wp2_with fail
    go_ret
    exact ⟨rfl, by rw [HW.out.1]; exact (HK2.out.2.2.2.trans (hb3.mono (Nat.le_of_lt HK2.out.1.lt))).alloc (Nat.le_of_lt (Nat.lt_of_lt_of_le HK2.out.1.lt hb3.size)) _⟩
end Go.Proofs.Ythnefcafhpioaaa
