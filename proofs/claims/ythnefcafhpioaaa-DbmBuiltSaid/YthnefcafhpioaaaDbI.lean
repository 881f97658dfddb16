/-
  Package dbm: how far two sides are apart at a point; Has.
-/
import Derived.Test.YthnefcafhpioaaaDbH
namespace Go.Proofs.Ythnefcafhpioaaa
open Go Go.RowKit Go.Shelf
attribute [local go_sem] Oper.semAt_some

theorem vS_isI {x : List Int} (hx : ∀ v ∈ x, isI v) (i : Nat) : -9223372036854775808 ≤ vS x i ∧ vS x i ≤ 9223372036854775808 := by
  have h : isI (x.getD (i / 2) 0) := by
    rw [List.getD_eq_getElem?_getD]
    rcases Nat.lt_or_ge (i / 2) x.length with h' | h'
    · rw [List.getElem?_eq_getElem h']; exact hx _ (List.getElem_mem h')
    · rw [List.getElem?_eq_none h']; unfold isI; decide
  unfold isI at h
  unfold vS
  split <;> omega
/-- The least bound that is at least the difference of two sides. -/
def apV (x : List Int) (i j : Nat) : Int := nearV (vS x i - vS x j)
set_option maxRecDepth 100000 in
set_option maxHeartbeats 4000000 in
theorem apart_any (x : List Int) (hx : ∀ v ∈ x, isI v) (a : Option Addr) (c : Nat) (i j : Nat) (hi : i < 2 * x.length) (hj : j < 2 * x.length) (w : World) (hw : WAt w x a) :
    Calls Try.prog 52 #[.slice a (2 * x.length) c, .int .i64 i, .int .i64 j] w fun e w' => e = .returned (.int .i64 (apV x i j)) ∧ Below w.heap.size w w' := by
  obtain ⟨g, rfl, hc⟩ := hw.resolve_left (by omega)
  obtain ⟨a1, a2⟩ := hc i hi
  obtain ⟨a3, a4⟩ := hc j hj
  have v1 := vS_isI hx i
  have v2 := vS_isI hx j
  have HMI := Lib.hid (fun w => minus_any (vS x i) (vS x j) w)
  have HAB := Lib.hid (fun w => above_any (vS x i - vS x j) (by omega) (by omega) w)
  unfold apV
  obtain ⟨h1, e1⟩ : ∃ h, hiW (vS x i) = h := ⟨_, rfl⟩
  obtain ⟨h2, e2⟩ : ∃ h, hiW (vS x j) = h := ⟨_, rfl⟩
  obtain ⟨h3, e3⟩ : ∃ h, hiW (vS x i - vS x j) = h := ⟨_, rfl⟩
  obtain ⟨l1, e4⟩ : ∃ h, loW (vS x i) = h := ⟨_, rfl⟩
  obtain ⟨l2, e5⟩ : ∃ h, loW (vS x j) = h := ⟨_, rfl⟩
  obtain ⟨l3, e6⟩ : ∃ h, loW (vS x i - vS x j) = h := ⟨_, rfl⟩
  obtain ⟨D, e7⟩ : ∃ D, nearV (vS x i - vS x j) = D := ⟨_, rfl⟩
  unfold wV at HMI HAB
  simp only [e1, e2, e3, e4, e5, e6] at HMI
  simp only [e3, e6, e7] at HAB
  rw [e1] at a1
  rw [e4] at a2
  rw [e2] at a3
  rw [e5] at a4
  rw [e7]
  have HG := Lib.hid (World.block_lt_of_cell? w _ a1)
  have HCE := Lib.hid (And.intro a1 (And.intro a2 (And.intro a3 a4)))
  obtain ⟨n, hn⟩ : ∃ n, 2 * x.length = n := ⟨_, rfl⟩
  rw [hn] at hi hj ⊢
  have hin : (i : Int) < (n : Int) := by omega
  have hjn : (j : Int) < (n : Int) := by omega
  clear e1 e2 e3 e4 e5 e6 e7 a1 a2 a3 a4 v1 v2 hc hn hw hi hj
  go_enter Try.func52, Try.ntmps52
  go_upto_region 1 with fail
  refine wp_region_any (by kernel_rfl) ?_
  refine wpAny_vals [7, 8, 9, 10, 11, 12, 13, 14, 15, 16, 6] [.slice (some ⟨g, 0, none⟩) n c, .int .i64 (i : Int), .pointer (some ⟨g, i * 2, none⟩), .agg #[.int .u64 h1, .int .u64 l1], .slice (some ⟨g, 0, none⟩) n c, .int .i64 (j : Int), .pointer (some ⟨g, j * 2, none⟩), .agg #[.int .u64 h2, .int .u64 l2], .agg #[.int .u64 h3, .int .u64 l3], .int .i64 D, .int .i64 D] (fun w' => Below w.heap.size w w') rfl (by kernel_rfl) (by decide) (by kernel_rfl) ?hs ?he ?hj
  case hj => exact (Below.refl _ _).drew
  case hs =>
    intro qi qo ho fr0 hv hx w' hJ
    have hi : qi < 11 := (Array.getElem?_eq_some_iff.1 ho).1
    have c0 : w'.cell? ⟨g, i * 2, none⟩ = some (.int .u64 h1) := (hJ.cell (p := ⟨g, i * 2, none⟩) HG.out).trans HCE.out.1
    have c1 : w'.cell? ⟨g, i * 2 + 1, none⟩ = some (.int .u64 l1) := (hJ.cell (p := ⟨g, i * 2 + 1, none⟩) HG.out).trans HCE.out.2.1
    have c2 : w'.cell? ⟨g, j * 2, none⟩ = some (.int .u64 h2) := (hJ.cell (p := ⟨g, j * 2, none⟩) HG.out).trans HCE.out.2.2.1
    have c3 : w'.cell? ⟨g, j * 2 + 1, none⟩ = some (.int .u64 l2) := (hJ.cell (p := ⟨g, j * 2 + 1, none⟩) HG.out).trans HCE.out.2.2.2
    have HJ := Lib.hid hJ
    clear hJ
    have hcase : qi = 0 ∨ qi = 1 ∨ qi = 2 ∨ qi = 3 ∨ qi = 4 ∨ qi = 5 ∨ qi = 6 ∨ qi = 7 ∨ qi = 8 ∨ qi = 9 ∨ qi = 10 := by omega
    clear hi
    rcases hcase with rfl | rfl | rfl | rfl | rfl | rfl | rfl | rfl | rfl | rfl | rfl
    · obtain rfl := Option.some.inj ho.symm
      clear ho
      have x0 : fr0.tmps[(0 : Nat)]? = some (.slice (some ⟨g, 0, none⟩) n c) := hx 0 (by decide)
      clear hv hx
      refine wpOp_step rfl (fun K hK => ?_)
      go_simp
      exact hK _ _ ⟨rfl, HJ.out⟩
    · obtain rfl := Option.some.inj ho.symm
      clear ho
      have x1 : fr0.tmps[(1 : Nat)]? = some (.int .i64 (i : Int)) := hx 1 (by decide)
      clear hv hx
      refine wpOp_step rfl (fun K hK => ?_)
      go_simp
      exact hK _ _ ⟨rfl, HJ.out⟩
    · obtain rfl := Option.some.inj ho.symm
      clear ho
      have d0 : fr0.tmps[(7 : Nat)]? = some (.slice (some ⟨g, 0, none⟩) n c) := hv ⟨0, .data⟩ (by simp) rfl
      have d1 : fr0.tmps[(8 : Nat)]? = some (.int .i64 (i : Int)) := hv ⟨1, .data⟩ (by simp) rfl
      clear hv hx
      refine wpOp_step rfl (fun K hK => ?_)
      go_simp
      exact hK _ _ ⟨rfl, HJ.out⟩
    · obtain rfl := Option.some.inj ho.symm
      clear ho
      have d2 : fr0.tmps[(9 : Nat)]? = some (.pointer (some ⟨g, i * 2, none⟩)) := hv ⟨2, .data⟩ (by simp) rfl
      clear hv hx
      refine wpOp_step rfl (fun K hK => ?_)
      go_simp
      exact hK _ _ ⟨rfl, HJ.out⟩
    · obtain rfl := Option.some.inj ho.symm
      clear ho
      have x0 : fr0.tmps[(0 : Nat)]? = some (.slice (some ⟨g, 0, none⟩) n c) := hx 0 (by decide)
      clear hv hx
      refine wpOp_step rfl (fun K hK => ?_)
      go_simp
      exact hK _ _ ⟨rfl, HJ.out⟩
    · obtain rfl := Option.some.inj ho.symm
      clear ho
      have x2 : fr0.tmps[(2 : Nat)]? = some (.int .i64 (j : Int)) := hx 2 (by decide)
      clear hv hx
      refine wpOp_step rfl (fun K hK => ?_)
      go_simp
      exact hK _ _ ⟨rfl, HJ.out⟩
    · obtain rfl := Option.some.inj ho.symm
      clear ho
      have d4 : fr0.tmps[(11 : Nat)]? = some (.slice (some ⟨g, 0, none⟩) n c) := hv ⟨4, .data⟩ (by simp) rfl
      have d5 : fr0.tmps[(12 : Nat)]? = some (.int .i64 (j : Int)) := hv ⟨5, .data⟩ (by simp) rfl
      clear hv hx
      refine wpOp_step rfl (fun K hK => ?_)
      go_simp
      exact hK _ _ ⟨rfl, HJ.out⟩
    · obtain rfl := Option.some.inj ho.symm
      clear ho
      have d6 : fr0.tmps[(13 : Nat)]? = some (.pointer (some ⟨g, j * 2, none⟩)) := hv ⟨6, .data⟩ (by simp) rfl
      clear hv hx
      refine wpOp_step rfl (fun K hK => ?_)
      go_simp
      exact hK _ _ ⟨rfl, HJ.out⟩
    · obtain rfl := Option.some.inj ho.symm
      clear ho
      have d3 : fr0.tmps[(10 : Nat)]? = some (.agg #[.int .u64 h1, .int .u64 l1]) := hv ⟨3, .data⟩ (by simp) rfl
      have d7 : fr0.tmps[(14 : Nat)]? = some (.agg #[.int .u64 h2, .int .u64 l2]) := hv ⟨7, .data⟩ (by simp) rfl
      clear hv hx
      refine wpOp_step rfl (fun K hK => ?_)
      go_simp
      go_at_call 65
      refine (HMI.out _).mono ?_
      rintro e w2 ⟨rfl, hb2⟩
      exact hK _ _ ⟨rfl, HJ.out.trans (hb2.mono HJ.out.size)⟩
    · obtain rfl := Option.some.inj ho.symm
      clear ho
      have d8 : fr0.tmps[(15 : Nat)]? = some (.agg #[.int .u64 h3, .int .u64 l3]) := hv ⟨8, .data⟩ (by simp) rfl
      clear hv hx
      refine wpOp_step rfl (fun K hK => ?_)
      go_simp
      go_at_call 67
      refine (HAB.out _).mono ?_
      rintro e w2 ⟨rfl, hb2⟩
      exact hK _ _ ⟨rfl, HJ.out.trans (hb2.mono HJ.out.size)⟩
    · obtain rfl := Option.some.inj ho.symm
      clear ho
      have d9 : fr0.tmps[(16 : Nat)]? = some (.int .i64 D) := hv ⟨9, .data⟩ (by simp) rfl
      clear hv hx
      refine wpOp_step rfl (fun K hK => ?_)
      go_simp
      exact hK _ _ ⟨rfl, HJ.out⟩
  case he =>
    intro w' hJ
    simp only [putF, valsAt, Nat.reduceAdd, Nat.zero_add, List.getD_cons_zero, List.getD_cons_succ, Act.put, List.setIfInBounds_toArray, List.set_cons_succ, List.set_cons_zero]
    have HJ := Lib.hid hJ
    clear hJ
    go_wp2_with fail
    go_ret
    exact ⟨rfl, HJ.out⟩

def hasM (n : Nat) (m p : List Int) : Bool := (List.range n).all fun i => (List.range n).all fun j => decide (apV p i j ≤ gM n m i j)
/-- What Has answers. -/
def hasV (x : Oc) (p : List Int) : Bool := if chkO x ≠ 0 ∨ x.em = true ∨ (p.length : Int) ≠ x.n then false else hasM (2 * x.n.toNat) x.m p
theorem hasM_false {n : Nat} {m p : List Int} {i j : Nat} (hi : i < n) (hj : j < n) (h : gM n m i j < apV p i j) : hasM n m p = false := by
  unfold hasM
  rw [List.all_eq_false]
  refine ⟨i, List.mem_range.2 hi, ?_⟩
  rw [Bool.not_eq_true, List.all_eq_false]
  exact ⟨j, List.mem_range.2 hj, by rw [decide_eq_false (by omega)]; decide⟩
theorem hasM_true {n : Nat} {m p : List Int} (h : ∀ x ∈ allP n, apV p x.1 x.2 ≤ gM n m x.1 x.2) : hasM n m p = true :=
  List.all_eq_true.2 fun i hi => List.all_eq_true.2 fun j hj => decide_eq_true (h (i, j) (mem_allP (List.mem_range.1 hi) (List.mem_range.1 hj)))

def HsI (n : Nat) (m p : List Int) (W0 : World) (pre : List (Nat × Nat)) (A : World) : Prop := (∀ x ∈ pre, apV p x.1 x.2 ≤ gM n m x.1 x.2) ∧ Below W0.heap.size W0 A
def HsX (n : Nat) (m p : List Int) (X : Nat) (w : World) (c : Code) (A : World) : Prop := c = .ret ∧ hasM n m p = false ∧ Blk A (X + 1) #[.bool false] 4 ∧ Below X w A
theorem hs_next {n : Nat} {m p : List Int} {pre : List (Nat × Nat)} {i j : Nat} (h : ∀ x ∈ pre, apV p x.1 x.2 ≤ gM n m x.1 x.2) (h1 : apV p i j ≤ gM n m i j) : ∀ x ∈ pre ++ [(i, j)], apV p x.1 x.2 ≤ gM n m x.1 x.2 := fun x hx => by
  rcases List.mem_append.1 hx with hx | hx
  · exact h x hx
  · obtain rfl := List.mem_singleton.1 hx; exact h1
set_option maxRecDepth 100000 in
set_option maxHeartbeats 8000000 in
theorem has_any (x : Oc) (a : Option Addr) (c : Nat) (p : List Int) (ap : Option Addr) (cp : Nat) (w : World) (hm : MAt w x.m a) (hp : MAt w p ap) (hpi : ∀ v ∈ p, isI v) :
    Calls Try.prog 25 #[ocV x a c, .slice ap p.length cp] w fun e w' => e = .returned (.bool (hasV x p)) ∧ Below w.heap.size w w' := by
  obtain ⟨n, em, m⟩ := x
  simp only at hm
  show Calls Try.prog 25 #[.agg #[.int .i64 n, .bool em, .slice a m.length c], .slice ap p.length cp] w _
  obtain ⟨X, hX⟩ : ∃ X, w.heap.size = X := ⟨_, rfl⟩
  obtain ⟨W1, hW1⟩ : ∃ W, (w.alloc (.cells #[.int .i64 n, .bool em, .slice a m.length c] 24)).alloc (.cells #[.bool false] 4) = W := ⟨_, rfl⟩
  have hx1 : Blk W1 X #[.int .i64 n, .bool em, .slice a m.length c] 24 := by rw [← hW1, ← hX]; exact (Blk.new w _ _).alloc _
  have hr1 : Blk W1 (X + 1) #[.bool false] 4 := by
    have h := Blk.new (w.alloc (.cells #[.int .i64 n, .bool em, .slice a m.length c] 24)) #[.bool false] 4
    rw [World.size_alloc, hX] at h
    rw [← hW1]; exact h
  have hb1 : Below X w W1 := by rw [← hW1, ← hX]; exact ((Below.refl _ w).alloc (Nat.le_refl _) _).alloc (by simp) _
  have hs1 : W1.heap.size = X + 2 := by rw [← hW1, ← hX]; simp
  have hm1 : MAt W1 m a := hm.next (by rw [hX]; exact hb1)
  have hp1 : MAt W1 p ap := hp.next (by rw [hX]; exact hb1)
  have HC : Hid (Calls Try.prog 10 #[.agg #[.int .i64 n, .bool em, .slice a m.length c]] W1 fun e w' => e = .returned (.int .i64 (chkO ⟨n, em, m⟩)) ∧ Below W1.heap.size W1 w') := Lib.hid (check_any ⟨n, em, m⟩ a c W1 hm1)
  have HW := Lib.hid (And.intro hX hW1)
  have x0 : W1.cell? ⟨X, 0, none⟩ = some (.int .i64 n) := hx1.cell 0
  have x1 : W1.cell? ⟨X, 1, none⟩ = some (.bool em) := hx1.cell 1
  have x2 : W1.cell? ⟨X, 2, none⟩ = some (.slice a m.length c) := hx1.cell 2
  have HKP : Hid (∀ ww : World, Below W1.heap.size W1 ww → Blk ww X #[.int .i64 n, .bool em, .slice a m.length c] 24 ∧ Blk ww (X + 1) #[.bool false] 4 ∧ MAt ww m a ∧ MAt ww p ap ∧ Below X w ww ∧ X + 2 ≤ ww.heap.size) := Lib.hid fun ww hb => ⟨hx1.below hb hx1.lt, hr1.below hb hr1.lt, hm1.next hb, hp1.next hb, hb1.trans (hb.mono (by omega)), by rw [← hs1]; exact hb.size⟩
  obtain ⟨L, hL⟩ : ∃ L, m.length = L := ⟨_, rfl⟩
  obtain ⟨NP, hNP⟩ : ∃ L, p.length = L := ⟨_, rfl⟩
  obtain ⟨F, hF⟩ : ∃ F, chkO ⟨n, em, m⟩ = F := ⟨_, rfl⟩
  rw [hF] at HC
  by_cases h0 : F = 0
  · cases em with
    | true =>
      have e : hasV ⟨n, true, m⟩ p = false := by unfold hasV; rw [if_pos (.inr (.inl rfl))]
      have k0 : (F != 0) = false := by simp [h0]
      rw [e]
      rw [hL] at x2 HW HC HKP ⊢
      rw [hNP]
      clear hW1 hX hm1 hx1 hr1 hb1 hm hp hp1 hF e hs1 hL hNP hpi h0
      refine calls_of_wp_marks Try.func25 rfl ?_
      simp only [Try.ntmps25, List.size_toArray, List.length_cons, List.length_nil, Nat.reduceAdd, Nat.reduceSub, Array.replicate_succ, Array.replicate_zero, List.push_toArray, List.append_toArray, List.nil_append, List.cons_append]
      go_upto_region 1 with fail
      simp only [HW.out.1]
      rw [HW.out.2]
      go_upto_region 2 with (go_at_call 10; ((with_reducible refine HC.out.mono ?_); rintro e w2 ⟨rfl, hb2⟩; have HK2 := Lib.hid (HKP.out _ hb2); have y0 := HK2.out.1.cell 0; have y1 := HK2.out.1.cell 1))
      have z1 := HK2.out.2.1.cell 0
      have z2 := HK2.out.2.1.free 0
      go_wp2_with fail
      have hZ := HK2.out.2.1.set 0 (.bool false)
      have z0 := hZ.cell 0
      simp at z0
      refine ⟨.bool false, by simp [results, Try.results25, go_sem, z0], rfl, ?_⟩
      rw [HW.out.1]
      exact HK2.out.2.2.2.2.1.setCell (by simp) _
    | false =>
      by_cases hnp : (NP : Int) = n
      · obtain ⟨N, hN, hn, hem, hok⟩ := chk_zero (hF.trans h0)
        simp only at hn hem hok
        subst hn
        have hnpn : NP = N := by omega
        subst hnpn
        have hlen := (hok (by simp)).1
        have e : hasV ⟨NP, false, m⟩ p = hasM (2 * NP) m p := by unfold hasV; rw [if_neg (by simp [hF, h0, hNP])]; rfl
        rw [e]
        subst h0
        have HS : Hid (∀ ww : World, MAt ww p ap → Calls Try.prog 50 #[.slice ap NP cp] ww fun e w' => ∃ a' c', e = .returned (.slice a' (2 * NP) c') ∧ WAt w' p a' ∧ Below ww.heap.size ww w') := Lib.hid fun ww h => by
          have h2 := sides_any p ap cp ww h (by omega) hpi
          rw [hNP] at h2
          exact h2
        have HZ := Lib.hid (And.intro hlen (And.intro hL (And.intro hNP (And.intro hN hpi))))
        rw [hL] at x2 HW HC HKP ⊢
        rw [hNP]
        clear hW1 hX hm1 hx1 hr1 hb1 hm hp hp1 hF hem hok e hs1 hlen hL hNP hN hpi hnp
        refine calls_of_wp_marks Try.func25 rfl ?_
        simp only [Try.ntmps25, List.size_toArray, List.length_cons, List.length_nil, Nat.reduceAdd, Nat.reduceSub, Array.replicate_succ, Array.replicate_zero, List.push_toArray, List.append_toArray, List.nil_append, List.cons_append]
        go_upto_region 1 with fail
        simp only [HW.out.1]
        rw [HW.out.2]
        go_upto_region 4 with (first | (go_at_call 10; ((with_reducible refine HC.out.mono ?_); rintro e w2 ⟨rfl, hb2⟩; have HK2 := Lib.hid (HKP.out _ hb2); have y0 := HK2.out.1.cell 0; have y1 := HK2.out.1.cell 1)) | (go_at_call 50; ((with_reducible refine (HS.out _ HK2.out.2.2.2.1).mono ?_); rintro e w3 ⟨av, cvv, rfl, hwa, hb3⟩)))
        obtain ⟨V, hV⟩ : ∃ V, w3.heap.size = V := ⟨_, rfl⟩
        have k1 := HK2.out.1.below hb3 HK2.out.1.lt
        have k2 := HK2.out.2.1.below hb3 HK2.out.2.1.lt
        have k3 := HK2.out.2.2.1.next hb3
        have k5 := HK2.out.2.2.2.2.1.trans (hb3.mono (by have := HK2.out.2.2.2.2.2; omega))
        have k6 : X + 2 ≤ V := by rw [← hV]; exact Nat.le_trans HK2.out.2.2.2.2.2 hb3.size
        have hvb := Blk.new w3 #[.slice av (2 * NP) cvv] 73
        obtain ⟨W4, hW4⟩ : ∃ W, w3.alloc (.cells #[.slice av (2 * NP) cvv] 73) = W := ⟨_, rfl⟩
        have hs4 : W4.heap.size = V + 1 := by rw [← hW4, World.size_alloc, hV]
        have hb4 : Below V w3 W4 := by rw [← hW4, ← hV]; exact (Below.refl _ w3).alloc (Nat.le_refl _) _
        have k1 := k1.below hb4 (by omega)
        have k2 := k2.below hb4 (by omega)
        have k3 : MAt W4 m a := k3.next (by rw [hV]; exact hb4)
        have k4 : WAt W4 p av := hwa.next (by rw [hV]; exact hb4)
        have k5 := k5.trans (hb4.mono (by omega))
        rw [hV, hW4] at hvb
        rw [hV, hW4]
        have u0 : W4.cell? ⟨X, 0, none⟩ = some (.int .i64 NP) := k1.cell 0
        have HQ := Lib.hid (And.intro k1 (And.intro k2 (And.intro k3 (And.intro k4 (And.intro k5 (And.intro hvb hs4))))))
        clear k1 k2 k3 k4 k5 hvb hs4 hb4 hW4 hwa hb3 hb2 y0 y1 x0 x1 x2 HK2 HKP HC HS
        go_wp2_with (go_at_call 51; ((with_reducible refine (places_any NP _).mono ?_); rintro e w' ⟨rfl, rfl⟩))
        obtain ⟨W0, hW0⟩ : ∃ W0, W4.alloc (.cells #[.int .i64 NP] 3) = W0 := ⟨_, rfl⟩
        have hs4 := HQ.out.2.2.2.2.2.2
        have hb4 : Below (V + 1) W4 W0 := by rw [← hW0, ← hs4]; exact (Below.refl _ W4).alloc (Nat.le_refl _) _
        have hz0 : W0.heap.size = V + 2 := by rw [← hW0, World.size_alloc, hs4]
        have hn0 : Blk W0 (V + 1) #[.int .i64 NP] 3 := by rw [← hW0, ← hs4]; exact Blk.new W4 _ _
        have q1 := HQ.out.1.below hb4 (by omega)
        have q2 := HQ.out.2.1.below hb4 (by omega)
        have q3 := HQ.out.2.2.1.next (by rw [hs4]; exact hb4)
        have q4 := HQ.out.2.2.2.1.next (by rw [hs4]; exact hb4)
        have q5 := HQ.out.2.2.2.2.1.trans (hb4.mono (by omega))
        have q6 := HQ.out.2.2.2.2.2.1.below hb4 (by omega)
        rw [hs4, hW0]
        clear hW0 HQ hb4 hs4
        have HN0 := Lib.hid (And.intro (hn0.cell 0) hn0.lt)
        have HR0 := Lib.hid (And.intro q2 (And.intro q2.lt q5))
        have HX0 := Lib.hid (And.intro q1 (And.intro q3 (And.intro q4 q6)))
        clear hn0 q1 q2 q3 q4 q5 q6
        have hNN : NP ≤ 64 := HZ.out.2.2.2.1
        refine wp_rangeFunc_oneK (gf := 66) (lb := #[.pointer (some ⟨V + 1, 0, none⟩)]) rfl (enters_of Try.func66 (by kernel_rfl) rfl)
          (places1_seq NP (V + 1) hNN W0) (Below.refl _ _) (fun _ => rfl)
          (fun pre A => HsI (2 * NP) m p W0 pre A) (fun c pre A => HsX (2 * NP) m p X w c A)
          (fun pre A B h hb => ⟨h.1, h.2.trans hb⟩) (fun c pre A B h hb => ⟨h.1, h.2.1, h.2.2.1.below hb HR0.out.2.1, h.2.2.2.trans (hb.mono (by omega))⟩)
          (fun pre A h => (h.2.cell (p := ⟨V + 1, 0, none⟩) HN0.out.2).trans HN0.out.1) ⟨by simp, Below.refl _ _⟩ ?round ?done ?stop
        case round =>
          intro l pre x A hI hpre hle hl2
          obtain ⟨i, j⟩ := x
          obtain ⟨hi, hj⟩ := allP_lt (hpre.subset (by simp : (i, j) ∈ pre ++ [(i, j)]))
          simp only at hi hj
          dsimp only [encP]
          gi_wp2
          refine ⟨Above.refl _ _, fun r o' hr => ?_⟩
          have hI2 : HsI (2 * NP) m p W0 pre (A.putObj l (.loop o')) := ⟨hI.1, hI.2.trans (below_put _ _ hl2 (.loop o'))⟩
          obtain ⟨A2, hA2⟩ : ∃ A2, A.putObj l (.loop o') = A2 := ⟨_, rfl⟩
          rw [hA2] at hI2 ⊢
          clear hA2 hr hI hle hl2 hpre
          obtain ⟨hok, hib⟩ := hI2
          have hlen := HZ.out.1
          have hmA : MAt A2 m a := HX0.out.2.1.next hib
          have hwA : WAt A2 p av := HX0.out.2.2.1.next hib
          have hT0 := cell_lt hi hj
          obtain ⟨b, ob, rfl, -⟩ := mat_at hmA (i := i * (2 * NP) + j) (by omega)
          have cT := gM_at hmA hlen hi hj
          have HIX := Lib.hid (fun w => index_any NP i j hNN hi hj w)
          have HAP := Lib.hid (fun (w : World) (hw : WAt w p av) => by
            have h := apart_any p HZ.out.2.2.2.2 av cvv i j (by rw [HZ.out.2.2.1]; exact hi) (by rw [HZ.out.2.2.1]; exact hj) w hw
            rw [HZ.out.2.2.1] at h
            exact h)
          obtain ⟨NV, hNV⟩ : ∃ NV, 2 * NP = NV := ⟨_, rfl⟩
          have tl : (((i * (2 * NP) + j : Nat)) : Int) < (L : Int) := by have := HZ.out.2.1; omega
          obtain ⟨T, hT⟩ : ∃ T, i * (2 * NP) + j = T := ⟨_, rfl⟩
          rw [hT] at HIX cT tl
          obtain ⟨C, hC⟩ : ∃ C, gM (2 * NP) m i j = C := ⟨_, rfl⟩
          obtain ⟨D, hD⟩ : ∃ D, apV p i j = D := ⟨_, rfl⟩
          rw [hC] at cT
          rw [hD, hNV] at HAP
          have u1 := HX0.out.1.below hib HX0.out.1.lt
          have u2 := HX0.out.2.2.2.below hib HX0.out.2.2.2.lt
          rw [hNV] at u2
          have HSX := Lib.hid u1.lt
          have HSV := Lib.hid u2.lt
          have HST := Lib.hid (World.block_lt_of_cell? A2 _ cT)
          have HT := Lib.hid cT
          have HX := Lib.hid (And.intro (u1.cell 0) (And.intro (u1.cell 2) (u2.cell 0)))
          have HWA := Lib.hid hwA
          have HIB := Lib.hid hib
          have HCD := Lib.hid (And.intro hC (And.intro hD (And.intro hok (And.intro hi hj))))
          clear cT u1 u2 hwA hmA hlen hT0 hT hib hi hj hok hNN
          (try gi_wp2)
          by_cases kg : C < D
          · have HBADM := Lib.hid (hasM_false HCD.out.2.2.2.1 HCD.out.2.2.2.2 (show gM (2 * NP) m i j < apV p i j by rw [HCD.out.1, HCD.out.2.1]; exact kg))
            clear hC hD
            refine wp_region_round (by kernel_rfl) (by kernel_rfl) ?lo ?_
            case lo => rintro ⟨_, _, h⟩; exact h
            refine wpAny_vals [29, 30, 31, 32, 33, 34, 35, 36, 37, 38, 39, 40, 41, 42] [.slice av NV cvv, .int .i64 (i : Int), .int .i64 (j : Int), .int .i64 D, .pointer (some ⟨X, 2, none⟩), .slice (some ⟨b, ob, none⟩) L c, .pointer (some ⟨X, 0, none⟩), .int .i64 (NP : Int), .int .i64 (i : Int), .int .i64 (j : Int), .int .i64 (T : Int), .pointer (some ⟨b, ob + T, none⟩), .int .i64 C, .bool true] (fun w' => Below A2.heap.size A2 w') rfl (by kernel_rfl) (by decide) (by kernel_rfl) ?hs ?he ?hj
            case hj => exact (Below.refl _ _).drew
            case hs =>
              intro qi qo ho fr0 hv hx w' hJ
              have hi : qi < 14 := (Array.getElem?_eq_some_iff.1 ho).1
              have c0 : w'.cell? ⟨X, 0, none⟩ = some (.int .i64 NP) := (hJ.cell (p := ⟨X, 0, none⟩) HSX.out).trans HX.out.1
              have c2 : w'.cell? ⟨X, 2, none⟩ = some (.slice (some ⟨b, ob, none⟩) L c) := (hJ.cell (p := ⟨X, 2, none⟩) HSX.out).trans HX.out.2.1
              have cv : w'.cell? ⟨V, 0, none⟩ = some (.slice av NV cvv) := (hJ.cell (p := ⟨V, 0, none⟩) HSV.out).trans HX.out.2.2
              have cT : w'.cell? ⟨b, ob + T, none⟩ = some (.int .i64 C) := (hJ.cell (p := ⟨b, ob + T, none⟩) HST.out).trans HT.out
              have HWW := Lib.hid (HWA.out.next hJ)
              have HJ := Lib.hid hJ
              clear hJ
              have hcase : qi = 0 ∨ qi = 1 ∨ qi = 2 ∨ qi = 3 ∨ qi = 4 ∨ qi = 5 ∨ qi = 6 ∨ qi = 7 ∨ qi = 8 ∨ qi = 9 ∨ qi = 10 ∨ qi = 11 ∨ qi = 12 ∨ qi = 13 := by omega
              clear hi
              rcases hcase with rfl | rfl | rfl | rfl | rfl | rfl | rfl | rfl | rfl | rfl | rfl | rfl | rfl | rfl
              · obtain rfl := Option.some.inj ho.symm
                clear ho
                have x5 : fr0.tmps[(5 : Nat)]? = some (.pointer (some ⟨V, 0, none⟩)) := hx 5 (by decide)
                clear hv hx
                refine wpOp_step rfl (fun K hK => ?_)
                go_simp
                exact hK _ _ ⟨rfl, HJ.out⟩
              · obtain rfl := Option.some.inj ho.symm
                clear ho
                have x6 : fr0.tmps[(6 : Nat)]? = some (.int .i64 (i : Int)) := hx 6 (by decide)
                clear hv hx
                refine wpOp_step rfl (fun K hK => ?_)
                go_simp
                exact hK _ _ ⟨rfl, HJ.out⟩
              · obtain rfl := Option.some.inj ho.symm
                clear ho
                have x7 : fr0.tmps[(7 : Nat)]? = some (.int .i64 (j : Int)) := hx 7 (by decide)
                clear hv hx
                refine wpOp_step rfl (fun K hK => ?_)
                go_simp
                exact hK _ _ ⟨rfl, HJ.out⟩
              · obtain rfl := Option.some.inj ho.symm
                clear ho
                have d0 : fr0.tmps[(29 : Nat)]? = some (.slice av NV cvv) := hv ⟨0, .data⟩ (by simp) rfl
                have d1 : fr0.tmps[(30 : Nat)]? = some (.int .i64 (i : Int)) := hv ⟨1, .data⟩ (by simp) rfl
                have d2 : fr0.tmps[(31 : Nat)]? = some (.int .i64 (j : Int)) := hv ⟨2, .data⟩ (by simp) rfl
                clear hv hx
                refine wpOp_step rfl (fun K hK => ?_)
                go_simp
                go_at_call 52
                refine (HAP.out _ HWW.out).mono ?_
                rintro e w2 ⟨rfl, hb2⟩
                exact hK _ _ ⟨rfl, HJ.out.trans (hb2.mono HJ.out.size)⟩
              · obtain rfl := Option.some.inj ho.symm
                clear ho
                have x2 : fr0.tmps[(2 : Nat)]? = some (.pointer (some ⟨X, 0, none⟩)) := hx 2 (by decide)
                clear hv hx
                refine wpOp_step rfl (fun K hK => ?_)
                go_simp
                exact hK _ _ ⟨rfl, HJ.out⟩
              · obtain rfl := Option.some.inj ho.symm
                clear ho
                have d4 : fr0.tmps[(33 : Nat)]? = some (.pointer (some ⟨X, 2, none⟩)) := hv ⟨4, .data⟩ (by simp) rfl
                clear hv hx
                refine wpOp_step rfl (fun K hK => ?_)
                go_simp
                exact hK _ _ ⟨rfl, HJ.out⟩
              · obtain rfl := Option.some.inj ho.symm
                clear ho
                have x2 : fr0.tmps[(2 : Nat)]? = some (.pointer (some ⟨X, 0, none⟩)) := hx 2 (by decide)
                clear hv hx
                refine wpOp_step rfl (fun K hK => ?_)
                go_simp
                exact hK _ _ ⟨rfl, HJ.out⟩
              · obtain rfl := Option.some.inj ho.symm
                clear ho
                have d6 : fr0.tmps[(35 : Nat)]? = some (.pointer (some ⟨X, 0, none⟩)) := hv ⟨6, .data⟩ (by simp) rfl
                clear hv hx
                refine wpOp_step rfl (fun K hK => ?_)
                go_simp
                exact hK _ _ ⟨rfl, HJ.out⟩
              · obtain rfl := Option.some.inj ho.symm
                clear ho
                have x6 : fr0.tmps[(6 : Nat)]? = some (.int .i64 (i : Int)) := hx 6 (by decide)
                clear hv hx
                refine wpOp_step rfl (fun K hK => ?_)
                go_simp
                exact hK _ _ ⟨rfl, HJ.out⟩
              · obtain rfl := Option.some.inj ho.symm
                clear ho
                have x7 : fr0.tmps[(7 : Nat)]? = some (.int .i64 (j : Int)) := hx 7 (by decide)
                clear hv hx
                refine wpOp_step rfl (fun K hK => ?_)
                go_simp
                exact hK _ _ ⟨rfl, HJ.out⟩
              · obtain rfl := Option.some.inj ho.symm
                clear ho
                have d7 : fr0.tmps[(36 : Nat)]? = some (.int .i64 (NP : Int)) := hv ⟨7, .data⟩ (by simp) rfl
                have d8 : fr0.tmps[(37 : Nat)]? = some (.int .i64 (i : Int)) := hv ⟨8, .data⟩ (by simp) rfl
                have d9 : fr0.tmps[(38 : Nat)]? = some (.int .i64 (j : Int)) := hv ⟨9, .data⟩ (by simp) rfl
                clear hv hx
                refine wpOp_step rfl (fun K hK => ?_)
                go_simp
                go_at_call 42
                refine (HIX.out _).mono ?_
                rintro e w2 ⟨rfl, rfl⟩
                exact hK _ _ ⟨rfl, HJ.out⟩
              · obtain rfl := Option.some.inj ho.symm
                clear ho
                have d5 : fr0.tmps[(34 : Nat)]? = some (.slice (some ⟨b, ob, none⟩) L c) := hv ⟨5, .data⟩ (by simp) rfl
                have d10 : fr0.tmps[(39 : Nat)]? = some (.int .i64 (T : Int)) := hv ⟨10, .data⟩ (by simp) rfl
                clear hv hx
                refine wpOp_step rfl (fun K hK => ?_)
                go_simp
                exact hK _ _ ⟨rfl, HJ.out⟩
              · obtain rfl := Option.some.inj ho.symm
                clear ho
                have d11 : fr0.tmps[(40 : Nat)]? = some (.pointer (some ⟨b, ob + T, none⟩)) := hv ⟨11, .data⟩ (by simp) rfl
                clear hv hx
                refine wpOp_step rfl (fun K hK => ?_)
                go_simp
                exact hK _ _ ⟨rfl, HJ.out⟩
              · obtain rfl := Option.some.inj ho.symm
                clear ho
                have d3 : fr0.tmps[(32 : Nat)]? = some (.int .i64 D) := hv ⟨3, .data⟩ (by simp) rfl
                have d12 : fr0.tmps[(41 : Nat)]? = some (.int .i64 C) := hv ⟨12, .data⟩ (by simp) rfl
                clear hv hx
                refine wpOp_step rfl (fun K hK => ?_)
                go_simp
                exact hK _ _ ⟨rfl, HJ.out⟩
            case he =>
              intro w' hJ
              simp only [putF, valsAt, Nat.reduceAdd, Nat.zero_add, List.getD_cons_zero, List.getD_cons_succ, Act.put, List.setIfInBounds_toArray, List.set_cons_succ, List.set_cons_zero]
              have hR := HIB.out.trans (hJ.mono HIB.out.size)
              have hr := HR0.out.1.below hR HR0.out.2.1
              have hRb := hr.free 0
              have hRc := hr.cell 0
              have HJ := Lib.hid (And.intro hJ (And.intro hr hR))
              clear hJ hR hr
              gi_wp2
              exact ⟨((Above.refl _ A2).below HJ.out.1).setCell HR0.out.2.1 _, rfl, HBADM.out, HJ.out.2.1.set 0 (.bool false), (HR0.out.2.2.trans (HJ.out.2.2.mono (by have := HR0.out.2.1; omega))).setCell (by simp) _⟩
          · have HNX := Lib.hid (hs_next HCD.out.2.2.1 (show apV p i j ≤ gM (2 * NP) m i j by rw [HCD.out.1, HCD.out.2.1]; omega))
            have kg2 : decide (C < D) = false := decide_eq_false kg
            clear hC hD kg
            refine wp_region_round (by kernel_rfl) (by kernel_rfl) ?lo ?_
            case lo => rintro ⟨_, _, h⟩; exact h
            refine wpAny_vals [29, 30, 31, 32, 33, 34, 35, 36, 37, 38, 39, 40, 41, 42] [.slice av NV cvv, .int .i64 (i : Int), .int .i64 (j : Int), .int .i64 D, .pointer (some ⟨X, 2, none⟩), .slice (some ⟨b, ob, none⟩) L c, .pointer (some ⟨X, 0, none⟩), .int .i64 (NP : Int), .int .i64 (i : Int), .int .i64 (j : Int), .int .i64 (T : Int), .pointer (some ⟨b, ob + T, none⟩), .int .i64 C, .bool false] (fun w' => Below A2.heap.size A2 w') rfl (by kernel_rfl) (by decide) (by kernel_rfl) ?hs ?he ?hj
            case hj => exact (Below.refl _ _).drew
            case hs =>
              intro qi qo ho fr0 hv hx w' hJ
              have hi : qi < 14 := (Array.getElem?_eq_some_iff.1 ho).1
              have c0 : w'.cell? ⟨X, 0, none⟩ = some (.int .i64 NP) := (hJ.cell (p := ⟨X, 0, none⟩) HSX.out).trans HX.out.1
              have c2 : w'.cell? ⟨X, 2, none⟩ = some (.slice (some ⟨b, ob, none⟩) L c) := (hJ.cell (p := ⟨X, 2, none⟩) HSX.out).trans HX.out.2.1
              have cv : w'.cell? ⟨V, 0, none⟩ = some (.slice av NV cvv) := (hJ.cell (p := ⟨V, 0, none⟩) HSV.out).trans HX.out.2.2
              have cT : w'.cell? ⟨b, ob + T, none⟩ = some (.int .i64 C) := (hJ.cell (p := ⟨b, ob + T, none⟩) HST.out).trans HT.out
              have HWW := Lib.hid (HWA.out.next hJ)
              have HJ := Lib.hid hJ
              clear hJ
              have hcase : qi = 0 ∨ qi = 1 ∨ qi = 2 ∨ qi = 3 ∨ qi = 4 ∨ qi = 5 ∨ qi = 6 ∨ qi = 7 ∨ qi = 8 ∨ qi = 9 ∨ qi = 10 ∨ qi = 11 ∨ qi = 12 ∨ qi = 13 := by omega
              clear hi
              rcases hcase with rfl | rfl | rfl | rfl | rfl | rfl | rfl | rfl | rfl | rfl | rfl | rfl | rfl | rfl
              · obtain rfl := Option.some.inj ho.symm
                clear ho
                have x5 : fr0.tmps[(5 : Nat)]? = some (.pointer (some ⟨V, 0, none⟩)) := hx 5 (by decide)
                clear hv hx
                refine wpOp_step rfl (fun K hK => ?_)
                go_simp
                exact hK _ _ ⟨rfl, HJ.out⟩
              · obtain rfl := Option.some.inj ho.symm
                clear ho
                have x6 : fr0.tmps[(6 : Nat)]? = some (.int .i64 (i : Int)) := hx 6 (by decide)
                clear hv hx
                refine wpOp_step rfl (fun K hK => ?_)
                go_simp
                exact hK _ _ ⟨rfl, HJ.out⟩
              · obtain rfl := Option.some.inj ho.symm
                clear ho
                have x7 : fr0.tmps[(7 : Nat)]? = some (.int .i64 (j : Int)) := hx 7 (by decide)
                clear hv hx
                refine wpOp_step rfl (fun K hK => ?_)
                go_simp
                exact hK _ _ ⟨rfl, HJ.out⟩
              · obtain rfl := Option.some.inj ho.symm
                clear ho
                have d0 : fr0.tmps[(29 : Nat)]? = some (.slice av NV cvv) := hv ⟨0, .data⟩ (by simp) rfl
                have d1 : fr0.tmps[(30 : Nat)]? = some (.int .i64 (i : Int)) := hv ⟨1, .data⟩ (by simp) rfl
                have d2 : fr0.tmps[(31 : Nat)]? = some (.int .i64 (j : Int)) := hv ⟨2, .data⟩ (by simp) rfl
                clear hv hx
                refine wpOp_step rfl (fun K hK => ?_)
                go_simp
                go_at_call 52
                refine (HAP.out _ HWW.out).mono ?_
                rintro e w2 ⟨rfl, hb2⟩
                exact hK _ _ ⟨rfl, HJ.out.trans (hb2.mono HJ.out.size)⟩
              · obtain rfl := Option.some.inj ho.symm
                clear ho
                have x2 : fr0.tmps[(2 : Nat)]? = some (.pointer (some ⟨X, 0, none⟩)) := hx 2 (by decide)
                clear hv hx
                refine wpOp_step rfl (fun K hK => ?_)
                go_simp
                exact hK _ _ ⟨rfl, HJ.out⟩
              · obtain rfl := Option.some.inj ho.symm
                clear ho
                have d4 : fr0.tmps[(33 : Nat)]? = some (.pointer (some ⟨X, 2, none⟩)) := hv ⟨4, .data⟩ (by simp) rfl
                clear hv hx
                refine wpOp_step rfl (fun K hK => ?_)
                go_simp
                exact hK _ _ ⟨rfl, HJ.out⟩
              · obtain rfl := Option.some.inj ho.symm
                clear ho
                have x2 : fr0.tmps[(2 : Nat)]? = some (.pointer (some ⟨X, 0, none⟩)) := hx 2 (by decide)
                clear hv hx
                refine wpOp_step rfl (fun K hK => ?_)
                go_simp
                exact hK _ _ ⟨rfl, HJ.out⟩
              · obtain rfl := Option.some.inj ho.symm
                clear ho
                have d6 : fr0.tmps[(35 : Nat)]? = some (.pointer (some ⟨X, 0, none⟩)) := hv ⟨6, .data⟩ (by simp) rfl
                clear hv hx
                refine wpOp_step rfl (fun K hK => ?_)
                go_simp
                exact hK _ _ ⟨rfl, HJ.out⟩
              · obtain rfl := Option.some.inj ho.symm
                clear ho
                have x6 : fr0.tmps[(6 : Nat)]? = some (.int .i64 (i : Int)) := hx 6 (by decide)
                clear hv hx
                refine wpOp_step rfl (fun K hK => ?_)
                go_simp
                exact hK _ _ ⟨rfl, HJ.out⟩
              · obtain rfl := Option.some.inj ho.symm
                clear ho
                have x7 : fr0.tmps[(7 : Nat)]? = some (.int .i64 (j : Int)) := hx 7 (by decide)
                clear hv hx
                refine wpOp_step rfl (fun K hK => ?_)
                go_simp
                exact hK _ _ ⟨rfl, HJ.out⟩
              · obtain rfl := Option.some.inj ho.symm
                clear ho
                have d7 : fr0.tmps[(36 : Nat)]? = some (.int .i64 (NP : Int)) := hv ⟨7, .data⟩ (by simp) rfl
                have d8 : fr0.tmps[(37 : Nat)]? = some (.int .i64 (i : Int)) := hv ⟨8, .data⟩ (by simp) rfl
                have d9 : fr0.tmps[(38 : Nat)]? = some (.int .i64 (j : Int)) := hv ⟨9, .data⟩ (by simp) rfl
                clear hv hx
                refine wpOp_step rfl (fun K hK => ?_)
                go_simp
                go_at_call 42
                refine (HIX.out _).mono ?_
                rintro e w2 ⟨rfl, rfl⟩
                exact hK _ _ ⟨rfl, HJ.out⟩
              · obtain rfl := Option.some.inj ho.symm
                clear ho
                have d5 : fr0.tmps[(34 : Nat)]? = some (.slice (some ⟨b, ob, none⟩) L c) := hv ⟨5, .data⟩ (by simp) rfl
                have d10 : fr0.tmps[(39 : Nat)]? = some (.int .i64 (T : Int)) := hv ⟨10, .data⟩ (by simp) rfl
                clear hv hx
                refine wpOp_step rfl (fun K hK => ?_)
                go_simp
                exact hK _ _ ⟨rfl, HJ.out⟩
              · obtain rfl := Option.some.inj ho.symm
                clear ho
                have d11 : fr0.tmps[(40 : Nat)]? = some (.pointer (some ⟨b, ob + T, none⟩)) := hv ⟨11, .data⟩ (by simp) rfl
                clear hv hx
                refine wpOp_step rfl (fun K hK => ?_)
                go_simp
                exact hK _ _ ⟨rfl, HJ.out⟩
              · obtain rfl := Option.some.inj ho.symm
                clear ho
                have d3 : fr0.tmps[(32 : Nat)]? = some (.int .i64 D) := hv ⟨3, .data⟩ (by simp) rfl
                have d12 : fr0.tmps[(41 : Nat)]? = some (.int .i64 C) := hv ⟨12, .data⟩ (by simp) rfl
                clear hv hx
                refine wpOp_step rfl (fun K hK => ?_)
                go_simp
                exact hK _ _ ⟨rfl, HJ.out⟩
            case he =>
              intro w' hJ
              simp only [putF, valsAt, Nat.reduceAdd, Nat.zero_add, List.getD_cons_zero, List.getD_cons_succ, Act.put, List.setIfInBounds_toArray, List.set_cons_succ, List.set_cons_zero]
              have HJ := Lib.hid hJ
              clear hJ
              gi_wp2
              exact ⟨(Above.refl _ A2).below HJ.out, HNX.out, HIB.out.trans (HJ.out.mono HIB.out.size)⟩
        case done =>
          intro D A hD hI hK
          have i2 := HR0.out.1.below hI.2 HR0.out.2.1
          have c1 : A.cell? ⟨X + 1, 0, none⟩ = some (.bool false) := i2.cell 0
          have f1 := i2.free 0
          have I2 := Lib.hid (And.intro i2 (HR0.out.2.2.trans (hI.2.mono (by omega))))
          have HK := Lib.hid hK
          have HOK := Lib.hid (hasM_true fun x hx => hI.1 x hx)
          clear i2 hI hK
          go_wp2
          have e1 : (A.setCell ⟨X + 1, 0, none⟩ (.bool true)).heap[D]? = some (.deferred (some [])) := (Below.heap_setCell _ _ _ _ (by simp; omega)).trans HK.out
          refine ⟨by simp, .inl ⟨D, _, rfl, run_takeDeferred e1, ?_⟩⟩
          have hZ := (I2.out.1.set 0 (.bool true)).put (l := D) (by omega) (.deferred none)
          have z0 := hZ.cell 0
          simp at z0
          refine ⟨.bool true, by simp [results, Try.results25, go_sem, z0], by rw [HOK.out], ?_⟩
          rw [HW.out.1]
          exact (I2.out.2.setCell (by simp) _).trans (below_put _ _ (by omega) _)
        case stop =>
          rintro D c pre A hD hpre ⟨rfl, hno, i2, i4⟩ hK
          have HK := Lib.hid hK
          have I2 := Lib.hid i2
          clear i2 hK
          go_wp2
          refine ⟨by simp, .inl ⟨D, _, rfl, run_takeDeferred HK.out, ?_⟩⟩
          have hZ := I2.out.put (l := D) (by omega) (.deferred none)
          have z0 := hZ.cell 0
          simp at z0
          refine ⟨.bool false, by simp [results, Try.results25, go_sem, z0], by rw [hno], ?_⟩
          rw [HW.out.1]
          exact i4.trans (below_put _ _ (by omega) _)
      · have e : hasV ⟨n, false, m⟩ p = false := by unfold hasV; rw [if_pos (.inr (.inr (by rw [hNP]; exact hnp)))]
        have k0 : (F != 0) = false := by simp [h0]
        have k1 : ((NP : Int) != n) = true := by simpa using hnp
        rw [e]
        rw [hL] at x2 HW HC HKP ⊢
        rw [hNP]
        clear hW1 hX hm1 hx1 hr1 hb1 hm hp hp1 hF e hs1 hL hNP hpi h0
        refine calls_of_wp_marks Try.func25 rfl ?_
        simp only [Try.ntmps25, List.size_toArray, List.length_cons, List.length_nil, Nat.reduceAdd, Nat.reduceSub, Array.replicate_succ, Array.replicate_zero, List.push_toArray, List.append_toArray, List.nil_append, List.cons_append]
        go_upto_region 1 with fail
        simp only [HW.out.1]
        rw [HW.out.2]
        go_upto_region 2 with (go_at_call 10; ((with_reducible refine HC.out.mono ?_); rintro e w2 ⟨rfl, hb2⟩; have HK2 := Lib.hid (HKP.out _ hb2); have y0 := HK2.out.1.cell 0; have y1 := HK2.out.1.cell 1))
        have z1 := HK2.out.2.1.cell 0
        have z2 := HK2.out.2.1.free 0
        go_wp2_with fail
        have hZ := HK2.out.2.1.set 0 (.bool false)
        have z0 := hZ.cell 0
        simp at z0
        refine ⟨.bool false, by simp [results, Try.results25, go_sem, z0], rfl, ?_⟩
        rw [HW.out.1]
        exact HK2.out.2.2.2.2.1.setCell (by simp) _
  · have e : hasV ⟨n, em, m⟩ p = false := by unfold hasV; rw [if_pos (.inl (by rw [hF]; exact h0))]
    have k0 : (F != 0) = true := by simpa using h0
    rw [e]
    rw [hL] at x2 HW HC HKP ⊢
    rw [hNP]
    clear hW1 hX hm1 hx1 hr1 hb1 hm hp hp1 hF e hs1 hL hNP hpi h0
    refine calls_of_wp_marks Try.func25 rfl ?_
    simp only [Try.ntmps25, List.size_toArray, List.length_cons, List.length_nil, Nat.reduceAdd, Nat.reduceSub, Array.replicate_succ, Array.replicate_zero, List.push_toArray, List.append_toArray, List.nil_append, List.cons_append]
    go_upto_region 1 with fail
    simp only [HW.out.1]
    rw [HW.out.2]
    go_upto_region 2 with (go_at_call 10; ((with_reducible refine HC.out.mono ?_); rintro e w2 ⟨rfl, hb2⟩; have HK2 := Lib.hid (HKP.out _ hb2); have y0 := HK2.out.1.cell 0; have y1 := HK2.out.1.cell 1))
    have z1 := HK2.out.2.1.cell 0
    have z2 := HK2.out.2.1.free 0
    go_wp2_with fail
    have hZ := HK2.out.2.1.set 0 (.bool false)
    have z0 := hZ.cell 0
    simp at z0
    refine ⟨.bool false, by simp [results, Try.results25, go_sem, z0], rfl, ?_⟩
    rw [HW.out.1]
    exact HK2.out.2.2.2.2.1.setCell (by simp) _
end Go.Proofs.Ythnefcafhpioaaa
