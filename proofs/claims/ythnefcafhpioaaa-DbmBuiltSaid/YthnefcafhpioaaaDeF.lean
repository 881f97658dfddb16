/-
  The document's Points.
-/
import Derived.Test.YthnefcafhpioaaaDeE
namespace Go.Proofs.Ythnefcafhpioaaa
open Go Go.RowKit Go.Shelf

theorem RsAt.atb {w : World} {l : List (List Int)} {b o : Nat} (h : RsAt w l (some ⟨b, o, none⟩)) {k : Nat} {r : List Int} (hr : l[k]? = some r) : ∃ a1 c1, w.cell? ⟨b, o + k, none⟩ = some (.slice a1 r.length c1) ∧ MAt w r a1 := by
  obtain ⟨b', o', a1, c1, e, hc, hm⟩ := h.at hr
  cases e
  exact ⟨a1, c1, hc, hm⟩
theorem RsAt.some {w : World} {l : List (List Int)} {a : Option Addr} (h : RsAt w l a) (hl : l.length ≠ 0) : ∃ b o, a = .some ⟨b, o, none⟩ := by
  obtain ⟨r, hr⟩ : ∃ r, l[0]? = .some r := ⟨_, List.getElem?_eq_getElem (by omega)⟩
  obtain ⟨b, o, _, _, e, _⟩ := h.at hr
  exact ⟨b, o, e⟩
theorem unl_false {N : Nat} {l : List (List Int)} (h : unl (N : Int) l = false) {k : Nat} {p : List Int} (hp : l[k]? = some p) : p.length = N := by
  unfold unl at h
  have h2 := List.any_eq_false.1 h p (List.mem_of_getElem? hp)
  have h3 : (p.length : Int) = N := by simpa using h2
  omega
set_option maxRecDepth 100000 in
set_option maxHeartbeats 8000000 in
theorem rpts_bad (n : Int) (L : Nat) (a : Option Addr) (c : Nat) (w : World) (hn : numB n = false) :
    Calls Try.prog 28 #[.int .i64 n, .slice a L c] w (OctTo w zeroOc 120) := by
  have h0 : n < 0 ∨ 64 < n := by unfold numB at hn; simp at hn; omega
  rcases h0 with h0 | h0
  · have k0 : decide (n < 0) = true := by simpa using h0
    clear h0 hn
    go_enter Try.func28, Try.ntmps28
    go_wp2_with fail
    exact bodyPost_ret (v := .tuple #[.agg #[.int .i64 0, .bool false, .slice none 0 0], .int .i64 120]) (by simp [results, Try.results28, go_sem]) rfl ⟨none, 0, rfl, mown_nil _ _, (Below.refl _ _).alloc (Nat.le_refl _) _⟩
  · have k0 : decide (n < 0) = false := by simp; omega
    have k1 : decide (64 < n) = true := by simpa using h0
    clear h0 hn
    go_enter Try.func28, Try.ntmps28
    go_wp2_with fail
    exact bodyPost_ret (v := .tuple #[.agg #[.int .i64 0, .bool false, .slice none 0 0], .int .i64 120]) (by simp [results, Try.results28, go_sem]) rfl ⟨none, 0, rfl, mown_nil _ _, (Below.refl _ _).alloc (Nat.le_refl _) _⟩
set_option maxRecDepth 100000 in
set_option maxHeartbeats 8000000 in
theorem rpts_unl (N : Nat) (hN : N ≤ 64) (l : List (List Int)) (a : Option Addr) (c : Nat) (w : World) (hl : RsAt w l a) (hll : l.length ≤ maxLen) (hu : unl (N : Int) l = true) :
    Calls Try.prog 28 #[.int .i64 N, .slice a l.length c] w (OctTo w zeroOc 120) := by
  have hne : l.length ≠ 0 := fun h => by rw [List.eq_nil_of_length_eq_zero h] at hu; exact absurd hu (by simp [unl])
  obtain ⟨b, o, rfl⟩ := hl.some hne
  unfold maxLen at hll
  obtain ⟨L, hL⟩ : ∃ L, l.length = L := ⟨_, rfl⟩
  have HL := Lib.hid hL
  obtain ⟨X, hX⟩ : ∃ X, w.heap.size = X := ⟨_, rfl⟩
  obtain ⟨W1, hW1⟩ : ∃ W, w.alloc (.cells #[.int .i64 0, .bool false, .slice none 0 0] 24) = W := ⟨_, rfl⟩
  have hx1 : Blk W1 X #[.int .i64 0, .bool false, .slice none 0 0] 24 := by rw [← hW1, ← hX]; exact Blk.new w _ _
  have hb1 : Below X w W1 := by rw [← hW1, ← hX]; exact (Below.refl _ w).alloc (Nat.le_refl _) _
  have HR := Lib.hid (hl.next (by rw [hX]; exact hb1))
  have HW := Lib.hid (And.intro hX hW1)
  have z1 := hx1.cell 0
  have z2 := hx1.cell 1
  have z3 := hx1.cell 2
  have z4 := hx1.free 0
  have z5 := hx1.free 1
  have z6 := hx1.free 2
  have HB := Lib.hid (And.intro hx1 hb1)
  have hno : ¬ ∀ j, j < L → ∀ p, l[j]? = some p → p.length = N := fun h => by
    unfold unl at hu
    obtain ⟨p, hp, hp2⟩ := List.any_eq_true.1 hu
    obtain ⟨j, hj⟩ := List.getElem?_of_mem hp
    have := h j (by rw [← hL]; exact (List.getElem?_eq_some_iff.1 hj).1) p hj
    simp [this] at hp2
  have HNO := Lib.hid hno
  rw [hL] at hll
  rw [hL]
  clear hL hX hW1 hx1 hb1 hl hu hne hno
  go_enter Try.func28, Try.ntmps28
  go_upto_region 1 with fail
  rw [HW.out.1, HW.out.2]
  go_wp2_with fail
  go_loop [6] (fun x => ∃ k : Nat, x = .int .i64 k ∧ k ≤ L ∧ (∀ j, j < k → ∀ p, l[j]? = some p → p.length = N)) (fun x => L - (intOf x).toNat)
  case atStart => exact ⟨0, rfl, by omega, fun j hj => by omega⟩
  case round =>
    obtain ⟨k, rfl, hk, hd⟩ := hrel
    by_cases hlt : k < L
    · obtain ⟨p, hp⟩ : ∃ p, l[k]? = some p := ⟨_, List.getElem?_eq_getElem (by rw [HL.out]; exact hlt)⟩
      obtain ⟨a1, c1, hc, -⟩ := HR.out.atb hp
      have k1 : (k : Int) < (L : Int) := by omega
      obtain ⟨Q, hQ⟩ : ∃ Q, p.length = Q := ⟨_, rfl⟩
      rw [hQ] at hc
      by_cases hpn : Q = N
      · have k2 : ((Q : Int) != (N : Int)) = false := by simp [hpn]
        have HD : Hid (∀ j, j < k + 1 → ∀ p, l[j]? = some p → p.length = N) := Lib.hid fun j hj q hq => by
          rcases Nat.lt_or_ge j k with h | h
          · exact hd j h q hq
          · obtain rfl : j = k := by omega
            rw [hp] at hq
            cases hq
            rw [hQ, hpn]
        clear hd hp hQ hpn
        go_wp2_with fail
        go_round
        case rel => exact ⟨k + 1, by go_num, by omega, HD.out⟩
        case measure => simp [intOf]; omega
      · have k2 : ((Q : Int) != (N : Int)) = true := by simp; omega
        clear hd hp hQ hpn
        go_wp2_with fail
        refine bodyPost_ret (results_row_tmp rfl _ _ X _ #[.int .i64 0, .bool false, .slice none 0 0] _ _ rfl (set3_blk HB.out.1) rfl rfl (by kernel_rfl)) rfl ?_
        exact ⟨none, 0, rfl, mown_nil _ _, by rw [HW.out.1]; exact set3_below HB.out.2 (by omega)⟩
    · obtain rfl : k = L := by omega
      exact absurd hd HNO.out
set_option maxRecDepth 100000 in
set_option maxHeartbeats 8000000 in
theorem rpts_none (N : Nat) (hN : N ≤ 64) (a : Option Addr) (c : Nat) (w : World) :
    Calls Try.prog 28 #[.int .i64 N, .slice a 0 c] w (OctTo w (emptyOc N) 0) := by
  obtain ⟨X, hX⟩ : ∃ X, w.heap.size = X := ⟨_, rfl⟩
  obtain ⟨W1, hW1⟩ : ∃ W, w.alloc (.cells #[.int .i64 0, .bool false, .slice none 0 0] 24) = W := ⟨_, rfl⟩
  have hx1 : Blk W1 X #[.int .i64 0, .bool false, .slice none 0 0] 24 := by rw [← hW1, ← hX]; exact Blk.new w _ _
  have hb1 : Below X w W1 := by rw [← hW1, ← hX]; exact (Below.refl _ w).alloc (Nat.le_refl _) _
  have hs1 : W1.heap.size = X + 1 := by rw [← hW1, ← hX]; simp
  have HW := Lib.hid (And.intro hX hW1)
  have HB := Lib.hid (And.intro hx1 (And.intro hb1 hs1))
  have HE := Lib.hid (fun ww => rempty_any (N : Int) ww)
  clear hX hW1 hx1 hb1 hs1
  go_enter Try.func28, Try.ntmps28
  go_upto_region 1 with fail
  rw [HW.out.1, HW.out.2]
  go_wp2_with fail
  go_loop [6] (fun x => x = .int .i64 0) (fun _ => 0)
  case atStart => rfl
  case round =>
    subst hrel
    go_wp2_with (first | (go_at_call 18; ((with_reducible refine (HE.out _).mono ?_); rintro e w5 ⟨rfl, hb5⟩; have HK5 := Lib.hid (HB.out.1.below hb5 HB.out.1.lt); have z1 := HK5.out.cell 0; have z2 := HK5.out.cell 1; have z3 := HK5.out.cell 2; have z4 := HK5.out.free 0; have z5 := HK5.out.free 1; have z6 := HK5.out.free 2)) | fail)
    refine bodyPost_ret (results_row_tmp rfl _ _ X _ #[.int .i64 N, .bool true, .slice none 0 0] _ _ rfl (set3_blk HK5.out) rfl rfl (by kernel_rfl)) rfl ?_
    exact ⟨none, 0, rfl, mown_nil _ _, by rw [HW.out.1]; exact set3_below (HB.out.2.1.trans (hb5.mono (by have := HB.out.2.2; omega))) (Nat.le_refl _)⟩
theorem MOwn.lt {B : Nat} {w : World} {m : List Int} {a : Option Addr} {c : Nat} (h : MOwn B w m a c) (g : Nat) (e : a = some ⟨g, 0, none⟩) (h0 : 0 < m.length) : g < w.heap.size := by
  obtain ⟨g', e', -, hl, -⟩ := h.at h0
  rw [e] at e'
  cases e'
  exact hl
/-- What holds while the document's Points fills its cells. -/
structure RpJ (X Y : Nat) (w : World) (m : List Int) (av : Option Addr) (cv S N : Nat) (W : World) : Prop where
  own : MOwn (X + 1) W m av cv
  bx : Blk W X #[.int .i64 0, .bool false, .slice none 0 0] 24
  by_ : Blk W Y #[.int .i64 N, .bool false, .slice av S cv] 24
  low : Below X w W
theorem RpJ.next {X Y : Nat} {w : World} {m : List Int} {av : Option Addr} {cv S N : Nat} {W W' : World} (h : RpJ X Y w m av cv S N W) (hb : Below W.heap.size W W') (hX : X ≤ W.heap.size) : RpJ X Y w m av cv S N W' :=
  ⟨h.own.next hb rfl, h.bx.below hb h.bx.lt, h.by_.below hb h.by_.lt, h.low.trans (hb.mono hX)⟩
set_option maxRecDepth 100000 in
set_option maxHeartbeats 8000000 in
theorem rpts_some (N : Nat) (hN : N ≤ 64) (l : List (List Int)) (b o : Nat) (c : Nat) (w : World) (hl : RsAt w l (some ⟨b, o, none⟩)) (hll : l.length ≤ maxLen) (hne : l.length ≠ 0) (hu : unl (N : Int) l = false) (hli : ∀ r ∈ l, ∀ v ∈ r, isI v) :
    Calls Try.prog 28 #[.int .i64 N, .slice (some ⟨b, o, none⟩) l.length c] w (OctTo w ⟨N, false, ptsM (2 * N) l⟩ 0) := by
  unfold maxLen at hll
  obtain ⟨n, hn⟩ : ∃ n, 2 * N = n := ⟨_, rfl⟩
  obtain ⟨S, hS⟩ : ∃ S, n * n = S := ⟨_, rfl⟩
  have hRP := rp_pts n l hne
  obtain ⟨L, hL⟩ : ∃ L, l.length = L := ⟨_, rfl⟩
  obtain ⟨X, hX⟩ : ∃ X, w.heap.size = X := ⟨_, rfl⟩
  obtain ⟨W1, hW1⟩ : ∃ W, w.alloc (.cells #[.int .i64 0, .bool false, .slice none 0 0] 24) = W := ⟨_, rfl⟩
  have hx1 : Blk W1 X #[.int .i64 0, .bool false, .slice none 0 0] 24 := by rw [← hW1, ← hX]; exact Blk.new w _ _
  have hb1 : Below X w W1 := by rw [← hW1, ← hX]; exact (Below.refl _ w).alloc (Nat.le_refl _) _
  have hs1 : W1.heap.size = X + 1 := by rw [← hW1, ← hX]; simp
  have HR : Hid (∀ ww, Below X w ww → RsAt ww l (some ⟨b, o, none⟩)) := Lib.hid fun ww h => hl.next (by rw [hX]; exact h)
  have HW := Lib.hid (And.intro hX hW1)
  have HB := Lib.hid (And.intro hx1 (And.intro hb1 hs1))
  have HL := Lib.hid hL
  have HTO : Hid (∀ ww, Calls Try.prog 17 #[.int .i64 N] ww fun e w' => ∃ a c, e = .returned (.agg #[.int .i64 N, .bool false, .slice a S c]) ∧ MOwn ww.heap.size w' (topM n) a c ∧ Below ww.heap.size ww w') := Lib.hid fun ww => (rtop_any N ww hN).mono fun e w' ⟨a, c, he, hm, hb⟩ => by
    have hto : (topO (N : Int)).m = topM n := by show topM (2 * ((N : Int)).toNat) = _; rw [show 2 * ((N : Int)).toNat = n by omega]
    refine ⟨a, c, ?_, by rw [hto] at hm; exact hm, hb⟩
    rw [he]
    show Ending.returned (.agg #[.int .i64 N, .bool false, .slice a (topO (N : Int)).m.length c]) = _
    rw [hto, topM_len, hS]
  have HUN : Hid (∀ (k : Nat) (p : List Int), l[k]? = some p → p.length = N ∧ ∀ v ∈ p, isI v) := Lib.hid fun k p hp => ⟨unl_false hu hp, hli p (List.mem_of_getElem? hp)⟩
  have HDI : Hid (∀ (k : Nat) (p : List Int) (ap : Option Addr) (cp i j : Nat) (ww : World), l[k]? = some p → i < n → j < n → MAt ww p ap → Calls Try.prog 31 #[.slice ap N cp, .int .i64 i, .int .i64 j] ww fun e w' => e = .returned (.tuple #[.int .i64 (diffV p i j).1, .int .i64 (diffV p i j).2]) ∧ Below ww.heap.size ww w') := Lib.hid fun k p ap cp i j ww hp hi hj hm => by
    obtain ⟨h1, h2⟩ := HUN.out k p hp
    have h3 := diff_any p h2 ap cp i j (by omega) (by omega) (by omega) ww hm
    rw [h1] at h3
    exact h3
  have hn128 : n ≤ 128 := by omega
  have HN := Lib.hid (And.intro hn (And.intro hS (And.intro hN (And.intro hn128 (And.intro hRP hL)))))
  rw [hL] at hll hne
  rw [hL]
  have h01 : ((L : Int) == 0) = false := by simp; omega
  rw [hn]
  clear hL hX hW1 hx1 hb1 hl hu hli hs1 hn hS hRP
  go_enter Try.func28, Try.ntmps28
  go_upto_region 1 with fail
  rw [HW.out.1, HW.out.2]
  go_wp2_with fail
  go_loop [6] (fun x => ∃ k : Nat, x = .int .i64 k ∧ k ≤ L) (fun x => L - (intOf x).toNat)
  case atStart => exact ⟨0, rfl, by omega⟩
  case round =>
    obtain ⟨k, rfl, hk⟩ := hrel
    by_cases hlt : k < L
    · obtain ⟨p, hp⟩ : ∃ p, l[k]? = some p := ⟨_, List.getElem?_eq_getElem (by rw [HL.out]; exact hlt)⟩
      obtain ⟨a1, c1, hc, -⟩ := (HR.out _ HB.out.2.1).atb hp
      have k1 : (k : Int) < (L : Int) := by omega
      rw [(HUN.out k p hp).1] at hc
      have k2 : ((N : Int) != (N : Int)) = false := by simp
      clear hp
      go_wp2_with fail
      go_round
      case rel => exact ⟨k + 1, by go_num, by omega⟩
      case measure => simp [intOf]; omega
    · have k1 : (L : Int) ≤ (k : Int) := by omega
      obtain rfl : L = k := by omega
      go_upto_region 11 with (first | (go_at_call 17; ((with_reducible refine (HTO.out _).mono ?_); rintro e w2 ⟨av, cv, rfl, hmo, hb2⟩)) | fail)
      obtain ⟨Y, hY⟩ : ∃ Y, w2.heap.size = Y := ⟨_, rfl⟩
      obtain ⟨W3, hW3⟩ : ∃ W, w2.alloc (.cells #[.int .i64 N, .bool false, .slice av S cv] 24) = W := ⟨_, rfl⟩
      have HJ0 : Hid (RpJ X Y w (rpI n l 0) av cv S N W3 ∧ X + 1 ≤ Y ∧ (∀ g, av = some ⟨g, 0, none⟩ → 0 < S → g < Y)) := Lib.hid (by
        rw [HB.out.2.2] at hmo hb2
        have hb3 : Below Y w2 W3 := by rw [← hW3, ← hY]; exact (Below.refl _ w2).alloc (Nat.le_refl _) _
        have hXY : X + 1 ≤ Y := by rw [← hY, ← HB.out.2.2]; exact by have := hb2.size; omega
        refine ⟨⟨hmo.next hb3 hY.symm, (HB.out.1.below hb2 (by omega)).below hb3 (by omega), by rw [← hW3, ← hY]; exact Blk.new _ _ _, (HB.out.2.1.trans (hb2.mono (by omega))).trans (hb3.mono (by omega))⟩, hXY, fun g e h0 => by rw [← hY]; exact hmo.lt g e (by rw [topM_len, HN.out.2.1]; exact h0)⟩)
      rw [hY, hW3]
      clear hY hW3 hmo hb2
      have HC := Lib.hid HJ0.out.2
      go_wp2_with fail
      go_loopw [8] (fun x wr => ∃ i : Nat, x = .int .i64 i ∧ i ≤ n ∧ RpJ X Y w (rpI n l i) av cv S N wr) (fun x _ => n - (intOf x).toNat)
      case atStart => exact ⟨0, rfl, by omega, HJ0.out.1⟩
      case round =>
        clear HJ0
        obtain ⟨i, rfl, hi, hr⟩ := hrel
        by_cases hlt : i < n
        · have k1 : (i : Int) < 2 * (N : Int) := by have := HN.out.1; omega
          have HO := Lib.hid hr
          clear hr
          go_wp2_with fail
          go_loopw [9] (fun x wr => ∃ j : Nat, x = .int .i64 j ∧ j ≤ n ∧ RpJ X Y w (rpR n l i j (rpI n l i)) av cv S N wr) (fun x _ => n - (intOf x).toNat)
          case atStart => exact ⟨0, rfl, by omega, HO.out⟩
          case round =>
            clear HO
            obtain ⟨j, rfl, hj, hr⟩ := hrel
            by_cases hjt : j < n
            · have k2 : (j : Int) < 2 * (N : Int) := by have := HN.out.1; omega
              have hst : rpR n l i (j + 1) (rpI n l i) = rp1 n l i (rpR n l i j (rpI n l i)) j := by unfold rpR; rw [forN_succ]
              by_cases hij : i = j
              · have k3 : ((i : Int) == (j : Int)) = true := by simp [hij]
                have hst2 : rpR n l i (j + 1) (rpI n l i) = rpR n l i j (rpI n l i) := by rw [hst]; unfold rp1; rw [if_pos hij]
                have HR2 := Lib.hid (hst2 ▸ hr)
                clear hr hst hst2 hij
                go_wp2_with fail
                go_roundw
                case rel => exact ⟨j + 1, by go_num, by omega, HR2.out⟩
                case measure => simp [intOf]; omega
              · have k3 : ((i : Int) == (j : Int)) = false := by simp; omega
                have hst2 : rpR n l i (j + 1) (rpI n l i) = (rpR n l i j (rpI n l i)).set (i * n + j) (bestV l i j) := by rw [hst]; unfold rp1; rw [if_neg hij]; rfl
                obtain ⟨wo, hwo⟩ : ∃ x, x = wr := ⟨_, rfl⟩
                subst hwo
                have HRJ := Lib.hid hr
                have HST := Lib.hid hst2
                have HLT := Lib.hid (And.intro hlt hjt)
                clear hr hst hst2 hij
                go_wp2_with fail
                go_loopw [10, 11] (fun y x wr => ∃ k : Nat, x = .int .i64 k ∧ k ≤ L ∧ y = .int .i64 (bestV (l.take k) i j) ∧ Below wo.heap.size wo wr) (fun _ x _ => L - (intOf x).toNat)
                case atStart => exact ⟨0, rfl, by omega, rfl, Below.refl _ _⟩
                case round =>
                  obtain ⟨k, rfl, hk, rfl, hb⟩ := hrel
                  by_cases hkt : k < L
                  · obtain ⟨p, hp⟩ : ∃ p, l[k]? = some p := ⟨_, List.getElem?_eq_getElem (by have := HN.out.2.2.2.2.2; omega)⟩
                    have hXw : X ≤ wo.heap.size := by have := HRJ.out.bx.lt; omega
                    obtain ⟨a1, c1, hc, hmp⟩ := (HR.out _ (HRJ.out.low.trans (hb.mono hXw))).atb hp
                    rw [(HUN.out k p hp).1] at hc
                    have k4 : (k : Int) < (L : Int) := by omega
                    have hbs := bestV_succ hp i j
                    have hlo := bestV_lo i j (l.take k) (-4611686018427387904) (by omega)
                    have hhi := bestV_hi i j (l.take k) (-4611686018427387904) (by omega)
                    have hstp := best_step p i j (bestV (l.take k) i j) hlo hhi
                    rw [← hbs] at hstp
                    obtain ⟨B0, hB0⟩ : ∃ B, bestV (l.take k) i j = B := ⟨_, rfl⟩
                    obtain ⟨B1, hB1⟩ : ∃ B, bestV (l.take (k + 1)) i j = B := ⟨_, rfl⟩
                    rw [hB0, hB1] at hstp
                    rw [hB0]
                    have HD := fun ww => HDI.out k p a1 c1 i j ww hp HLT.out.1 HLT.out.2
                    have HBB := Lib.hid hb
                    have HMP := Lib.hid hmp
                    have HB1 := Lib.hid hB1
                    clear hB0 hB1 hbs hlo hhi hp hb hmp
                    rcases hstp with ⟨hd, hm⟩ | ⟨hd, hm⟩ | ⟨d, hd, hm⟩
                    · rw [hd] at HD
                      have HDV := Lib.hid HD
                      have HM := Lib.hid hm
                      clear HD hd hm
                      go_wp2_with (first | (go_at_call 31; ((with_reducible refine (HDV.out _ HMP.out).mono ?_); rintro e w5 ⟨rfl, hb5⟩; have HB5 := Lib.hid hb5; clear hb5)) | fail)
                      go_roundw
                      case rel => exact ⟨k + 1, by go_num, by omega, by rw [HB1.out, HM.out], HBB.out.trans (HB5.out.mono HBB.out.size)⟩
                      case measure => simp [intOf]; omega
                    · rw [hd] at HD
                      have HDV := Lib.hid HD
                      have HM := Lib.hid hm
                      clear HD hd hm
                      go_wp2_with (first | (go_at_call 31; ((with_reducible refine (HDV.out _ HMP.out).mono ?_); rintro e w5 ⟨rfl, hb5⟩; have HB5 := Lib.hid hb5; clear hb5)) | fail)
                      go_roundw
                      case rel => exact ⟨k + 1, by go_num, by omega, by rw [HB1.out, HM.out], HBB.out.trans (HB5.out.mono HBB.out.size)⟩
                      case measure => simp [intOf]; omega
                    · rw [hd] at HD
                      have HDV := Lib.hid HD
                      have HM := Lib.hid hm
                      clear HD hd hm
                      go_wp2_with (first | (go_at_call 31; ((with_reducible refine (HDV.out _ HMP.out).mono ?_); rintro e w5 ⟨rfl, hb5⟩; have HB5 := Lib.hid hb5; clear hb5)) | fail)
                      go_roundw
                      case rel => exact ⟨k + 1, by go_num, by omega, by rw [HB1.out, HM.out], HBB.out.trans (HB5.out.mono HBB.out.size)⟩
                      case measure => simp [intOf]; omega
                  · have k4 : (L : Int) ≤ (k : Int) := by omega
                    obtain rfl : L = k := by omega
                    have etk : l.take L = l := List.take_of_length_le (by have := HN.out.2.2.2.2.2; omega)
                    rw [etk]
                    have hXw : X ≤ wo.heap.size := by have := HRJ.out.bx.lt; omega
                    have hr := HRJ.out.next hb hXw
                    have y2 : wr.cell? ⟨Y, 2, none⟩ = some (.slice av S cv) := hr.by_.cell 2
                    have hlen : (rpR n l i j (rpI n l i)).length = S := by rw [rpR_len, rpI_len, HN.out.2.1]
                    have hT0 := cell_lt hlt hjt
                    rw [HN.out.2.1] at hT0
                    obtain ⟨g, rfl, hXg, -, hc, hf⟩ := hr.own.at (i := i * n + j) (by rw [hlen]; exact hT0)
                    have hgY := HC.out.2 g rfl (by omega)
                    obtain ⟨P, hP⟩ : ∃ P, i * n = P := ⟨_, rfl⟩
                    obtain ⟨T, hT⟩ : ∃ T, P + j = T := ⟨_, rfl⟩
                    have hst2 := HST.out
                    rw [hP, hT] at hc hf hT0 hst2
                    obtain ⟨C, hC⟩ : ∃ C, (rpR n l i j (rpI n l i)).getD T 0 = C := ⟨_, rfl⟩
                    rw [hC] at hc
                    have tl : (T : Int) < (S : Int) := by omega
                    obtain ⟨M, hM⟩ : ∃ M, bestV l i j = M := ⟨_, rfl⟩
                    rw [hM] at hst2 ⊢
                    have HRR := Lib.hid (show RpJ X Y w (rpR n l i (j + 1) (rpI n l i)) (some ⟨g, 0, none⟩) cv S N (wr.setCell ⟨g, T, none⟩ (.int .i64 M)) from hst2 ▸ ⟨hr.own.set T M, hr.bx.other (a := ⟨g, T, none⟩) (by simp; omega) _, hr.by_.other (a := ⟨g, T, none⟩) (by simp; omega) _, hr.low.setCell (p := ⟨g, T, none⟩) (by simp; omega) _⟩)
                    obtain ⟨q1, q2, q3, q4⟩ := ixd (N := N) HN.out.2.2.1 (show i < 2 * N by have := HN.out.1; omega) (show j < 2 * N by have := HN.out.1; omega) (by rw [HN.out.1]; exact hP) hT
                    clear hr hb hlen hC hT0 hP hT hst2 hM etk hXg hgY
                    go_wp2_with fail
                    clear q1 q2 q3 q4
                    go_roundw
                    case rel => exact ⟨j + 1, by go_num, by omega, HRR.out⟩
                    case measure => simp [intOf]; omega
            · have k2 : 2 * (N : Int) ≤ (j : Int) := by have := HN.out.1; omega
              obtain rfl : j = n := by omega
              have hst : rpI j l (i + 1) = rpR j l i j (rpI j l i) := by unfold rpI; rw [forN_succ]
              rw [← hst] at hr
              have HR2 := Lib.hid hr
              clear hr hst
              go_wp2_with fail
              go_roundw
              case rel => exact ⟨i + 1, by go_num, by omega, HR2.out⟩
              case measure => simp [intOf]; omega
        · have k1 : 2 * (N : Int) ≤ (i : Int) := by have := HN.out.1; omega
          obtain rfl : i = n := by omega
          have z0 := hr.by_.cell 0
          have z1 := hr.by_.cell 1
          have z2 := hr.by_.cell 2
          have f0 := hr.bx.cell 0
          have f1 := hr.bx.cell 1
          have f2 := hr.bx.cell 2
          have g0 := hr.bx.free 0
          have g1 := hr.bx.free 1
          have g2 := hr.bx.free 2
          have HR2 := Lib.hid hr
          clear hr
          go_wp2_with fail
          refine bodyPost_ret (results_row_tmp rfl _ _ X _ #[.int .i64 N, .bool false, .slice av S cv] _ _ rfl (set3_blk HR2.out.bx) rfl rfl (by kernel_rfl)) rfl ?_
          have ho := HR2.out.own
          rw [HN.out.2.2.2.2.1] at ho
          refine ⟨av, cv, ?_, ?_, ?_⟩
          · show _ = Ending.returned (.tuple #[.agg #[.int .i64 N, .bool false, .slice av (ptsM i l).length cv], .int .i64 0])
            rw [ptsM_len, HN.out.2.1]; rfl
          · rw [HW.out.1]; exact (ho.set3 (by omega)).lower (by omega)
          · rw [HW.out.1]; exact set3_below HR2.out.low (Nat.le_refl _)
/-- The document's Points, of every points. -/
theorem rpoints_any (n : Int) (l : List (List Int)) (a : Option Addr) (c : Nat) (w : World) (hl : RsAt w l a) (hll : l.length ≤ maxLen) (hli : ∀ r ∈ l, ∀ v ∈ r, isI v) :
    Calls Try.prog 28 #[.int .i64 n, .slice a l.length c] w (OctTo w (ptsO n l).1 (ptsO n l).2) := by
  cases hnb : numB n with
  | false =>
    have e : ptsO n l = (zeroOc, 120) := by unfold ptsO; rw [if_pos (.inl hnb)]
    rw [e]
    exact rpts_bad n l.length a c w hnb
  | true =>
    obtain ⟨h0, h64⟩ := numB_true hnb
    obtain ⟨N, rfl⟩ : ∃ N : Nat, n = (N : Int) := ⟨n.toNat, by omega⟩
    have hN : N ≤ 64 := by omega
    cases hu : unl (N : Int) l with
    | true =>
      have e : ptsO N l = (zeroOc, 120) := by unfold ptsO; rw [if_pos (.inr hu)]
      rw [e]
      exact rpts_unl N hN l a c w hl hll hu
    | false =>
      by_cases h00 : l.length = 0
      · have e : ptsO N l = (emptyOc N, 0) := by unfold ptsO; rw [if_neg (by simp [hnb, hu]), if_pos h00]
        rw [e, h00]
        exact rpts_none N hN a c w
      · have e : ptsO N l = (⟨N, false, ptsM (2 * N) l⟩, 0) := by unfold ptsO; rw [if_neg (by simp [hnb, hu]), if_neg h00]; rfl
        rw [e]
        obtain ⟨b, o, rfl⟩ := hl.some h00
        exact rpts_some N hN l b o c w hl hll h00 hu hli
end Go.Proofs.Ythnefcafhpioaaa
