/-
  The walk of DbmListed.
-/
import Derived.Test.YthnefcafhpioaaaDfD
namespace Go.Proofs.Ythnefcafhpioaaa
open Go Go.RowKit Go.Shelf

attribute [local go_sem] Oper.semAt_some
/-- While DbmListed counts: the counter, and all that lay before it was made. -/
structure LiI (W4 : World) (K0 n : Nat) (A : World) : Prop where
  low : Below W4.heap.size W4 A
  bk : Blk A K0 #[.int .i64 (n : Int)] 3
theorem LiI.below {W4 : World} {K0 n k : Nat} {A B : World} (h : LiI W4 K0 n A) (hb : Below k A B) (h1 : K0 < k) (h2 : W4.heap.size ≤ k) : LiI W4 K0 n B := ⟨h.low.trans (hb.mono h2), h.bk.below hb h1⟩
theorem LiI.set {W4 : World} {K0 n n' : Nat} {A : World} (h : LiI W4 K0 n A) (hk : W4.heap.size ≤ K0) : LiI W4 K0 n' (A.setCell ⟨K0, 0, none⟩ (.int .i64 (n' : Int))) := ⟨h.low.setCell (p := ⟨K0, 0, none⟩) hk _, h.bk.set 0 _⟩
theorem pre_at {α : Type} {pre xs : List α} {x : α} (h : pre ++ [x] <+: xs) : xs[pre.length]? = some x := by
  obtain ⟨t, rfl⟩ := h
  rw [List.append_assoc, List.getElem?_append_right (Nat.le_refl _)]; simp
set_option maxRecDepth 100000 in
set_option maxHeartbeats 16000000 in
theorem listed_law (x : Oc) (a1 : Option Addr) (c1 : Nat) (sp : Int) (w : World) (hx : MAt w x.m a1) :
    Calls Try.prog 6 #[ocV x a1 c1, .int .i64 sp] w fun e w' => e = .returned (.bool true) ∧ Below w.heap.size w w' := by
  have HR : Hid (∀ ww : World, MAt ww x.m a1 → Calls Try.prog 29 #[.agg #[.int .i64 x.n, .bool x.em, .slice a1 x.m.length c1]] ww (RcTo ww (cellsO x))) := Lib.hid fun ww h => rcells_to x a1 c1 ww h
  have HD : Hid (∀ ww : World, MAt ww x.m a1 → Calls Try.prog 30 #[.agg #[.int .i64 x.n, .bool x.em, .slice a1 x.m.length c1]] ww (DcTo ww (cellsO x))) := Lib.hid fun ww h => dcells_to x a1 c1 ww h
  have hle := cellsO_le x
  obtain ⟨xs, hxs⟩ : ∃ xs, cellsO x = xs := ⟨_, rfl⟩
  rw [hxs] at HR HD hle
  obtain ⟨n1, e1, m1⟩ := x
  simp only at hx HR HD
  show Calls Try.prog 6 #[.agg #[.int .i64 n1, .bool e1, .slice a1 m1.length c1], .int .i64 sp] w _
  obtain ⟨X, hX⟩ : ∃ X, w.heap.size = X := ⟨_, rfl⟩
  obtain ⟨L1, hL1⟩ : ∃ X, m1.length = X := ⟨_, rfl⟩
  obtain ⟨LL, hLL⟩ : ∃ X, xs.length = X := ⟨_, rfl⟩
  rw [hL1] at HR HD ⊢
  rw [hLL] at hle
  unfold RcTo at HR
  simp only [hLL] at HR
  obtain ⟨Wa, hWa⟩ : ∃ W, w.alloc (.cells #[.int .i64 n1, .bool e1, .slice a1 L1 c1] 24) = W := ⟨_, rfl⟩
  obtain ⟨Wb, hWb⟩ : ∃ W, Wa.alloc (.cells #[.int .i64 sp] 3) = W := ⟨_, rfl⟩
  obtain ⟨W1, hW1⟩ : ∃ W, Wb.alloc (.cells #[.bool false] 4) = W := ⟨_, rfl⟩
  have sa : Wa.heap.size = X + 1 := by rw [← hWa, ← hX]; simp
  have sb : Wb.heap.size = X + 2 := by rw [← hWb, World.size_alloc, sa]
  have hx1 : Blk W1 X #[.int .i64 n1, .bool e1, .slice a1 L1 c1] 24 := by rw [← hW1, ← hWb, ← hWa, ← hX]; exact ((Blk.new w _ _).alloc _).alloc _
  have hx2 : Blk W1 (X + 1) #[.int .i64 sp] 3 := by rw [← hW1, ← hWb, ← sa]; exact (Blk.new Wa _ _).alloc _
  have hx3 : Blk W1 (X + 2) #[.bool false] 4 := by rw [← hW1, ← sb]; exact Blk.new Wb _ _
  have hb1 : Below X w W1 := by rw [← hW1, ← hWb, ← hWa, ← hX]; exact (((Below.refl _ w).alloc (Nat.le_refl _) _).alloc (by simp) _).alloc (by simp; omega) _
  have hs1 : W1.heap.size = X + 3 := by rw [← hW1, World.size_alloc, sb]
  have HW := Lib.hid (And.intro hX (And.intro hWa (And.intro hWb (And.intro hW1 (And.intro sa sb)))))
  have HKN := Lib.hid (known12_any W1)
  have HE := Lib.hid (And.intro hx1 (And.intro hx2 (And.intro hx3 (And.intro (hx.next (by rw [hX]; exact hb1)) (And.intro hb1 hs1)))))
  have HZ := Lib.hid hLL
  clear hx hX hL1 hLL hxs hWa hWb hW1 sa sb hx1 hx2 hx3 hb1 hs1
  refine calls_of_wp_marks Try.func6 rfl ?_
  simp only [Try.ntmps6, List.size_toArray, List.length_cons, List.length_nil, Nat.reduceAdd, Nat.reduceSub, Array.replicate_succ, Array.replicate_zero, List.push_toArray, List.append_toArray, List.nil_append, List.cons_append]
  go_upto_region 1 with fail
  rw [HW.out.2.1, HW.out.2.2.1, HW.out.2.2.2.1]
  simp only [HW.out.1]
  rw [show X + 1 + 1 = X + 2 from rfl]
  have x0 := HE.out.1.cell 0
  have x1 := HE.out.1.cell 1
  have x2 := HE.out.1.cell 2
  go_upto_region 3 with (first | (go_at_call 9; (with_reducible refine HKN.out.mono ?_); rintro e W3 ⟨rfl, hb2⟩) | fail)
  have HB3 := Lib.hid (show Below (X + 3) W1 W3 by rw [← HE.out.2.2.2.2.2]; exact hb2)
  have hx3 := HE.out.1.below HB3.out (by omega)
  have HM3 := Lib.hid (HE.out.2.2.2.1.next (by rw [HE.out.2.2.2.2.2]; exact HB3.out))
  clear hb2 x0 x1 x2
  have x0 := hx3.cell 0
  have x1 := hx3.cell 1
  have x2 := hx3.cell 2
  have HX3 := Lib.hid hx3
  clear hx3
  go_upto_region 4 with (first | (go_at_call 29; (with_reducible refine (HR.out _ HM3.out).mono ?_); rintro e w4 ⟨lv, lc, rfl, hcs, hb4⟩) | fail)
  obtain ⟨V, hV⟩ : ∃ Y, w4.heap.size = Y := ⟨_, rfl⟩
  obtain ⟨W5, hW5⟩ : ∃ W, w4.alloc (.cells #[.slice lv LL lc] 49) = W := ⟨_, rfl⟩
  have hb5 : Below w4.heap.size w4 W5 := by rw [← hW5]; exact (Below.refl _ w4).alloc (Nat.le_refl _) _
  have H5 : Hid (Blk W5 V #[.slice lv LL lc] 49 ∧ CsAt W5 xs lv ∧ Below W3.heap.size W3 W5) := Lib.hid ⟨by rw [← hW5, ← hV]; exact Blk.new w4 _ _, hcs.next hb5, hb4.trans (hb5.mono hb4.size)⟩
  rw [hW5, hV]
  clear hV hW5 hb5 hcs hb4 HR x0 x1 x2 HKN
  have hx5 := HX3.out.below H5.out.2.2 HX3.out.lt
  have HM5 := Lib.hid (HM3.out.next H5.out.2.2)
  have x0 := hx5.cell 0
  have x1 := hx5.cell 1
  have x2 := hx5.cell 2
  clear hx5
  go_upto_region 5 with (first | (go_at_call 30; (with_reducible refine (HD.out _ HM5.out).mono ?_); rintro e W4 ⟨hb6, gf, lb, K, rfl, heg, hsq, hK⟩; have HQ := Lib.hid (And.intro heg (And.intro hsq hK)); clear heg hsq hK) | fail)
  have H4 : Hid (Blk W4 V #[.slice lv LL lc] 49 ∧ CsAt W4 xs lv ∧ Blk W4 (X + 1) #[.int .i64 sp] 3 ∧ Blk W4 (X + 2) #[.bool false] 4 ∧ Below X w W4 ∧ X + 3 ≤ W4.heap.size) := Lib.hid (by
    have h3 : Below (X + 3) W1 W5 := HB3.out.trans (H5.out.2.2.mono (by have := HB3.out.size; have := HE.out.2.2.2.2.2; omega))
    have h5 : X + 3 ≤ W5.heap.size := by have := h3.size; have := HE.out.2.2.2.2.2; omega
    have h4 : Below (X + 3) W1 W4 := h3.trans (hb6.mono h5)
    exact ⟨H5.out.1.below hb6 H5.out.1.lt, H5.out.2.1.next hb6, HE.out.2.1.below h4 (by omega), HE.out.2.2.1.below h4 (by omega), HE.out.2.2.2.2.1.trans (h4.mono (by omega)), by have := h4.size; have := HE.out.2.2.2.2.2; omega⟩)
  clear hb6 H5 HX3 HM3 HM5 HB3 HE HD x0 x1 x2
  go_upto_region 6 with fail
  obtain ⟨K0, hK0⟩ : ∃ Y, W4.heap.size = Y := ⟨_, rfl⟩
  obtain ⟨W0, hW0⟩ : ∃ W, W4.alloc (.cells #[.int .i64 0] 3) = W := ⟨_, rfl⟩
  have HI0 : Hid (LiI W4 K0 0 W0) := Lib.hid ⟨by rw [← hW0]; exact (Below.refl _ W4).alloc (Nat.le_refl _) _, by rw [← hW0, ← hK0]; exact Blk.new W4 _ _⟩
  have HS0 : Hid (W0.heap.size = K0 + 1 ∧ W4.heap.size = K0) := Lib.hid ⟨by rw [← hW0, World.size_alloc, hK0], hK0⟩
  rw [hW0, hK0]
  clear hW0 hK0
  have HSP : Hid (∀ A, Below W4.heap.size W4 A → A.cell? ⟨X + 1, 0, none⟩ = some (.int .i64 sp)) := Lib.hid fun A hA => (H4.out.2.2.1.below hA H4.out.2.2.1.lt).cell 0
  go_wp2_with fail
  refine wp_rangeFunc_oneK (gf := gf) (lb := lb) rfl HQ.out.1 HQ.out.2.1 (show Below W4.heap.size W4 W0 from HI0.out.low) (fun _ => rfl)
    (fun pre A => LiI W4 K0 pre.length A) (fun c pre A => c = .exit 0 ∧ ∃ n, LiI W4 K0 n A)
    (fun pre A B h hb => h.below hb (by have := HS0.out; omega) (by have := HS0.out; omega)) (fun c pre A B h hb => ⟨h.1, h.2.imp fun n h2 => h2.below hb (by have := HS0.out; omega) (by have := HS0.out; omega)⟩)
    (fun pre A h => HQ.out.2.2 A h.low) HI0.out ?round ?done ?stop
  case round =>
    rintro lp pre ⟨⟨i, j⟩, C⟩ A hI hpre hl1 hl2
    dsimp only [encC]
    gi_wp2
    refine ⟨Above.refl _ _, fun r o' hr => ?_⟩
    have hI2 := hI.below (below_put _ _ hl2 (.loop o')) (by have := HS0.out; omega) (by have := HS0.out; omega)
    obtain ⟨A2, hA2⟩ : ∃ A2, A.putObj lp (.loop o') = A2 := ⟨_, rfl⟩
    rw [hA2] at hI2 ⊢
    have hpl : pre.length < LL := by
      rw [← HZ.out]
      have := hpre.length_le
      simp at this
      omega
    clear hA2 hr hI hl1 hl2 hpre
    obtain ⟨Q, hQ⟩ : ∃ Q, pre.length = Q := ⟨_, rfl⟩
    have HQ2 := Lib.hid hQ
    rw [hQ] at hI2 hpl
    have y0 := hI2.bk.cell 0
    have y1 := hI2.bk.free 0
    have y2 := HSP.out _ hI2.low
    have HI2 := Lib.hid hI2
    obtain ⟨q, hq⟩ : ∃ q : Int, (Q : Int) = q := ⟨_, rfl⟩
    have HQB : q + 1 ≤ 9223372036854775807 := by omega
    have HQA : 0 ≤ q := by omega
    have HQE := Lib.hid hq
    rw [hq] at y0
    clear hI2 hQ hpl hq
    by_cases kk : q = sp
    · have k1 : (q == sp) = true := by simp [kk]
      clear kk
      gi_wp2
      exact ⟨Above.refl _ _, rfl, Q, HI2.out⟩
    · have k1 : (q == sp) = false := by simp [kk]
      clear kk
      gi_wp2
      exact ⟨(Above.refl _ _).setCell (by have := HS0.out; simp; omega) _, by
        show LiI W4 K0 (pre ++ [((i, j), C)]).length _
        rw [List.length_append, HQ2.out]
        have h := HI2.out.set (n' := Q + 1) (by have := HS0.out; omega)
        rw [show ((Q + 1 : Nat) : Int) = q + 1 by have := HQE.out; omega] at h
        exact h⟩
  case' done =>
    intro D A hD hI hK
    have HI : Hid (∃ n, LiI W4 K0 n A) := Lib.hid ⟨_, hI⟩
    clear hI
  case' stop =>
    rintro D c pre A hD hpre ⟨rfl, hI⟩ hK
    have HI : Hid (∃ n, LiI W4 K0 n A) := Lib.hid hI
    clear hI hpre
  all_goals
    obtain ⟨n9, hI9⟩ := HI.out
    have y0 := hI9.bk.cell 0
    have y1 := hI9.bk.free 0
    have HI9 := Lib.hid hI9
    have HK9 := Lib.hid (And.intro hD hK)
    clear HI hI9 hK hD
    go_wp2_with fail
    clear y0 y1
    obtain ⟨W8, hW8⟩ : ∃ W, A.setCell ⟨K0, 0, none⟩ (.int .i64 0) = W := ⟨_, rfl⟩
    have hI8 : LiI W4 K0 0 W8 := by rw [← hW8]; exact HI9.out.set (n' := 0) (by have := HS0.out; omega)
    have hs8 : W8.heap.size = A.heap.size := by rw [← hW8]; simp [World.setCell]
    have hD8 : W8.heap[D]? = some (.deferred (some [])) := by
      rw [← hW8]
      exact (Below.heap_setCell _ _ _ _ (by have := HS0.out; have := HK9.out.1; simp; omega)).trans HK9.out.2
    have hA8 : W0.heap.size ≤ W8.heap.size := by
      have h1 := hI8.bk.lt
      have := HS0.out
      omega
    have HI8 := Lib.hid (And.intro hI8 (And.intro hD8 (And.intro hA8 (Array.getElem?_eq_some_iff.1 hD8).1)))
    rw [hW8]
    clear hW8 hI8 hD8 hs8 hA8 HI9
    refine wp_rangeFunc_oneK (gf := gf) (lb := lb) rfl HQ.out.1 HQ.out.2.1 (show Below W4.heap.size W4 W8 from HI8.out.1.low) (fun _ => rfl)
      (fun pre A => LiI W4 K0 pre.length A ∧ A.heap[D]? = some (.deferred (some []))) (fun c pre A => False)
      (fun pre A B h hb => ⟨h.1.below hb (by have := HS0.out; have := HI8.out.2.2.1; omega) (by have := HS0.out; have := HI8.out.2.2.1; omega), (hb.block D HI8.out.2.2.2).trans h.2⟩) (fun c pre A B h hb => h)
      (fun pre A h => HQ.out.2.2 A h.1.low) ⟨HI8.out.1, HI8.out.2.1⟩ ?round2 ?done2 ?stop2
    case round2 =>
      rintro lp pre ⟨⟨i, j⟩, C⟩ A9 hI hpre hl1 hl2
      dsimp only [encC]
      gi_wp2
      obtain ⟨G, hG⟩ : ∃ G, A9.heap.size = G := ⟨_, rfl⟩
      obtain ⟨A3, hA3⟩ : ∃ A3, A9.alloc (.cells #[.int .i64 i, .int .i64 j] 54) = A3 := ⟨_, rfl⟩
      have hb3 : Below A9.heap.size A9 A3 := by rw [← hA3]; exact (Below.refl _ A9).alloc (Nat.le_refl _) _
      have hG3 : Blk A3 G #[.int .i64 i, .int .i64 j] 54 := by rw [← hA3, ← hG]; exact Blk.new A9 _ _
      rw [hA3, hG]
      refine ⟨(Above.refl _ A9).below hb3, fun r o' hr => ?_⟩
      have hI3 : LiI W4 K0 pre.length A3 ∧ A3.heap[D]? = some (.deferred (some [])) := ⟨hI.1.below hb3 hI.1.bk.lt hI.1.low.size, (hb3.block D (Array.getElem?_eq_some_iff.1 hI.2).1).trans hI.2⟩
      have hp := below_put W8.heap.size A3 hl2 (.loop o')
      have hI2 : LiI W4 K0 pre.length (A3.putObj lp (.loop o')) ∧ (A3.putObj lp (.loop o')).heap[D]? = some (.deferred (some [])) := ⟨hI3.1.below hp (by have := HS0.out; have := HI8.out.2.2.1; omega) (by have := HS0.out; have := HI8.out.2.2.1; omega), (hp.block D HI8.out.2.2.2).trans hI3.2⟩
      have hG2 := hG3.putLoop hr (.loop o')
      obtain ⟨A2, hA2⟩ : ∃ A2, A3.putObj lp (.loop o') = A2 := ⟨_, rfl⟩
      rw [hA2] at hI2 hG2 ⊢
      have hxk := pre_at hpre
      clear hA2 hr hI hl1 hl2 hpre hp hI3 hG3 hb3 hA3 hG
      obtain ⟨Q, hQ⟩ : ∃ Q, pre.length = Q := ⟨_, rfl⟩
      have HQ2 := Lib.hid hQ
      rw [hQ] at hI2 hxk
      have hQL : Q < LL := by rw [← HZ.out]; exact (List.getElem?_eq_some_iff.1 hxk).1
      have hcs := H4.out.2.1.next hI2.1.low
      obtain ⟨lg, hlg, hcc⟩ := hcs.resolve_left (by rw [HZ.out]; omega)
      subst hlg
      obtain ⟨d1, d2, d3⟩ := hcc Q _ hxk
      simp only at d1 d2 d3
      have HG : Hid (Blk A2 K0 #[.int .i64 (Q : Int)] 3 ∧ Blk A2 V #[.slice (some ⟨lg, 0, none⟩) LL lc] 49 ∧ Blk A2 G #[.int .i64 i, .int .i64 j] 54 ∧ A2.cell? ⟨lg, Q * 3, none⟩ = some (.int .i64 i) ∧ A2.cell? ⟨lg, Q * 3 + 1, none⟩ = some (.int .i64 j) ∧ A2.cell? ⟨lg, Q * 3 + 2, none⟩ = some (.int .i64 C)) := Lib.hid ⟨hI2.1.bk, H4.out.1.below hI2.1.low H4.out.1.lt, hG2, d1, d2, d3⟩
      have k1 : decide (LL ≤ Q) = false := by simp; omega
      have k2 : (Q : Int) < (LL : Int) := by omega
      have heq : ∀ w, (Op.equalIn 10000 54 (.agg #[.int .i64 i, .int .i64 j]) (.agg #[.int .i64 i, .int .i64 j])).run Try.prog w = .ok true w := fun w => by rw [eq_pair]; simp
      have HI2 := Lib.hid hI2
      have HQB : (Q : Int) + 1 ≤ 9223372036854775807 := by omega
      clear hI2 hQ hQL hcs hcc d1 d2 d3 hxk hG2
      (try gi_wp2)
      refine wp_region_round (by kernel_rfl) (by kernel_rfl) ?lo ?_
      case lo => rintro ⟨_, _, h⟩; exact h
      refine wpAny_vals [27, 28, 29, 30, 31, 32, 33, 34, 35, 36, 37, 38, 39, 40, 41, 42, 43, 44, 45, 46, 47, 48, 49, 50, 51, 52, 53, 54] [.int .i64 (Q : Int), .slice (some ⟨lg, 0, none⟩) LL lc, .int .i64 (LL : Int), .bool false, .bool false, .agg #[.int .i64 i, .int .i64 j], .slice (some ⟨lg, 0, none⟩) LL lc, .int .i64 (Q : Int), .pointer (some ⟨lg, Q * 3, none⟩), .pointer (some ⟨lg, Q * 3, none⟩), .int .i64 (i : Int), .slice (some ⟨lg, 0, none⟩) LL lc, .int .i64 (Q : Int), .pointer (some ⟨lg, Q * 3, none⟩), .pointer (some ⟨lg, Q * 3 + 1, none⟩), .int .i64 (j : Int), .agg #[.int .i64 i, .int .i64 j], .bool false, .bool false, .bool false, .int .i64 C, .slice (some ⟨lg, 0, none⟩) LL lc, .int .i64 (Q : Int), .pointer (some ⟨lg, Q * 3, none⟩), .pointer (some ⟨lg, Q * 3 + 2, none⟩), .int .i64 C, .bool false, .bool false] (fun w' => Below A2.heap.size A2 w') rfl (by kernel_rfl) (by decide) (by kernel_rfl) ?hs ?he ?hj
      case hj => exact (Below.refl _ _).drew
      case hs =>
        intro qi qo ho fr0 hv hx w' hJ
        have hi : qi < 28 := (Array.getElem?_eq_some_iff.1 ho).1
        have c0 : w'.cell? ⟨K0, 0, none⟩ = some (.int .i64 (Q : Int)) := (hJ.cell (p := ⟨K0, 0, none⟩) HG.out.1.lt).trans (HG.out.1.cell 0)
        have c1 : w'.cell? ⟨V, 0, none⟩ = some (.slice (some ⟨lg, 0, none⟩) LL lc) := (hJ.cell (p := ⟨V, 0, none⟩) HG.out.2.1.lt).trans (HG.out.2.1.cell 0)
        have c2 : w'.cell? ⟨G, 0, none⟩ = some (.int .i64 i) := (hJ.cell (p := ⟨G, 0, none⟩) HG.out.2.2.1.lt).trans (HG.out.2.2.1.cell 0)
        have c3 : w'.cell? ⟨G, 1, none⟩ = some (.int .i64 j) := (hJ.cell (p := ⟨G, 1, none⟩) HG.out.2.2.1.lt).trans (HG.out.2.2.1.cell 1)
        have c4 : w'.cell? ⟨lg, Q * 3, none⟩ = some (.int .i64 i) := (hJ.cell (p := ⟨lg, Q * 3, none⟩) (World.block_lt_of_cell? _ _ HG.out.2.2.2.1)).trans HG.out.2.2.2.1
        have c5 : w'.cell? ⟨lg, Q * 3 + 1, none⟩ = some (.int .i64 j) := (hJ.cell (p := ⟨lg, Q * 3 + 1, none⟩) (World.block_lt_of_cell? _ _ HG.out.2.2.2.2.1)).trans HG.out.2.2.2.2.1
        have c6 : w'.cell? ⟨lg, Q * 3 + 2, none⟩ = some (.int .i64 C) := (hJ.cell (p := ⟨lg, Q * 3 + 2, none⟩) (World.block_lt_of_cell? _ _ HG.out.2.2.2.2.2)).trans HG.out.2.2.2.2.2
        have HJ := Lib.hid hJ
        clear hJ
        have hcase : qi = 0 ∨ qi = 1 ∨ qi = 2 ∨ qi = 3 ∨ qi = 4 ∨ qi = 5 ∨ qi = 6 ∨ qi = 7 ∨ qi = 8 ∨ qi = 9 ∨ qi = 10 ∨ qi = 11 ∨ qi = 12 ∨ qi = 13 ∨ qi = 14 ∨ qi = 15 ∨ qi = 16 ∨ qi = 17 ∨ qi = 18 ∨ qi = 19 ∨ qi = 20 ∨ qi = 21 ∨ qi = 22 ∨ qi = 23 ∨ qi = 24 ∨ qi = 25 ∨ qi = 26 ∨ qi = 27 := by omega
        clear hi
        rcases hcase with rfl | rfl | rfl | rfl | rfl | rfl | rfl | rfl | rfl | rfl | rfl | rfl | rfl | rfl | rfl | rfl | rfl | rfl | rfl | rfl | rfl | rfl | rfl | rfl | rfl | rfl | rfl | rfl
        · obtain rfl := Option.some.inj ho.symm
          clear ho
          have x7 : fr0.tmps[(7 : Nat)]? = some (.pointer (some ⟨K0, 0, none⟩)) := hx 7 (by decide)
          clear hv hx
          refine wpOp_step rfl (fun K hK => ?_)
          go_simp
          exact hK _ _ ⟨rfl, HJ.out⟩
        · obtain rfl := Option.some.inj ho.symm
          clear ho
          have x5 : fr0.tmps[(5 : Nat)]? = some (.pointer (some ⟨V, 0, none⟩)) := hx 5 (by decide)
          clear hv hx
          refine wpOp_step rfl (fun K hK => ?_)
          go_simp
          exact hK _ _ ⟨rfl, HJ.out⟩
        · obtain rfl := Option.some.inj ho.symm
          clear ho
          have d1 : fr0.tmps[(28 : Nat)]? = some (.slice (some ⟨lg, 0, none⟩) LL lc) := hv ⟨1, .data⟩ (by simp) rfl
          clear hv hx
          refine wpOp_step rfl (fun K hK => ?_)
          go_simp
          exact hK _ _ ⟨rfl, HJ.out⟩
        · obtain rfl := Option.some.inj ho.symm
          clear ho
          have d0 : fr0.tmps[(27 : Nat)]? = some (.int .i64 (Q : Int)) := hv ⟨0, .data⟩ (by simp) rfl
          have d2 : fr0.tmps[(29 : Nat)]? = some (.int .i64 (LL : Int)) := hv ⟨2, .data⟩ (by simp) rfl
          clear hv hx
          refine wpOp_step rfl (fun K hK => ?_)
          go_simp
          exact hK _ _ ⟨rfl, HJ.out⟩
        · obtain rfl := Option.some.inj ho.symm
          clear ho
          have d3 : fr0.tmps[(30 : Nat)]? = some (.bool false) := hv ⟨3, .data⟩ (by simp) rfl
          clear hv hx
          refine wpOp_step rfl (fun K hK => ?_)
          go_simp
          exact hK _ _ ⟨rfl, HJ.out⟩
        · obtain rfl := Option.some.inj ho.symm
          clear ho
          have d4 : fr0.tmps[(31 : Nat)]? = some (.bool false) := hv ⟨4, .guard⟩ (by simp) rfl
          have x8 : fr0.tmps[(8 : Nat)]? = some (.pointer (some ⟨G, 0, none⟩)) := hx 8 (by decide)
          clear hv hx
          refine wpOp_step rfl (fun K hK => ?_)
          go_simp
          exact hK _ _ ⟨rfl, HJ.out⟩
        · obtain rfl := Option.some.inj ho.symm
          clear ho
          have d4 : fr0.tmps[(31 : Nat)]? = some (.bool false) := hv ⟨4, .guard⟩ (by simp) rfl
          have x5 : fr0.tmps[(5 : Nat)]? = some (.pointer (some ⟨V, 0, none⟩)) := hx 5 (by decide)
          clear hv hx
          refine wpOp_step rfl (fun K hK => ?_)
          go_simp
          exact hK _ _ ⟨rfl, HJ.out⟩
        · obtain rfl := Option.some.inj ho.symm
          clear ho
          have d4 : fr0.tmps[(31 : Nat)]? = some (.bool false) := hv ⟨4, .guard⟩ (by simp) rfl
          have x7 : fr0.tmps[(7 : Nat)]? = some (.pointer (some ⟨K0, 0, none⟩)) := hx 7 (by decide)
          clear hv hx
          refine wpOp_step rfl (fun K hK => ?_)
          go_simp
          exact hK _ _ ⟨rfl, HJ.out⟩
        · obtain rfl := Option.some.inj ho.symm
          clear ho
          have d6 : fr0.tmps[(33 : Nat)]? = some (.slice (some ⟨lg, 0, none⟩) LL lc) := hv ⟨6, .data⟩ (by simp) rfl
          have d7 : fr0.tmps[(34 : Nat)]? = some (.int .i64 (Q : Int)) := hv ⟨7, .data⟩ (by simp) rfl
          have d4 : fr0.tmps[(31 : Nat)]? = some (.bool false) := hv ⟨4, .guard⟩ (by simp) rfl
          clear hv hx
          refine wpOp_step rfl (fun K hK => ?_)
          go_simp
          exact hK _ _ ⟨rfl, HJ.out⟩
        · obtain rfl := Option.some.inj ho.symm
          clear ho
          have d8 : fr0.tmps[(35 : Nat)]? = some (.pointer (some ⟨lg, Q * 3, none⟩)) := hv ⟨8, .data⟩ (by simp) rfl
          have d4 : fr0.tmps[(31 : Nat)]? = some (.bool false) := hv ⟨4, .guard⟩ (by simp) rfl
          clear hv hx
          refine wpOp_step rfl (fun K hK => ?_)
          go_simp
          exact hK _ _ ⟨rfl, HJ.out⟩
        · obtain rfl := Option.some.inj ho.symm
          clear ho
          have d9 : fr0.tmps[(36 : Nat)]? = some (.pointer (some ⟨lg, Q * 3, none⟩)) := hv ⟨9, .data⟩ (by simp) rfl
          have d4 : fr0.tmps[(31 : Nat)]? = some (.bool false) := hv ⟨4, .guard⟩ (by simp) rfl
          clear hv hx
          refine wpOp_step rfl (fun K hK => ?_)
          go_simp
          exact hK _ _ ⟨rfl, HJ.out⟩
        · obtain rfl := Option.some.inj ho.symm
          clear ho
          have d4 : fr0.tmps[(31 : Nat)]? = some (.bool false) := hv ⟨4, .guard⟩ (by simp) rfl
          have x5 : fr0.tmps[(5 : Nat)]? = some (.pointer (some ⟨V, 0, none⟩)) := hx 5 (by decide)
          clear hv hx
          refine wpOp_step rfl (fun K hK => ?_)
          go_simp
          exact hK _ _ ⟨rfl, HJ.out⟩
        · obtain rfl := Option.some.inj ho.symm
          clear ho
          have d4 : fr0.tmps[(31 : Nat)]? = some (.bool false) := hv ⟨4, .guard⟩ (by simp) rfl
          have x7 : fr0.tmps[(7 : Nat)]? = some (.pointer (some ⟨K0, 0, none⟩)) := hx 7 (by decide)
          clear hv hx
          refine wpOp_step rfl (fun K hK => ?_)
          go_simp
          exact hK _ _ ⟨rfl, HJ.out⟩
        · obtain rfl := Option.some.inj ho.symm
          clear ho
          have d11 : fr0.tmps[(38 : Nat)]? = some (.slice (some ⟨lg, 0, none⟩) LL lc) := hv ⟨11, .data⟩ (by simp) rfl
          have d12 : fr0.tmps[(39 : Nat)]? = some (.int .i64 (Q : Int)) := hv ⟨12, .data⟩ (by simp) rfl
          have d4 : fr0.tmps[(31 : Nat)]? = some (.bool false) := hv ⟨4, .guard⟩ (by simp) rfl
          clear hv hx
          refine wpOp_step rfl (fun K hK => ?_)
          go_simp
          exact hK _ _ ⟨rfl, HJ.out⟩
        · obtain rfl := Option.some.inj ho.symm
          clear ho
          have d13 : fr0.tmps[(40 : Nat)]? = some (.pointer (some ⟨lg, Q * 3, none⟩)) := hv ⟨13, .data⟩ (by simp) rfl
          have d4 : fr0.tmps[(31 : Nat)]? = some (.bool false) := hv ⟨4, .guard⟩ (by simp) rfl
          clear hv hx
          refine wpOp_step rfl (fun K hK => ?_)
          go_simp
          exact hK _ _ ⟨rfl, HJ.out⟩
        · obtain rfl := Option.some.inj ho.symm
          clear ho
          have d14 : fr0.tmps[(41 : Nat)]? = some (.pointer (some ⟨lg, Q * 3 + 1, none⟩)) := hv ⟨14, .data⟩ (by simp) rfl
          have d4 : fr0.tmps[(31 : Nat)]? = some (.bool false) := hv ⟨4, .guard⟩ (by simp) rfl
          clear hv hx
          refine wpOp_step rfl (fun K hK => ?_)
          go_simp
          exact hK _ _ ⟨rfl, HJ.out⟩
        · obtain rfl := Option.some.inj ho.symm
          clear ho
          have d10 : fr0.tmps[(37 : Nat)]? = some (.int .i64 (i : Int)) := hv ⟨10, .data⟩ (by simp) rfl
          have d15 : fr0.tmps[(42 : Nat)]? = some (.int .i64 (j : Int)) := hv ⟨15, .data⟩ (by simp) rfl
          have d4 : fr0.tmps[(31 : Nat)]? = some (.bool false) := hv ⟨4, .guard⟩ (by simp) rfl
          clear hv hx
          refine wpOp_step rfl (fun K hK => ?_)
          go_simp
          exact hK _ _ ⟨rfl, HJ.out⟩
        · obtain rfl := Option.some.inj ho.symm
          clear ho
          have d5 : fr0.tmps[(32 : Nat)]? = some (.agg #[.int .i64 i, .int .i64 j]) := hv ⟨5, .data⟩ (by simp) rfl
          have d16 : fr0.tmps[(43 : Nat)]? = some (.agg #[.int .i64 i, .int .i64 j]) := hv ⟨16, .data⟩ (by simp) rfl
          have d4 : fr0.tmps[(31 : Nat)]? = some (.bool false) := hv ⟨4, .guard⟩ (by simp) rfl
          clear hv hx
          refine wpOp_step rfl (fun K hK => ?_)
          go_simp
          exact hK _ _ ⟨rfl, HJ.out⟩
        · obtain rfl := Option.some.inj ho.symm
          clear ho
          have d4 : fr0.tmps[(31 : Nat)]? = some (.bool false) := hv ⟨4, .data⟩ (by simp) rfl
          have d17 : fr0.tmps[(44 : Nat)]? = some (.bool false) := hv ⟨17, .data⟩ (by simp) rfl
          clear hv hx
          refine wpOp_step rfl (fun K hK => ?_)
          go_simp
          exact hK _ _ ⟨rfl, HJ.out⟩
        · obtain rfl := Option.some.inj ho.symm
          clear ho
          have d18 : fr0.tmps[(45 : Nat)]? = some (.bool false) := hv ⟨18, .data⟩ (by simp) rfl
          clear hv hx
          refine wpOp_step rfl (fun K hK => ?_)
          go_simp
          exact hK _ _ ⟨rfl, HJ.out⟩
        · obtain rfl := Option.some.inj ho.symm
          clear ho
          have d19 : fr0.tmps[(46 : Nat)]? = some (.bool false) := hv ⟨19, .guard⟩ (by simp) rfl
          have x9 : fr0.tmps[(9 : Nat)]? = some (.int .i64 C) := hx 9 (by decide)
          clear hv hx
          refine wpOp_step rfl (fun K hK => ?_)
          go_simp
          exact hK _ _ ⟨rfl, HJ.out⟩
        · obtain rfl := Option.some.inj ho.symm
          clear ho
          have d19 : fr0.tmps[(46 : Nat)]? = some (.bool false) := hv ⟨19, .guard⟩ (by simp) rfl
          have x5 : fr0.tmps[(5 : Nat)]? = some (.pointer (some ⟨V, 0, none⟩)) := hx 5 (by decide)
          clear hv hx
          refine wpOp_step rfl (fun K hK => ?_)
          go_simp
          exact hK _ _ ⟨rfl, HJ.out⟩
        · obtain rfl := Option.some.inj ho.symm
          clear ho
          have d19 : fr0.tmps[(46 : Nat)]? = some (.bool false) := hv ⟨19, .guard⟩ (by simp) rfl
          have x7 : fr0.tmps[(7 : Nat)]? = some (.pointer (some ⟨K0, 0, none⟩)) := hx 7 (by decide)
          clear hv hx
          refine wpOp_step rfl (fun K hK => ?_)
          go_simp
          exact hK _ _ ⟨rfl, HJ.out⟩
        · obtain rfl := Option.some.inj ho.symm
          clear ho
          have d21 : fr0.tmps[(48 : Nat)]? = some (.slice (some ⟨lg, 0, none⟩) LL lc) := hv ⟨21, .data⟩ (by simp) rfl
          have d22 : fr0.tmps[(49 : Nat)]? = some (.int .i64 (Q : Int)) := hv ⟨22, .data⟩ (by simp) rfl
          have d19 : fr0.tmps[(46 : Nat)]? = some (.bool false) := hv ⟨19, .guard⟩ (by simp) rfl
          clear hv hx
          refine wpOp_step rfl (fun K hK => ?_)
          go_simp
          exact hK _ _ ⟨rfl, HJ.out⟩
        · obtain rfl := Option.some.inj ho.symm
          clear ho
          have d23 : fr0.tmps[(50 : Nat)]? = some (.pointer (some ⟨lg, Q * 3, none⟩)) := hv ⟨23, .data⟩ (by simp) rfl
          have d19 : fr0.tmps[(46 : Nat)]? = some (.bool false) := hv ⟨19, .guard⟩ (by simp) rfl
          clear hv hx
          refine wpOp_step rfl (fun K hK => ?_)
          go_simp
          exact hK _ _ ⟨rfl, HJ.out⟩
        · obtain rfl := Option.some.inj ho.symm
          clear ho
          have d24 : fr0.tmps[(51 : Nat)]? = some (.pointer (some ⟨lg, Q * 3 + 2, none⟩)) := hv ⟨24, .data⟩ (by simp) rfl
          have d19 : fr0.tmps[(46 : Nat)]? = some (.bool false) := hv ⟨19, .guard⟩ (by simp) rfl
          clear hv hx
          refine wpOp_step rfl (fun K hK => ?_)
          go_simp
          exact hK _ _ ⟨rfl, HJ.out⟩
        · obtain rfl := Option.some.inj ho.symm
          clear ho
          have d20 : fr0.tmps[(47 : Nat)]? = some (.int .i64 C) := hv ⟨20, .data⟩ (by simp) rfl
          have d25 : fr0.tmps[(52 : Nat)]? = some (.int .i64 C) := hv ⟨25, .data⟩ (by simp) rfl
          have d19 : fr0.tmps[(46 : Nat)]? = some (.bool false) := hv ⟨19, .guard⟩ (by simp) rfl
          clear hv hx
          refine wpOp_step rfl (fun K hK => ?_)
          go_simp
          exact hK _ _ ⟨rfl, HJ.out⟩
        · obtain rfl := Option.some.inj ho.symm
          clear ho
          have d19 : fr0.tmps[(46 : Nat)]? = some (.bool false) := hv ⟨19, .data⟩ (by simp) rfl
          have d26 : fr0.tmps[(53 : Nat)]? = some (.bool false) := hv ⟨26, .data⟩ (by simp) rfl
          clear hv hx
          refine wpOp_step rfl (fun K hK => ?_)
          go_simp
          exact hK _ _ ⟨rfl, HJ.out⟩
      case he =>
        intro w' hJ
        simp only [putF, valsAt, Nat.reduceAdd, Nat.zero_add, List.getD_cons_zero, List.getD_cons_succ, Act.put, List.setIfInBounds_toArray, List.set_cons_succ, List.set_cons_zero]
        have hI9 : LiI W4 K0 Q w' ∧ w'.heap[D]? = some (.deferred (some [])) := ⟨HI2.out.1.below hJ HI2.out.1.bk.lt HI2.out.1.low.size, (hJ.block D (Array.getElem?_eq_some_iff.1 HI2.out.2).1).trans HI2.out.2⟩
        have y0 := hI9.1.bk.cell 0
        have y1 := hI9.1.bk.free 0
        have HI9 := Lib.hid hI9
        have HJ9 := Lib.hid hJ
        clear hI9 hJ
        gi_wp2
        refine ⟨((Above.refl _ A2).below HJ9.out).setCell (by have := HS0.out; have := HI8.out.2.2.1; simp; omega) _, ?_, ?_⟩
        · show LiI W4 K0 (pre ++ [((i, j), C)]).length _
          rw [List.length_append, HQ2.out]
          exact HI9.out.1.set (n' := Q + 1) (by have := HS0.out; omega)
        · exact (Below.heap_setCell _ _ _ _ (by have := HS0.out; have := HK9.out.1; simp; omega)).trans HI9.out.2
    case done2 =>
      intro D2 A9 hD2 hI hK2
      obtain ⟨hI1, hI2⟩ := hI
      rw [HZ.out] at hI1
      have hr4 := H4.out.2.2.2.1.below hI1.low H4.out.2.2.2.1.lt
      have y0 := hI1.bk.cell 0
      have y1 := (H4.out.1.below hI1.low H4.out.1.lt).cell 0
      have y2 := hr4.cell 0
      have y3 := hr4.free 0
      have HF := Lib.hid (And.intro hI1 (And.intro hI2 (And.intro hK2 hr4)))
      have HD2 := Lib.hid hD2
      clear hI1 hI2 hK2 hr4 hD2
      have k1 : ((LL : Int) == (LL : Int)) = true := by simp
      go_wp2_with fail
      refine leaves_all [D2, D] _ ?_ (fun E hE => ?_) ?_
      · have h1 := HI8.out.2.2.2
        have h2 := HD2.out
        refine List.nodup_cons.2 ⟨?_, List.nodup_cons.2 ⟨by simp, List.nodup_nil⟩⟩
        simp only [List.mem_cons, List.not_mem_nil, or_false]
        omega
      · have hne : E ≠ X + 2 := by
          have h1 := HI8.out.2.2.2
          have h2 := HD2.out
          have h3 := HK9.out.1
          have h4 := HS0.out
          have h5 := H4.out.2.2.2.2.2
          have h6 := HI8.out.2.2.1
          rcases List.mem_cons.1 hE with rfl | hE
          · omega
          · simp at hE; omega
        refine (Below.heap_setCell _ _ _ _ hne).trans ?_
        rcases List.mem_cons.1 hE with rfl | hE
        · exact HF.out.2.2.1
        · obtain rfl : E = D := by simpa using hE
          exact HF.out.2.1
      · have h3 := HK9.out.1
        have h4 := HS0.out
        have h5 := H4.out.2.2.2.2.2
        have h6 := HI8.out.2.2.1
        have h2 := HD2.out
        have hbb : Below (X + 3) (A9.setCell ⟨X + 2, 0, none⟩ (.bool true)) (putAll (A9.setCell ⟨X + 2, 0, none⟩ (.bool true)) [D2, D]) := putAll_below _ _ _ fun E hE => by
          rcases List.mem_cons.1 hE with rfl | hE
          · omega
          · simp at hE; omega
        have hZ := (HF.out.2.2.2.set 0 (.bool true)).below hbb (by omega)
        have z0 := hZ.cell 0
        simp at z0
        refine ⟨.bool true, by simp [results, Try.results6, go_sem, z0], rfl, ?_⟩
        rw [HW.out.1]
        exact ((H4.out.2.2.2.2.1.trans (HF.out.1.low.mono (by omega))).setCell (by simp) _).trans (hbb.mono (by omega))
    case stop2 =>
      rintro D2 c pre A9 hD2 hpre h hK2
      exact h.elim
end Go.Proofs.Ythnefcafhpioaaa
