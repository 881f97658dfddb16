/-
  Package dbm: which octagons may be.
-/
import Derived.Test.YthnefcafhpioaaaDbA
import Derived.Test.YthnefcafhpioaaaRegR
namespace Go.Proofs.Ythnefcafhpioaaa
open Go Go.RowKit Go.Shelf
attribute [local go_sem] Oper.semAt_some

theorem Blk.drew {w : World} {b : Nat} {cs : Array Value} {t : TypeId} (h : Blk w b cs t) : Blk w.drew b cs t := h
theorem Blk.drew2 {w : World} {b : Nat} {cs : Array Value} {t : TypeId} (h : Blk w b cs t) : Blk w.drew.drew b cs t := h
theorem mat_at {w : World} {m : List Int} {a : Option Addr} (h : MAt w m a) {i : Nat} (hi : i < m.length) : ∃ b o, a = some ⟨b, o, none⟩ ∧ w.cell? ⟨b, o + i, none⟩ = some (.int .i64 (m.getD i 0)) := by
  obtain ⟨b, o, e, hc⟩ := h.resolve_left (by omega)
  refine ⟨b, o, e, ?_⟩
  rw [hc i hi, List.getD_eq_getElem?_getD, List.getElem?_eq_getElem hi]
  rfl
theorem gM_at {w : World} {n : Nat} {m : List Int} {b o : Nat} (h : MAt w m (some ⟨b, o, none⟩)) (hl : m.length = n * n) {i j : Nat} (hi : i < n) (hj : j < n) : w.cell? ⟨b, o + (i * n + j), none⟩ = some (.int .i64 (gM n m i j)) := by
  obtain ⟨b', o', e, hc⟩ := mat_at h (i := i * n + j) (by rw [hl]; exact cell_lt hi hj)
  cases e
  exact hc
theorem okM_false {n : Nat} {m : List Int} {i j : Nat} (hi : i < n) (hj : j < n) (h : okC n m i j = false) : okM n m = false := by
  unfold okM
  rw [List.all_eq_false]
  refine ⟨i, List.mem_range.2 hi, ?_⟩
  rw [Bool.not_eq_true, List.all_eq_false]
  exact ⟨j, List.mem_range.2 hj, by rw [h]; decide⟩
theorem okM_true {n : Nat} {m : List Int} (h : ∀ i, i < n → ∀ j, j < n → okC n m i j = true) : okM n m = true :=
  List.all_eq_true.2 fun i hi => List.all_eq_true.2 fun j hj => h i (List.mem_range.1 hi) j (List.mem_range.1 hj)
theorem mem_allP {n i j : Nat} (hi : i < n) (hj : j < n) : (i, j) ∈ allP n := by
  simp only [allP, List.mem_flatten, List.mem_map, List.mem_range]
  exact ⟨_, ⟨i, hi, rfl⟩, by simp only [rowP, List.mem_map, List.mem_range]; exact ⟨j, hj, rfl⟩⟩
theorem allP_lt {n : Nat} {x : Nat × Nat} (h : x ∈ allP n) : x.1 < n ∧ x.2 < n := by
  simp only [allP, List.mem_flatten, List.mem_map, List.mem_range] at h
  obtain ⟨l, ⟨i, hi, rfl⟩, hx⟩ := h
  simp only [rowP, List.mem_map, List.mem_range] at hx
  obtain ⟨j, hj, rfl⟩ := hx
  exact ⟨hi, hj⟩

set_option maxRecDepth 100000 in
set_option maxHeartbeats 4000000 in
theorem sized_any (N : Nat) (em : Bool) (L : Nat) (a : Option Addr) (c : Nat) (hN : N ≤ 64) (w : World) :
    Calls Try.prog 34 #[.agg #[.int .i64 N, .bool em, .slice a L c]] w fun e w' => e = .returned (.bool (if em then (L : Int) == 0 else (L : Int) == ((4 * (N * N) : Nat) : Int))) ∧ Below w.heap.size w w' := by
  have HC := Lib.hid (fun w => cells_any N hN w)
  obtain ⟨S, hS⟩ : ∃ S, 4 * (N * N) = S := ⟨_, rfl⟩
  rw [hS] at HC ⊢
  obtain ⟨X, hX⟩ : ∃ X, w.heap.size = X := ⟨_, rfl⟩
  obtain ⟨W1, hW1⟩ : ∃ W, w.alloc (.cells #[.int .i64 N, .bool em, .slice a L c] 24) = W := ⟨_, rfl⟩
  have hx1 : Blk W1 X #[.int .i64 N, .bool em, .slice a L c] 24 := by rw [← hW1, ← hX]; exact Blk.new w _ _
  have hb1 : Below w.heap.size w W1 := by rw [← hW1]; exact (Below.refl _ w).alloc (Nat.le_refl _) _
  have x0 : W1.cell? ⟨X, 0, none⟩ = some (.int .i64 N) := hx1.cell 0
  have x1 : W1.cell? ⟨X, 1, none⟩ = some (.bool em) := hx1.cell 1
  have x2 : W1.cell? ⟨X, 2, none⟩ = some (.slice a L c) := hx1.cell 2
  have HB := Lib.hid hb1
  have HX := Lib.hid (And.intro x0 x2)
  have HW := Lib.hid (And.intro hX hW1)
  clear hX hW1 hx1 hb1 hS
  cases em with
  | true =>
    simp only [if_true]
    go_enter Try.func34, Try.ntmps34
    go_upto_region 1 with fail
    rw [HW.out.1, HW.out.2]
    go_wp2
    go_ret
    exact ⟨rfl, HB.out⟩
  | false =>
    simp only [Bool.false_eq_true, if_false]
    go_enter Try.func34, Try.ntmps34
    go_upto_region 1 with fail
    rw [HW.out.1, HW.out.2]
    go_upto_region 3 with fail
    clear x0 x1 x2
    refine wp_region_any (by kernel_rfl) ?_
    refine wpAny_vals [9, 10, 11, 12, 13, 14, 15, 2] [.pointer (some ⟨X, 2, none⟩), .slice a L c, .int .i64 (L : Int), .pointer (some ⟨X, 0, none⟩), .int .i64 (N : Int), .int .i64 (S : Int), .bool ((L : Int) == (S : Int)), .bool ((L : Int) == (S : Int))] (fun w' => w' = W1.drew) rfl (by kernel_rfl) (by decide) (by kernel_rfl) ?hs ?he ?hj
    case hj => exact rfl
    case hs =>
      intro i o ho fr0 hv hx w' hJ
      have hi : i < 8 := (Array.getElem?_eq_some_iff.1 ho).1
      have c0 : w'.cell? ⟨X, 0, none⟩ = some (.int .i64 N) := by rw [hJ]; exact HX.out.1
      have c2 : w'.cell? ⟨X, 2, none⟩ = some (.slice a L c) := by rw [hJ]; exact HX.out.2
      have HJ := Lib.hid hJ
      clear hJ
      have hcase : i = 0 ∨ i = 1 ∨ i = 2 ∨ i = 3 ∨ i = 4 ∨ i = 5 ∨ i = 6 ∨ i = 7 := by omega
      clear hi
      rcases hcase with rfl | rfl | rfl | rfl | rfl | rfl | rfl | rfl
      · obtain rfl := Option.some.inj ho.symm
        clear ho
        have x1 : fr0.tmps[(1 : Nat)]? = some (.pointer (some ⟨X, 0, none⟩)) := hx 1 (by decide)
        clear hv hx
        refine wpOp_step rfl (fun K hK => ?_)
        go_simp
        exact hK _ _ ⟨rfl, HJ.out⟩
      · obtain rfl := Option.some.inj ho.symm
        clear ho
        have d0 : fr0.tmps[(9 : Nat)]? = some (.pointer (some ⟨X, 2, none⟩)) := hv ⟨0, .data⟩ (by simp) rfl
        clear hv hx
        refine wpOp_step rfl (fun K hK => ?_)
        go_simp
        exact hK _ _ ⟨rfl, HJ.out⟩
      · obtain rfl := Option.some.inj ho.symm
        clear ho
        have d1 : fr0.tmps[(10 : Nat)]? = some (.slice a L c) := hv ⟨1, .data⟩ (by simp) rfl
        clear hv hx
        refine wpOp_step rfl (fun K hK => ?_)
        go_simp
        exact hK _ _ ⟨rfl, HJ.out⟩
      · obtain rfl := Option.some.inj ho.symm
        clear ho
        have x1 : fr0.tmps[(1 : Nat)]? = some (.pointer (some ⟨X, 0, none⟩)) := hx 1 (by decide)
        clear hv hx
        refine wpOp_step rfl (fun K hK => ?_)
        go_simp
        exact hK _ _ ⟨rfl, HJ.out⟩
      · obtain rfl := Option.some.inj ho.symm
        clear ho
        have d3 : fr0.tmps[(12 : Nat)]? = some (.pointer (some ⟨X, 0, none⟩)) := hv ⟨3, .data⟩ (by simp) rfl
        clear hv hx
        refine wpOp_step rfl (fun K hK => ?_)
        go_simp
        exact hK _ _ ⟨rfl, HJ.out⟩
      · obtain rfl := Option.some.inj ho.symm
        clear ho
        have d4 : fr0.tmps[(13 : Nat)]? = some (.int .i64 (N : Int)) := hv ⟨4, .data⟩ (by simp) rfl
        clear hv hx
        refine wpOp_step rfl (fun K hK => ?_)
        go_simp
        go_at_call 41
        refine (HC.out _).mono ?_
        rintro e w2 ⟨rfl, rfl⟩
        exact hK _ _ ⟨rfl, HJ.out⟩
      · obtain rfl := Option.some.inj ho.symm
        clear ho
        have d2 : fr0.tmps[(11 : Nat)]? = some (.int .i64 (L : Int)) := hv ⟨2, .data⟩ (by simp) rfl
        have d5 : fr0.tmps[(14 : Nat)]? = some (.int .i64 (S : Int)) := hv ⟨5, .data⟩ (by simp) rfl
        clear hv hx
        refine wpOp_step rfl (fun K hK => ?_)
        go_simp
        exact hK _ _ ⟨rfl, HJ.out⟩
      · obtain rfl := Option.some.inj ho.symm
        clear ho
        have d6 : fr0.tmps[(15 : Nat)]? = some (.bool ((L : Int) == (S : Int))) := hv ⟨6, .data⟩ (by simp) rfl
        clear hv hx
        refine wpOp_step rfl (fun K hK => ?_)
        go_simp
        exact hK _ _ ⟨rfl, HJ.out⟩
    case he =>
      intro w' hJ
      simp only [putF, valsAt, Nat.reduceAdd, Nat.zero_add, List.getD_cons_zero, List.getD_cons_succ, Act.put, List.setIfInBounds_toArray, List.set_cons_succ, List.set_cons_zero]
      go_wp2
      go_ret
      exact ⟨rfl, HB.out.trans (by rw [hJ]; exact (Below.refl _ _).drew)⟩

/-- Between the rounds of formed. -/
def FmI (N : Nat) (m : List Int) (a : Option Addr) (L c X n0 : Nat) (w : World) (pre : List (Nat × Nat)) (A : World) : Prop :=
  (∀ x ∈ pre, okC (2 * N) m x.1 x.2 = true) ∧ Blk A X #[.int .i64 N, .bool false, .slice a L c] 24 ∧ Blk A (X + 1) #[.bool false] 4 ∧ NAt n0 N A ∧ Below X w A
theorem NAt.below {b N k : Nat} {A B : World} (h : NAt b N A) (hb : Below k A B) (hk : b < k) : NAt b N B := (hb.cell (p := ⟨b, 0, none⟩) hk).trans h
theorem FmI.below {N : Nat} {m : List Int} {a : Option Addr} {L c X n0 : Nat} {w A B : World} {pre : List (Nat × Nat)} {k : Nat} (h : FmI N m a L c X n0 w pre A) (hb : Below k A B) (hk : n0 < k) (hX : X + 1 < n0) : FmI N m a L c X n0 w pre B :=
  ⟨h.1, h.2.1.below hb (by omega), h.2.2.1.below hb (by omega), h.2.2.2.1.below hb hk, h.2.2.2.2.trans (hb.mono (by omega))⟩
def FmX (N : Nat) (m : List Int) (X : Nat) (w : World) (c : Code) (A : World) : Prop := c = .ret ∧ okM (2 * N) m = false ∧ Blk A (X + 1) #[.bool false] 4 ∧ Below X w A
/-- Numbers of places, as the machine reckons them. -/
theorem ix_lt {N i j : Nat} (hi : i < 2 * N) (hj : j < 2 * N) (hN : N ≤ 64) : i * (2 * N) + j < 16384 := by
  have h := cell_lt hi hj
  have h2 : 2 * N * (2 * N) ≤ 128 * 128 := Nat.mul_le_mul (by omega) (by omega)
  omega
theorem fm_next {n : Nat} {m : List Int} {pre : List (Nat × Nat)} {i j : Nat} (h : ∀ x ∈ pre, okC n m x.1 x.2 = true) (h1 : okC n m i j = true) : ∀ x ∈ pre ++ [(i, j)], okC n m x.1 x.2 = true := fun x hx => by
  rcases List.mem_append.1 hx with hx | hx
  · exact h x hx
  · obtain rfl := List.mem_singleton.1 hx; exact h1
set_option maxRecDepth 100000 in
set_option maxHeartbeats 8000000 in
theorem formed_any (N : Nat) (em : Bool) (m : List Int) (a : Option Addr) (c : Nat) (w : World) (hN : N ≤ 64) (hm : MAt w m a) (hl : em = false → m.length = 2 * N * (2 * N)) :
    Calls Try.prog 35 #[.agg #[.int .i64 N, .bool em, .slice a m.length c]] w fun e w' => e = .returned (.bool (em || okM (2 * N) m)) ∧ Below w.heap.size w w' := by
  obtain ⟨L, hL⟩ : ∃ L, m.length = L := ⟨_, rfl⟩
  rw [hL]
  obtain ⟨X, hX⟩ : ∃ X, w.heap.size = X := ⟨_, rfl⟩
  obtain ⟨W1, hW1⟩ : ∃ W, (w.alloc (.cells #[.int .i64 N, .bool em, .slice a L c] 24)).alloc (.cells #[.bool false] 4) = W := ⟨_, rfl⟩
  have hx1 : Blk W1 X #[.int .i64 N, .bool em, .slice a L c] 24 := by rw [← hW1, ← hX]; exact (Blk.new w _ _).alloc _
  have hr1 : Blk W1 (X + 1) #[.bool false] 4 := by
    have := Blk.new (w.alloc (.cells #[.int .i64 N, .bool em, .slice a L c] 24)) #[.bool false] 4
    rw [World.size_alloc, hX] at this
    rw [← hW1]; exact this
  have hb1 : Below X w W1 := by rw [← hW1, ← hX]; exact ((Below.refl _ w).alloc (Nat.le_refl _) _).alloc (by simp) _
  have hs1 : W1.heap.size = X + 2 := by rw [← hW1]; simp; omega
  have x0 : W1.cell? ⟨X, 0, none⟩ = some (.int .i64 N) := hx1.cell 0
  have x1 : W1.cell? ⟨X, 1, none⟩ = some (.bool em) := hx1.cell 1
  have r1 : W1.cell? ⟨X + 1, 0, none⟩ = some (.bool false) := hr1.cell 0
  have r2 := hr1.free 0
  have HW := Lib.hid (And.intro hX hW1)
  have HK := Lib.hid (And.intro hL (And.intro hm hl))
  have HB := Lib.hid (And.intro hb1 (And.intro hs1 (And.intro hx1 hr1)))
  clear hL hX hW1 hm hl hb1 hs1 hx1 hr1
  cases em with
  | true =>
    refine calls_of_wp_marks Try.func35 rfl ?_
    simp only [Try.ntmps35, List.size_toArray, List.length_cons, List.length_nil, Nat.reduceAdd, Nat.reduceSub, Array.replicate_succ, Array.replicate_zero, List.push_toArray, List.append_toArray, List.nil_append, List.cons_append]
    go_upto_region 1 with fail
    simp only [HW.out.1]
    rw [HW.out.2]
    go_wp2
    have hZ := (HB.out.2.2.2).set 0 (.bool true)
    have z0 := hZ.cell 0
    simp at z0
    refine ⟨.bool true, by simp [results, Try.results35, go_sem, z0], ?_⟩
    exact ⟨rfl, by rw [HW.out.1]; exact HB.out.1.setCell (by simp) _⟩
  | false =>
    refine calls_of_wp_marks Try.func35 rfl ?_
    simp only [Try.ntmps35, List.size_toArray, List.length_cons, List.length_nil, Nat.reduceAdd, Nat.reduceSub, Array.replicate_succ, Array.replicate_zero, List.push_toArray, List.append_toArray, List.nil_append, List.cons_append]
    go_upto_region 1 with fail
    simp only [HW.out.1]
    rw [HW.out.2]
    go_wp2_with (go_at_call 51; ((with_reducible refine (places_any N _).mono ?_); rintro e w' ⟨rfl, rfl⟩))
    clear x0 x1 r1 r2
    obtain ⟨W0, hW0⟩ : ∃ W0, W1.alloc (.cells #[.int .i64 N] 3) = W0 := ⟨_, rfl⟩
    have hz0 : W0.heap.size = X + 3 := by rw [← hW0]; simp; exact HB.out.2.1
    have y0 : Blk W0 (X + 2) #[.int .i64 N] 3 := by
      have := Blk.new W1 #[.int .i64 N] 3
      rw [HB.out.2.1] at this
      rw [← hW0]; exact this
    have y1 : Blk W0 X #[.int .i64 N, .bool false, .slice a L c] 24 := by rw [← hW0]; exact HB.out.2.2.1.alloc _
    have y2 : Blk W0 (X + 1) #[.bool false] 4 := by rw [← hW0]; exact HB.out.2.2.2.alloc _
    have hb0 : Below X w W0 := by rw [← hW0]; exact HB.out.1.alloc (by rw [HB.out.2.1]; omega) _
    rw [HB.out.2.1, hW0]
    have hlen := HK.out.2.2 (by simp)
    have hlk := HK.out.1
    have hmw := HK.out.2.1
    have hXw := HW.out.1
    clear hW0 HB HW HK
    refine wp_rangeFunc_oneK (gf := 66) (lb := #[.pointer (some ⟨X + 2, 0, none⟩)]) rfl (enters_of Try.func66 (by kernel_rfl) rfl)
      (places1_seq N (X + 2) hN W0) (Below.refl _ _) (fun _ => rfl)
      (fun pre A => FmI N m a L c X (X + 2) w pre A) (fun c pre A => FmX N m X w c A)
      (fun pre A B h hb => h.below (k := W0.heap.size) hb (by omega) (by omega)) (fun c pre A B h hb => ⟨h.1, h.2.1, h.2.2.1.below hb (by omega), h.2.2.2.trans (hb.mono (by omega))⟩)
      (fun pre A h => h.2.2.2.1) ⟨by simp, y1, y2, y0.cell 0, hb0⟩ ?round ?done ?stop
    case round =>
      intro l pre x A hI hpre hle hl2
      obtain ⟨i, j⟩ := x
      obtain ⟨hi, hj⟩ := allP_lt (hpre.subset (by simp : (i, j) ∈ pre ++ [(i, j)]))
      simp only at hi hj
      dsimp only [encP]
      gi_wp2
      refine ⟨Above.refl _ _, fun r o' hr => ?_⟩
      have hI2 := hI.below (k := W0.heap.size) (below_put _ _ hl2 (.loop o')) (by omega) (by omega)
      obtain ⟨A2, hA2⟩ : ∃ A2, A.putObj l (.loop o') = A2 := ⟨_, rfl⟩
      rw [hA2] at hI2 ⊢
      clear hA2 hr hI hle hl2 hpre y0 y1 y2 hb0
      obtain ⟨hok, i1, i2, i3, i4⟩ := hI2
      have hmA : MAt A2 m a := hmw.next (by rw [hXw]; exact i4)
      have hT0 := cell_lt hi hj
      obtain ⟨b, ob, rfl, -⟩ := mat_at hmA (i := i * (2 * N) + j) (by omega)
      obtain ⟨C, hC⟩ : ∃ C, gM (2 * N) m i j = C := ⟨_, rfl⟩
      have cT := gM_at hmA hlen hi hj
      have hai := acr_lt hi
      have haj := acr_lt hj
      obtain ⟨D, hD⟩ : ∃ D, gM (2 * N) m (acr j) (acr i) = D := ⟨_, rfl⟩
      have cR := gM_at hmA hlen haj hai
      rw [hC] at cT
      rw [hD] at cR
      have hokE : okC (2 * N) m i j = (decide (isBound C) && (decide (i ≠ j) || decide (C = 0)) && decide (C = D)) := by unfold okC; rw [hC, hD]
      have HIS := Lib.hid (fun w => is_any C w)
      have HAI := Lib.hid (fun w => across_any i (by omega) w)
      have HAJ := Lib.hid (fun w => across_any j (by omega) w)
      have HIX := Lib.hid (fun w => index_any N i j hN hi hj w)
      have HIX2 := Lib.hid (fun w => index_any N (acr j) (acr i) hN haj hai w)
      have tl := cell_lt hi hj
      have rl := cell_lt haj hai
      obtain ⟨I, hI⟩ : ∃ I, acr i = I := ⟨_, rfl⟩
      obtain ⟨J, hJ⟩ : ∃ I, acr j = I := ⟨_, rfl⟩
      rw [hI] at HAI HIX2 cR rl
      rw [hJ] at HAJ HIX2 cR rl
      obtain ⟨T, hT⟩ : ∃ T, i * (2 * N) + j = T := ⟨_, rfl⟩
      obtain ⟨R, hR⟩ : ∃ T, J * (2 * N) + I = T := ⟨_, rfl⟩
      rw [hT] at HIX cT tl
      rw [hR] at HIX2 cR rl
      rw [← hlen, hlk] at tl rl
      have tl2 : (T : Int) < (L : Int) := by omega
      have rl2 : (R : Int) < (L : Int) := by omega
      have HT := Lib.hid cT
      have HR := Lib.hid cR
      have HX := Lib.hid (And.intro (i1.cell 0) (i1.cell 2))
      have HA := Lib.hid (And.intro i1 (And.intro i2 (And.intro i3 i4)))
      have hszA := i2.lt
      have HIJ := Lib.hid (And.intro hok (And.intro hokE (And.intro hi hj)))
      have HZ := Lib.hid (And.intro hlen (And.intro hlk (And.intro hmw (And.intro hXw hz0))))
      have hX0 : X + 1 < W0.heap.size := by omega
      clear hok i1 i2 i3 i4 hmA cT cR hai haj hokE tl rl hI hJ hT hR hT0 hC hD hi hj hlen hlk hmw hXw hz0
      (try gi_wp2)
      refine wp_region_round (by kernel_rfl) (by kernel_rfl) ?lo ?_
      case lo => rintro ⟨_, _, h⟩; exact h
      refine wpAny_vals [13, 14, 15, 16, 17, 18, 19, 20, 21, 5] [.pointer (some ⟨X, 2, none⟩), .slice (some ⟨b, ob, none⟩) L c, .pointer (some ⟨X, 0, none⟩), .int .i64 (N : Int), .int .i64 (i : Int), .int .i64 (j : Int), .int .i64 (T : Int), .pointer (some ⟨b, ob + T, none⟩), .int .i64 (C : Int), .int .i64 (C : Int)] (fun w' => w' = A2.drew) rfl (by kernel_rfl) (by decide) (by kernel_rfl) ?hs ?he ?hj
      case hj => exact rfl
      case hs =>
        intro i o ho fr0 hv hx w' hJ
        have hi : i < 10 := (Array.getElem?_eq_some_iff.1 ho).1
        have c0 : w'.cell? ⟨X, 0, none⟩ = some (.int .i64 N) := by rw [hJ]; exact HX.out.1
        have c2 : w'.cell? ⟨X, 2, none⟩ = some (.slice (some ⟨b, ob, none⟩) L c) := by rw [hJ]; exact HX.out.2
        have cT : w'.cell? ⟨b, ob + T, none⟩ = some (.int .i64 C) := by rw [hJ]; exact HT.out
        have HJ := Lib.hid hJ
        clear hJ
        have hcase : i = 0 ∨ i = 1 ∨ i = 2 ∨ i = 3 ∨ i = 4 ∨ i = 5 ∨ i = 6 ∨ i = 7 ∨ i = 8 ∨ i = 9 := by omega
        clear hi
        rcases hcase with rfl | rfl | rfl | rfl | rfl | rfl | rfl | rfl | rfl | rfl
        · obtain rfl := Option.some.inj ho.symm
          clear ho
          have x1 : fr0.tmps[(1 : Nat)]? = some (.pointer (some ⟨X, 0, none⟩)) := hx 1 (by decide)
          clear hv hx
          refine wpOp_step rfl (fun K hK => ?_)
          go_simp
          exact hK _ _ ⟨rfl, HJ.out⟩
        · obtain rfl := Option.some.inj ho.symm
          clear ho
          have d0 : fr0.tmps[(13 : Nat)]? = some (.pointer (some ⟨X, 2, none⟩)) := hv ⟨0, .data⟩ (by simp) rfl
          clear hv hx
          refine wpOp_step rfl (fun K hK => ?_)
          go_simp
          exact hK _ _ ⟨rfl, HJ.out⟩
        · obtain rfl := Option.some.inj ho.symm
          clear ho
          have x1 : fr0.tmps[(1 : Nat)]? = some (.pointer (some ⟨X, 0, none⟩)) := hx 1 (by decide)
          clear hv hx
          refine wpOp_step rfl (fun K hK => ?_)
          go_simp
          exact hK _ _ ⟨rfl, HJ.out⟩
        · obtain rfl := Option.some.inj ho.symm
          clear ho
          have d2 : fr0.tmps[(15 : Nat)]? = some (.pointer (some ⟨X, 0, none⟩)) := hv ⟨2, .data⟩ (by simp) rfl
          clear hv hx
          refine wpOp_step rfl (fun K hK => ?_)
          go_simp
          exact hK _ _ ⟨rfl, HJ.out⟩
        · obtain rfl := Option.some.inj ho.symm
          clear ho
          have x3 : fr0.tmps[(3 : Nat)]? = some (.int .i64 (i : Int)) := hx 3 (by decide)
          clear hv hx
          refine wpOp_step rfl (fun K hK => ?_)
          go_simp
          exact hK _ _ ⟨rfl, HJ.out⟩
        · obtain rfl := Option.some.inj ho.symm
          clear ho
          have x4 : fr0.tmps[(4 : Nat)]? = some (.int .i64 (j : Int)) := hx 4 (by decide)
          clear hv hx
          refine wpOp_step rfl (fun K hK => ?_)
          go_simp
          exact hK _ _ ⟨rfl, HJ.out⟩
        · obtain rfl := Option.some.inj ho.symm
          clear ho
          have d3 : fr0.tmps[(16 : Nat)]? = some (.int .i64 (N : Int)) := hv ⟨3, .data⟩ (by simp) rfl
          have d4 : fr0.tmps[(17 : Nat)]? = some (.int .i64 (i : Int)) := hv ⟨4, .data⟩ (by simp) rfl
          have d5 : fr0.tmps[(18 : Nat)]? = some (.int .i64 (j : Int)) := hv ⟨5, .data⟩ (by simp) rfl
          clear hv hx
          refine wpOp_step rfl (fun K hK => ?_)
          go_simp
          go_at_call 42
          refine (HIX.out _).mono ?_
          rintro e w2 ⟨rfl, rfl⟩
          exact hK _ _ ⟨rfl, HJ.out⟩
        · obtain rfl := Option.some.inj ho.symm
          clear ho
          have d1 : fr0.tmps[(14 : Nat)]? = some (.slice (some ⟨b, ob, none⟩) L c) := hv ⟨1, .data⟩ (by simp) rfl
          have d6 : fr0.tmps[(19 : Nat)]? = some (.int .i64 (T : Int)) := hv ⟨6, .data⟩ (by simp) rfl
          clear hv hx
          refine wpOp_step rfl (fun K hK => ?_)
          go_simp
          exact hK _ _ ⟨rfl, HJ.out⟩
        · obtain rfl := Option.some.inj ho.symm
          clear ho
          have d7 : fr0.tmps[(20 : Nat)]? = some (.pointer (some ⟨b, ob + T, none⟩)) := hv ⟨7, .data⟩ (by simp) rfl
          clear hv hx
          refine wpOp_step rfl (fun K hK => ?_)
          go_simp
          exact hK _ _ ⟨rfl, HJ.out⟩
        · obtain rfl := Option.some.inj ho.symm
          clear ho
          have d8 : fr0.tmps[(21 : Nat)]? = some (.int .i64 (C : Int)) := hv ⟨8, .data⟩ (by simp) rfl
          clear hv hx
          refine wpOp_step rfl (fun K hK => ?_)
          go_simp
          exact hK _ _ ⟨rfl, HJ.out⟩
      case he =>
        intro w' hJ
        simp only [putF, valsAt, Nat.reduceAdd, Nat.zero_add, List.getD_cons_zero, List.getD_cons_succ, Act.put, List.setIfInBounds_toArray, List.set_cons_succ, List.set_cons_zero]
        rw [hJ]
        clear hJ
        gi_wp2
        by_cases kb : isBound C
        · rw [decide_eq_true kb] at HIS HIJ
          by_cases kij : i = j
          · have k1 : ((i : Int) == (j : Int)) = true := by simp; omega
            have kd : decide (i ≠ j) = false := by simpa using kij
            rw [kd] at HIJ
            by_cases kc : C = 0
            · have k2 : (C != 0) = false := by simp [kc]
              rw [decide_eq_true kc] at HIJ
              by_cases kd2 : C = D
              · have k9 : (C != D) = false := by simp [kd2]
                rw [decide_eq_true kd2] at HIJ
                have HNX := Lib.hid (fm_next HIJ.out.1 (HIJ.out.2.1.trans rfl))
                clear kb kd2 kij kd kc
                refine wp_region_round (by kernel_rfl) (by kernel_rfl) ?lo ?_
                case lo => rintro ⟨_, _, h⟩; exact h
                refine wpAny_vals [22, 23, 24, 25, 26, 27, 28, 29, 30, 31, 32, 33, 34, 35, 36, 37, 38, 39, 40, 41, 42, 43, 44, 45, 46, 47, 48] [.int .i64 (C : Int), .bool true, .bool false, .bool false, .int .i64 (i : Int), .int .i64 (j : Int), .bool true, .bool true, .int .i64 (C : Int), .bool false, .bool false, .bool false, .bool false, .int .i64 (C : Int), .pointer (some ⟨X, 2, none⟩), .slice (some ⟨b, ob, none⟩) L c, .pointer (some ⟨X, 0, none⟩), .int .i64 (N : Int), .int .i64 (j : Int), .int .i64 (J : Int), .int .i64 (i : Int), .int .i64 (I : Int), .int .i64 (R : Int), .pointer (some ⟨b, ob + R, none⟩), .int .i64 (D : Int), .bool false, .bool false] (fun w' => w' = A2.drew.drew) rfl (by kernel_rfl) (by decide) (by kernel_rfl) ?hs ?he ?hj
                case hj => exact rfl
                case hs =>
                  intro i o ho fr0 hv hx w' hJ
                  have hi : i < 27 := (Array.getElem?_eq_some_iff.1 ho).1
                  have c0 : w'.cell? ⟨X, 0, none⟩ = some (.int .i64 N) := by rw [hJ]; exact HX.out.1
                  have c2 : w'.cell? ⟨X, 2, none⟩ = some (.slice (some ⟨b, ob, none⟩) L c) := by rw [hJ]; exact HX.out.2
                  have cR : w'.cell? ⟨b, ob + R, none⟩ = some (.int .i64 D) := by rw [hJ]; exact HR.out
                  have HJ := Lib.hid hJ
                  clear hJ
                  have hcase : i = 0 ∨ i = 1 ∨ i = 2 ∨ i = 3 ∨ i = 4 ∨ i = 5 ∨ i = 6 ∨ i = 7 ∨ i = 8 ∨ i = 9 ∨ i = 10 ∨ i = 11 ∨ i = 12 ∨ i = 13 ∨ i = 14 ∨ i = 15 ∨ i = 16 ∨ i = 17 ∨ i = 18 ∨ i = 19 ∨ i = 20 ∨ i = 21 ∨ i = 22 ∨ i = 23 ∨ i = 24 ∨ i = 25 ∨ i = 26 := by omega
                  clear hi
                  rcases hcase with rfl | rfl | rfl | rfl | rfl | rfl | rfl | rfl | rfl | rfl | rfl | rfl | rfl | rfl | rfl | rfl | rfl | rfl | rfl | rfl | rfl | rfl | rfl | rfl | rfl | rfl | rfl
                  · obtain rfl := Option.some.inj ho.symm
                    clear ho
                    have x5 : fr0.tmps[(5 : Nat)]? = some (.int .i64 (C : Int)) := hx 5 (by decide)
                    clear hv hx
                    refine wpOp_step rfl (fun K hK => ?_)
                    go_simp
                    exact hK _ _ ⟨rfl, HJ.out⟩
                  · obtain rfl := Option.some.inj ho.symm
                    clear ho
                    have d0 : fr0.tmps[(22 : Nat)]? = some (.int .i64 (C : Int)) := hv ⟨0, .data⟩ (by simp) rfl
                    clear hv hx
                    refine wpOp_step rfl (fun K hK => ?_)
                    go_simp
                    go_at_call 60
                    refine (HIS.out _).mono ?_
                    rintro e w2 ⟨rfl, rfl⟩
                    exact hK _ _ ⟨rfl, HJ.out⟩
                  · obtain rfl := Option.some.inj ho.symm
                    clear ho
                    have d1 : fr0.tmps[(23 : Nat)]? = some (.bool true) := hv ⟨1, .data⟩ (by simp) rfl
                    clear hv hx
                    refine wpOp_step rfl (fun K hK => ?_)
                    go_simp
                    exact hK _ _ ⟨rfl, HJ.out⟩
                  · obtain rfl := Option.some.inj ho.symm
                    clear ho
                    have d2 : fr0.tmps[(24 : Nat)]? = some (.bool false) := hv ⟨2, .data⟩ (by simp) rfl
                    clear hv hx
                    refine wpOp_step rfl (fun K hK => ?_)
                    go_simp
                    exact hK _ _ ⟨rfl, HJ.out⟩
                  · obtain rfl := Option.some.inj ho.symm
                    clear ho
                    have d3 : fr0.tmps[(25 : Nat)]? = some (.bool false) := hv ⟨3, .guard⟩ (by simp) rfl
                    have x3 : fr0.tmps[(3 : Nat)]? = some (.int .i64 (i : Int)) := hx 3 (by decide)
                    clear hv hx
                    refine wpOp_step rfl (fun K hK => ?_)
                    go_simp
                    exact hK _ _ ⟨rfl, HJ.out⟩
                  · obtain rfl := Option.some.inj ho.symm
                    clear ho
                    have d3 : fr0.tmps[(25 : Nat)]? = some (.bool false) := hv ⟨3, .guard⟩ (by simp) rfl
                    have x4 : fr0.tmps[(4 : Nat)]? = some (.int .i64 (j : Int)) := hx 4 (by decide)
                    clear hv hx
                    refine wpOp_step rfl (fun K hK => ?_)
                    go_simp
                    exact hK _ _ ⟨rfl, HJ.out⟩
                  · obtain rfl := Option.some.inj ho.symm
                    clear ho
                    have d4 : fr0.tmps[(26 : Nat)]? = some (.int .i64 (i : Int)) := hv ⟨4, .data⟩ (by simp) rfl
                    have d5 : fr0.tmps[(27 : Nat)]? = some (.int .i64 (j : Int)) := hv ⟨5, .data⟩ (by simp) rfl
                    have d3 : fr0.tmps[(25 : Nat)]? = some (.bool false) := hv ⟨3, .guard⟩ (by simp) rfl
                    clear hv hx
                    refine wpOp_step rfl (fun K hK => ?_)
                    go_simp
                    exact hK _ _ ⟨rfl, HJ.out⟩
                  · obtain rfl := Option.some.inj ho.symm
                    clear ho
                    have d6 : fr0.tmps[(28 : Nat)]? = some (.bool true) := hv ⟨6, .data⟩ (by simp) rfl
                    have d3 : fr0.tmps[(25 : Nat)]? = some (.bool false) := hv ⟨3, .guard⟩ (by simp) rfl
                    clear hv hx
                    refine wpOp_step rfl (fun K hK => ?_)
                    go_simp
                    exact hK _ _ ⟨rfl, HJ.out⟩
                  · obtain rfl := Option.some.inj ho.symm
                    clear ho
                    have d7 : fr0.tmps[(29 : Nat)]? = some (.bool true) := hv ⟨7, .guard⟩ (by simp) rfl
                    have x5 : fr0.tmps[(5 : Nat)]? = some (.int .i64 (C : Int)) := hx 5 (by decide)
                    clear hv hx
                    refine wpOp_step rfl (fun K hK => ?_)
                    go_simp
                    exact hK _ _ ⟨rfl, HJ.out⟩
                  · obtain rfl := Option.some.inj ho.symm
                    clear ho
                    have d8 : fr0.tmps[(30 : Nat)]? = some (.int .i64 (C : Int)) := hv ⟨8, .data⟩ (by simp) rfl
                    have d7 : fr0.tmps[(29 : Nat)]? = some (.bool true) := hv ⟨7, .guard⟩ (by simp) rfl
                    clear hv hx
                    refine wpOp_step rfl (fun K hK => ?_)
                    go_simp
                    exact hK _ _ ⟨rfl, HJ.out⟩
                  · obtain rfl := Option.some.inj ho.symm
                    clear ho
                    have d7 : fr0.tmps[(29 : Nat)]? = some (.bool true) := hv ⟨7, .data⟩ (by simp) rfl
                    have d9 : fr0.tmps[(31 : Nat)]? = some (.bool false) := hv ⟨9, .data⟩ (by simp) rfl
                    have d3 : fr0.tmps[(25 : Nat)]? = some (.bool false) := hv ⟨3, .guard⟩ (by simp) rfl
                    clear hv hx
                    refine wpOp_step rfl (fun K hK => ?_)
                    go_simp
                    exact hK _ _ ⟨rfl, HJ.out⟩
                  · obtain rfl := Option.some.inj ho.symm
                    clear ho
                    have d3 : fr0.tmps[(25 : Nat)]? = some (.bool false) := hv ⟨3, .data⟩ (by simp) rfl
                    have d10 : fr0.tmps[(32 : Nat)]? = some (.bool false) := hv ⟨10, .data⟩ (by simp) rfl
                    clear hv hx
                    refine wpOp_step rfl (fun K hK => ?_)
                    go_simp
                    exact hK _ _ ⟨rfl, HJ.out⟩
                  · obtain rfl := Option.some.inj ho.symm
                    clear ho
                    have d11 : fr0.tmps[(33 : Nat)]? = some (.bool false) := hv ⟨11, .data⟩ (by simp) rfl
                    clear hv hx
                    refine wpOp_step rfl (fun K hK => ?_)
                    go_simp
                    exact hK _ _ ⟨rfl, HJ.out⟩
                  · obtain rfl := Option.some.inj ho.symm
                    clear ho
                    have d12 : fr0.tmps[(34 : Nat)]? = some (.bool false) := hv ⟨12, .guard⟩ (by simp) rfl
                    have x5 : fr0.tmps[(5 : Nat)]? = some (.int .i64 (C : Int)) := hx 5 (by decide)
                    clear hv hx
                    refine wpOp_step rfl (fun K hK => ?_)
                    go_simp
                    exact hK _ _ ⟨rfl, HJ.out⟩
                  · obtain rfl := Option.some.inj ho.symm
                    clear ho
                    have d12 : fr0.tmps[(34 : Nat)]? = some (.bool false) := hv ⟨12, .guard⟩ (by simp) rfl
                    have x1 : fr0.tmps[(1 : Nat)]? = some (.pointer (some ⟨X, 0, none⟩)) := hx 1 (by decide)
                    clear hv hx
                    refine wpOp_step rfl (fun K hK => ?_)
                    go_simp
                    exact hK _ _ ⟨rfl, HJ.out⟩
                  · obtain rfl := Option.some.inj ho.symm
                    clear ho
                    have d14 : fr0.tmps[(36 : Nat)]? = some (.pointer (some ⟨X, 2, none⟩)) := hv ⟨14, .data⟩ (by simp) rfl
                    have d12 : fr0.tmps[(34 : Nat)]? = some (.bool false) := hv ⟨12, .guard⟩ (by simp) rfl
                    clear hv hx
                    refine wpOp_step rfl (fun K hK => ?_)
                    go_simp
                    exact hK _ _ ⟨rfl, HJ.out⟩
                  · obtain rfl := Option.some.inj ho.symm
                    clear ho
                    have d12 : fr0.tmps[(34 : Nat)]? = some (.bool false) := hv ⟨12, .guard⟩ (by simp) rfl
                    have x1 : fr0.tmps[(1 : Nat)]? = some (.pointer (some ⟨X, 0, none⟩)) := hx 1 (by decide)
                    clear hv hx
                    refine wpOp_step rfl (fun K hK => ?_)
                    go_simp
                    exact hK _ _ ⟨rfl, HJ.out⟩
                  · obtain rfl := Option.some.inj ho.symm
                    clear ho
                    have d16 : fr0.tmps[(38 : Nat)]? = some (.pointer (some ⟨X, 0, none⟩)) := hv ⟨16, .data⟩ (by simp) rfl
                    have d12 : fr0.tmps[(34 : Nat)]? = some (.bool false) := hv ⟨12, .guard⟩ (by simp) rfl
                    clear hv hx
                    refine wpOp_step rfl (fun K hK => ?_)
                    go_simp
                    exact hK _ _ ⟨rfl, HJ.out⟩
                  · obtain rfl := Option.some.inj ho.symm
                    clear ho
                    have d12 : fr0.tmps[(34 : Nat)]? = some (.bool false) := hv ⟨12, .guard⟩ (by simp) rfl
                    have x4 : fr0.tmps[(4 : Nat)]? = some (.int .i64 (j : Int)) := hx 4 (by decide)
                    clear hv hx
                    refine wpOp_step rfl (fun K hK => ?_)
                    go_simp
                    exact hK _ _ ⟨rfl, HJ.out⟩
                  · obtain rfl := Option.some.inj ho.symm
                    clear ho
                    have d18 : fr0.tmps[(40 : Nat)]? = some (.int .i64 (j : Int)) := hv ⟨18, .data⟩ (by simp) rfl
                    have d12 : fr0.tmps[(34 : Nat)]? = some (.bool false) := hv ⟨12, .guard⟩ (by simp) rfl
                    clear hv hx
                    refine wpOp_step rfl (fun K hK => ?_)
                    go_simp
                    go_at_call 46
                    refine (HAJ.out _).mono ?_
                    rintro e w2 ⟨rfl, rfl⟩
                    exact hK _ _ ⟨rfl, HJ.out⟩
                  · obtain rfl := Option.some.inj ho.symm
                    clear ho
                    have d12 : fr0.tmps[(34 : Nat)]? = some (.bool false) := hv ⟨12, .guard⟩ (by simp) rfl
                    have x3 : fr0.tmps[(3 : Nat)]? = some (.int .i64 (i : Int)) := hx 3 (by decide)
                    clear hv hx
                    refine wpOp_step rfl (fun K hK => ?_)
                    go_simp
                    exact hK _ _ ⟨rfl, HJ.out⟩
                  · obtain rfl := Option.some.inj ho.symm
                    clear ho
                    have d20 : fr0.tmps[(42 : Nat)]? = some (.int .i64 (i : Int)) := hv ⟨20, .data⟩ (by simp) rfl
                    have d12 : fr0.tmps[(34 : Nat)]? = some (.bool false) := hv ⟨12, .guard⟩ (by simp) rfl
                    clear hv hx
                    refine wpOp_step rfl (fun K hK => ?_)
                    go_simp
                    go_at_call 46
                    refine (HAI.out _).mono ?_
                    rintro e w2 ⟨rfl, rfl⟩
                    exact hK _ _ ⟨rfl, HJ.out⟩
                  · obtain rfl := Option.some.inj ho.symm
                    clear ho
                    have d17 : fr0.tmps[(39 : Nat)]? = some (.int .i64 (N : Int)) := hv ⟨17, .data⟩ (by simp) rfl
                    have d19 : fr0.tmps[(41 : Nat)]? = some (.int .i64 (J : Int)) := hv ⟨19, .data⟩ (by simp) rfl
                    have d21 : fr0.tmps[(43 : Nat)]? = some (.int .i64 (I : Int)) := hv ⟨21, .data⟩ (by simp) rfl
                    have d12 : fr0.tmps[(34 : Nat)]? = some (.bool false) := hv ⟨12, .guard⟩ (by simp) rfl
                    clear hv hx
                    refine wpOp_step rfl (fun K hK => ?_)
                    go_simp
                    go_at_call 42
                    refine (HIX2.out _).mono ?_
                    rintro e w2 ⟨rfl, rfl⟩
                    exact hK _ _ ⟨rfl, HJ.out⟩
                  · obtain rfl := Option.some.inj ho.symm
                    clear ho
                    have d15 : fr0.tmps[(37 : Nat)]? = some (.slice (some ⟨b, ob, none⟩) L c) := hv ⟨15, .data⟩ (by simp) rfl
                    have d22 : fr0.tmps[(44 : Nat)]? = some (.int .i64 (R : Int)) := hv ⟨22, .data⟩ (by simp) rfl
                    have d12 : fr0.tmps[(34 : Nat)]? = some (.bool false) := hv ⟨12, .guard⟩ (by simp) rfl
                    clear hv hx
                    refine wpOp_step rfl (fun K hK => ?_)
                    go_simp
                    exact hK _ _ ⟨rfl, HJ.out⟩
                  · obtain rfl := Option.some.inj ho.symm
                    clear ho
                    have d23 : fr0.tmps[(45 : Nat)]? = some (.pointer (some ⟨b, ob + R, none⟩)) := hv ⟨23, .data⟩ (by simp) rfl
                    have d12 : fr0.tmps[(34 : Nat)]? = some (.bool false) := hv ⟨12, .guard⟩ (by simp) rfl
                    clear hv hx
                    refine wpOp_step rfl (fun K hK => ?_)
                    go_simp
                    exact hK _ _ ⟨rfl, HJ.out⟩
                  · obtain rfl := Option.some.inj ho.symm
                    clear ho
                    have d13 : fr0.tmps[(35 : Nat)]? = some (.int .i64 (C : Int)) := hv ⟨13, .data⟩ (by simp) rfl
                    have d24 : fr0.tmps[(46 : Nat)]? = some (.int .i64 (D : Int)) := hv ⟨24, .data⟩ (by simp) rfl
                    have d12 : fr0.tmps[(34 : Nat)]? = some (.bool false) := hv ⟨12, .guard⟩ (by simp) rfl
                    clear hv hx
                    refine wpOp_step rfl (fun K hK => ?_)
                    go_simp
                    exact hK _ _ ⟨rfl, HJ.out⟩
                  · obtain rfl := Option.some.inj ho.symm
                    clear ho
                    have d12 : fr0.tmps[(34 : Nat)]? = some (.bool false) := hv ⟨12, .data⟩ (by simp) rfl
                    have d25 : fr0.tmps[(47 : Nat)]? = some (.bool false) := hv ⟨25, .data⟩ (by simp) rfl
                    clear hv hx
                    refine wpOp_step rfl (fun K hK => ?_)
                    go_simp
                    exact hK _ _ ⟨rfl, HJ.out⟩
                case he =>
                  intro w' hJ
                  simp only [putF, valsAt, Nat.reduceAdd, Nat.zero_add, List.getD_cons_zero, List.getD_cons_succ, Act.put, List.setIfInBounds_toArray, List.set_cons_succ, List.set_cons_zero]
                  rw [hJ]
                  clear hJ
                  gi_wp2
                  exact ⟨((Above.refl _ A2).drew).drew, HNX.out, HA.out.1.drew2, HA.out.2.1.drew2, HA.out.2.2.1, (HA.out.2.2.2.drew).drew⟩
              · have k9 : (C != D) = true := by simpa using kd2
                rw [decide_eq_false kd2] at HIJ
                have HBADM := Lib.hid (okM_false HIJ.out.2.2.1 HIJ.out.2.2.2 (HIJ.out.2.1.trans rfl))
                clear kb kd2 kij kd kc
                refine wp_region_round (by kernel_rfl) (by kernel_rfl) ?lo ?_
                case lo => rintro ⟨_, _, h⟩; exact h
                refine wpAny_vals [22, 23, 24, 25, 26, 27, 28, 29, 30, 31, 32, 33, 34, 35, 36, 37, 38, 39, 40, 41, 42, 43, 44, 45, 46, 47, 48] [.int .i64 (C : Int), .bool true, .bool false, .bool false, .int .i64 (i : Int), .int .i64 (j : Int), .bool true, .bool true, .int .i64 (C : Int), .bool false, .bool false, .bool false, .bool false, .int .i64 (C : Int), .pointer (some ⟨X, 2, none⟩), .slice (some ⟨b, ob, none⟩) L c, .pointer (some ⟨X, 0, none⟩), .int .i64 (N : Int), .int .i64 (j : Int), .int .i64 (J : Int), .int .i64 (i : Int), .int .i64 (I : Int), .int .i64 (R : Int), .pointer (some ⟨b, ob + R, none⟩), .int .i64 (D : Int), .bool true, .bool true] (fun w' => w' = A2.drew.drew) rfl (by kernel_rfl) (by decide) (by kernel_rfl) ?hs ?he ?hj
                case hj => exact rfl
                case hs =>
                  intro i o ho fr0 hv hx w' hJ
                  have hi : i < 27 := (Array.getElem?_eq_some_iff.1 ho).1
                  have c0 : w'.cell? ⟨X, 0, none⟩ = some (.int .i64 N) := by rw [hJ]; exact HX.out.1
                  have c2 : w'.cell? ⟨X, 2, none⟩ = some (.slice (some ⟨b, ob, none⟩) L c) := by rw [hJ]; exact HX.out.2
                  have cR : w'.cell? ⟨b, ob + R, none⟩ = some (.int .i64 D) := by rw [hJ]; exact HR.out
                  have HJ := Lib.hid hJ
                  clear hJ
                  have hcase : i = 0 ∨ i = 1 ∨ i = 2 ∨ i = 3 ∨ i = 4 ∨ i = 5 ∨ i = 6 ∨ i = 7 ∨ i = 8 ∨ i = 9 ∨ i = 10 ∨ i = 11 ∨ i = 12 ∨ i = 13 ∨ i = 14 ∨ i = 15 ∨ i = 16 ∨ i = 17 ∨ i = 18 ∨ i = 19 ∨ i = 20 ∨ i = 21 ∨ i = 22 ∨ i = 23 ∨ i = 24 ∨ i = 25 ∨ i = 26 := by omega
                  clear hi
                  rcases hcase with rfl | rfl | rfl | rfl | rfl | rfl | rfl | rfl | rfl | rfl | rfl | rfl | rfl | rfl | rfl | rfl | rfl | rfl | rfl | rfl | rfl | rfl | rfl | rfl | rfl | rfl | rfl
                  · obtain rfl := Option.some.inj ho.symm
                    clear ho
                    have x5 : fr0.tmps[(5 : Nat)]? = some (.int .i64 (C : Int)) := hx 5 (by decide)
                    clear hv hx
                    refine wpOp_step rfl (fun K hK => ?_)
                    go_simp
                    exact hK _ _ ⟨rfl, HJ.out⟩
                  · obtain rfl := Option.some.inj ho.symm
                    clear ho
                    have d0 : fr0.tmps[(22 : Nat)]? = some (.int .i64 (C : Int)) := hv ⟨0, .data⟩ (by simp) rfl
                    clear hv hx
                    refine wpOp_step rfl (fun K hK => ?_)
                    go_simp
                    go_at_call 60
                    refine (HIS.out _).mono ?_
                    rintro e w2 ⟨rfl, rfl⟩
                    exact hK _ _ ⟨rfl, HJ.out⟩
                  · obtain rfl := Option.some.inj ho.symm
                    clear ho
                    have d1 : fr0.tmps[(23 : Nat)]? = some (.bool true) := hv ⟨1, .data⟩ (by simp) rfl
                    clear hv hx
                    refine wpOp_step rfl (fun K hK => ?_)
                    go_simp
                    exact hK _ _ ⟨rfl, HJ.out⟩
                  · obtain rfl := Option.some.inj ho.symm
                    clear ho
                    have d2 : fr0.tmps[(24 : Nat)]? = some (.bool false) := hv ⟨2, .data⟩ (by simp) rfl
                    clear hv hx
                    refine wpOp_step rfl (fun K hK => ?_)
                    go_simp
                    exact hK _ _ ⟨rfl, HJ.out⟩
                  · obtain rfl := Option.some.inj ho.symm
                    clear ho
                    have d3 : fr0.tmps[(25 : Nat)]? = some (.bool false) := hv ⟨3, .guard⟩ (by simp) rfl
                    have x3 : fr0.tmps[(3 : Nat)]? = some (.int .i64 (i : Int)) := hx 3 (by decide)
                    clear hv hx
                    refine wpOp_step rfl (fun K hK => ?_)
                    go_simp
                    exact hK _ _ ⟨rfl, HJ.out⟩
                  · obtain rfl := Option.some.inj ho.symm
                    clear ho
                    have d3 : fr0.tmps[(25 : Nat)]? = some (.bool false) := hv ⟨3, .guard⟩ (by simp) rfl
                    have x4 : fr0.tmps[(4 : Nat)]? = some (.int .i64 (j : Int)) := hx 4 (by decide)
                    clear hv hx
                    refine wpOp_step rfl (fun K hK => ?_)
                    go_simp
                    exact hK _ _ ⟨rfl, HJ.out⟩
                  · obtain rfl := Option.some.inj ho.symm
                    clear ho
                    have d4 : fr0.tmps[(26 : Nat)]? = some (.int .i64 (i : Int)) := hv ⟨4, .data⟩ (by simp) rfl
                    have d5 : fr0.tmps[(27 : Nat)]? = some (.int .i64 (j : Int)) := hv ⟨5, .data⟩ (by simp) rfl
                    have d3 : fr0.tmps[(25 : Nat)]? = some (.bool false) := hv ⟨3, .guard⟩ (by simp) rfl
                    clear hv hx
                    refine wpOp_step rfl (fun K hK => ?_)
                    go_simp
                    exact hK _ _ ⟨rfl, HJ.out⟩
                  · obtain rfl := Option.some.inj ho.symm
                    clear ho
                    have d6 : fr0.tmps[(28 : Nat)]? = some (.bool true) := hv ⟨6, .data⟩ (by simp) rfl
                    have d3 : fr0.tmps[(25 : Nat)]? = some (.bool false) := hv ⟨3, .guard⟩ (by simp) rfl
                    clear hv hx
                    refine wpOp_step rfl (fun K hK => ?_)
                    go_simp
                    exact hK _ _ ⟨rfl, HJ.out⟩
                  · obtain rfl := Option.some.inj ho.symm
                    clear ho
                    have d7 : fr0.tmps[(29 : Nat)]? = some (.bool true) := hv ⟨7, .guard⟩ (by simp) rfl
                    have x5 : fr0.tmps[(5 : Nat)]? = some (.int .i64 (C : Int)) := hx 5 (by decide)
                    clear hv hx
                    refine wpOp_step rfl (fun K hK => ?_)
                    go_simp
                    exact hK _ _ ⟨rfl, HJ.out⟩
                  · obtain rfl := Option.some.inj ho.symm
                    clear ho
                    have d8 : fr0.tmps[(30 : Nat)]? = some (.int .i64 (C : Int)) := hv ⟨8, .data⟩ (by simp) rfl
                    have d7 : fr0.tmps[(29 : Nat)]? = some (.bool true) := hv ⟨7, .guard⟩ (by simp) rfl
                    clear hv hx
                    refine wpOp_step rfl (fun K hK => ?_)
                    go_simp
                    exact hK _ _ ⟨rfl, HJ.out⟩
                  · obtain rfl := Option.some.inj ho.symm
                    clear ho
                    have d7 : fr0.tmps[(29 : Nat)]? = some (.bool true) := hv ⟨7, .data⟩ (by simp) rfl
                    have d9 : fr0.tmps[(31 : Nat)]? = some (.bool false) := hv ⟨9, .data⟩ (by simp) rfl
                    have d3 : fr0.tmps[(25 : Nat)]? = some (.bool false) := hv ⟨3, .guard⟩ (by simp) rfl
                    clear hv hx
                    refine wpOp_step rfl (fun K hK => ?_)
                    go_simp
                    exact hK _ _ ⟨rfl, HJ.out⟩
                  · obtain rfl := Option.some.inj ho.symm
                    clear ho
                    have d3 : fr0.tmps[(25 : Nat)]? = some (.bool false) := hv ⟨3, .data⟩ (by simp) rfl
                    have d10 : fr0.tmps[(32 : Nat)]? = some (.bool false) := hv ⟨10, .data⟩ (by simp) rfl
                    clear hv hx
                    refine wpOp_step rfl (fun K hK => ?_)
                    go_simp
                    exact hK _ _ ⟨rfl, HJ.out⟩
                  · obtain rfl := Option.some.inj ho.symm
                    clear ho
                    have d11 : fr0.tmps[(33 : Nat)]? = some (.bool false) := hv ⟨11, .data⟩ (by simp) rfl
                    clear hv hx
                    refine wpOp_step rfl (fun K hK => ?_)
                    go_simp
                    exact hK _ _ ⟨rfl, HJ.out⟩
                  · obtain rfl := Option.some.inj ho.symm
                    clear ho
                    have d12 : fr0.tmps[(34 : Nat)]? = some (.bool false) := hv ⟨12, .guard⟩ (by simp) rfl
                    have x5 : fr0.tmps[(5 : Nat)]? = some (.int .i64 (C : Int)) := hx 5 (by decide)
                    clear hv hx
                    refine wpOp_step rfl (fun K hK => ?_)
                    go_simp
                    exact hK _ _ ⟨rfl, HJ.out⟩
                  · obtain rfl := Option.some.inj ho.symm
                    clear ho
                    have d12 : fr0.tmps[(34 : Nat)]? = some (.bool false) := hv ⟨12, .guard⟩ (by simp) rfl
                    have x1 : fr0.tmps[(1 : Nat)]? = some (.pointer (some ⟨X, 0, none⟩)) := hx 1 (by decide)
                    clear hv hx
                    refine wpOp_step rfl (fun K hK => ?_)
                    go_simp
                    exact hK _ _ ⟨rfl, HJ.out⟩
                  · obtain rfl := Option.some.inj ho.symm
                    clear ho
                    have d14 : fr0.tmps[(36 : Nat)]? = some (.pointer (some ⟨X, 2, none⟩)) := hv ⟨14, .data⟩ (by simp) rfl
                    have d12 : fr0.tmps[(34 : Nat)]? = some (.bool false) := hv ⟨12, .guard⟩ (by simp) rfl
                    clear hv hx
                    refine wpOp_step rfl (fun K hK => ?_)
                    go_simp
                    exact hK _ _ ⟨rfl, HJ.out⟩
                  · obtain rfl := Option.some.inj ho.symm
                    clear ho
                    have d12 : fr0.tmps[(34 : Nat)]? = some (.bool false) := hv ⟨12, .guard⟩ (by simp) rfl
                    have x1 : fr0.tmps[(1 : Nat)]? = some (.pointer (some ⟨X, 0, none⟩)) := hx 1 (by decide)
                    clear hv hx
                    refine wpOp_step rfl (fun K hK => ?_)
                    go_simp
                    exact hK _ _ ⟨rfl, HJ.out⟩
                  · obtain rfl := Option.some.inj ho.symm
                    clear ho
                    have d16 : fr0.tmps[(38 : Nat)]? = some (.pointer (some ⟨X, 0, none⟩)) := hv ⟨16, .data⟩ (by simp) rfl
                    have d12 : fr0.tmps[(34 : Nat)]? = some (.bool false) := hv ⟨12, .guard⟩ (by simp) rfl
                    clear hv hx
                    refine wpOp_step rfl (fun K hK => ?_)
                    go_simp
                    exact hK _ _ ⟨rfl, HJ.out⟩
                  · obtain rfl := Option.some.inj ho.symm
                    clear ho
                    have d12 : fr0.tmps[(34 : Nat)]? = some (.bool false) := hv ⟨12, .guard⟩ (by simp) rfl
                    have x4 : fr0.tmps[(4 : Nat)]? = some (.int .i64 (j : Int)) := hx 4 (by decide)
                    clear hv hx
                    refine wpOp_step rfl (fun K hK => ?_)
                    go_simp
                    exact hK _ _ ⟨rfl, HJ.out⟩
                  · obtain rfl := Option.some.inj ho.symm
                    clear ho
                    have d18 : fr0.tmps[(40 : Nat)]? = some (.int .i64 (j : Int)) := hv ⟨18, .data⟩ (by simp) rfl
                    have d12 : fr0.tmps[(34 : Nat)]? = some (.bool false) := hv ⟨12, .guard⟩ (by simp) rfl
                    clear hv hx
                    refine wpOp_step rfl (fun K hK => ?_)
                    go_simp
                    go_at_call 46
                    refine (HAJ.out _).mono ?_
                    rintro e w2 ⟨rfl, rfl⟩
                    exact hK _ _ ⟨rfl, HJ.out⟩
                  · obtain rfl := Option.some.inj ho.symm
                    clear ho
                    have d12 : fr0.tmps[(34 : Nat)]? = some (.bool false) := hv ⟨12, .guard⟩ (by simp) rfl
                    have x3 : fr0.tmps[(3 : Nat)]? = some (.int .i64 (i : Int)) := hx 3 (by decide)
                    clear hv hx
                    refine wpOp_step rfl (fun K hK => ?_)
                    go_simp
                    exact hK _ _ ⟨rfl, HJ.out⟩
                  · obtain rfl := Option.some.inj ho.symm
                    clear ho
                    have d20 : fr0.tmps[(42 : Nat)]? = some (.int .i64 (i : Int)) := hv ⟨20, .data⟩ (by simp) rfl
                    have d12 : fr0.tmps[(34 : Nat)]? = some (.bool false) := hv ⟨12, .guard⟩ (by simp) rfl
                    clear hv hx
                    refine wpOp_step rfl (fun K hK => ?_)
                    go_simp
                    go_at_call 46
                    refine (HAI.out _).mono ?_
                    rintro e w2 ⟨rfl, rfl⟩
                    exact hK _ _ ⟨rfl, HJ.out⟩
                  · obtain rfl := Option.some.inj ho.symm
                    clear ho
                    have d17 : fr0.tmps[(39 : Nat)]? = some (.int .i64 (N : Int)) := hv ⟨17, .data⟩ (by simp) rfl
                    have d19 : fr0.tmps[(41 : Nat)]? = some (.int .i64 (J : Int)) := hv ⟨19, .data⟩ (by simp) rfl
                    have d21 : fr0.tmps[(43 : Nat)]? = some (.int .i64 (I : Int)) := hv ⟨21, .data⟩ (by simp) rfl
                    have d12 : fr0.tmps[(34 : Nat)]? = some (.bool false) := hv ⟨12, .guard⟩ (by simp) rfl
                    clear hv hx
                    refine wpOp_step rfl (fun K hK => ?_)
                    go_simp
                    go_at_call 42
                    refine (HIX2.out _).mono ?_
                    rintro e w2 ⟨rfl, rfl⟩
                    exact hK _ _ ⟨rfl, HJ.out⟩
                  · obtain rfl := Option.some.inj ho.symm
                    clear ho
                    have d15 : fr0.tmps[(37 : Nat)]? = some (.slice (some ⟨b, ob, none⟩) L c) := hv ⟨15, .data⟩ (by simp) rfl
                    have d22 : fr0.tmps[(44 : Nat)]? = some (.int .i64 (R : Int)) := hv ⟨22, .data⟩ (by simp) rfl
                    have d12 : fr0.tmps[(34 : Nat)]? = some (.bool false) := hv ⟨12, .guard⟩ (by simp) rfl
                    clear hv hx
                    refine wpOp_step rfl (fun K hK => ?_)
                    go_simp
                    exact hK _ _ ⟨rfl, HJ.out⟩
                  · obtain rfl := Option.some.inj ho.symm
                    clear ho
                    have d23 : fr0.tmps[(45 : Nat)]? = some (.pointer (some ⟨b, ob + R, none⟩)) := hv ⟨23, .data⟩ (by simp) rfl
                    have d12 : fr0.tmps[(34 : Nat)]? = some (.bool false) := hv ⟨12, .guard⟩ (by simp) rfl
                    clear hv hx
                    refine wpOp_step rfl (fun K hK => ?_)
                    go_simp
                    exact hK _ _ ⟨rfl, HJ.out⟩
                  · obtain rfl := Option.some.inj ho.symm
                    clear ho
                    have d13 : fr0.tmps[(35 : Nat)]? = some (.int .i64 (C : Int)) := hv ⟨13, .data⟩ (by simp) rfl
                    have d24 : fr0.tmps[(46 : Nat)]? = some (.int .i64 (D : Int)) := hv ⟨24, .data⟩ (by simp) rfl
                    have d12 : fr0.tmps[(34 : Nat)]? = some (.bool false) := hv ⟨12, .guard⟩ (by simp) rfl
                    clear hv hx
                    refine wpOp_step rfl (fun K hK => ?_)
                    go_simp
                    exact hK _ _ ⟨rfl, HJ.out⟩
                  · obtain rfl := Option.some.inj ho.symm
                    clear ho
                    have d12 : fr0.tmps[(34 : Nat)]? = some (.bool false) := hv ⟨12, .data⟩ (by simp) rfl
                    have d25 : fr0.tmps[(47 : Nat)]? = some (.bool true) := hv ⟨25, .data⟩ (by simp) rfl
                    clear hv hx
                    refine wpOp_step rfl (fun K hK => ?_)
                    go_simp
                    exact hK _ _ ⟨rfl, HJ.out⟩
                case he =>
                  intro w' hJ
                  simp only [putF, valsAt, Nat.reduceAdd, Nat.zero_add, List.getD_cons_zero, List.getD_cons_succ, Act.put, List.setIfInBounds_toArray, List.set_cons_succ, List.set_cons_zero]
                  have hRb := (HA.out.2.1.drew2).free 0
                  have hRc := (HA.out.2.1.drew2).cell 0
                  rw [hJ]
                  clear hJ
                  gi_wp2
                  exact ⟨(((Above.refl _ A2).drew).drew).setCell (by simp; omega) _, rfl, HBADM.out, (HA.out.2.1.drew2).set 0 (.bool false), ((HA.out.2.2.2.drew).drew).setCell (by simp) _⟩
            · have k2 : (C != 0) = true := by simpa using kc
              rw [decide_eq_false kc] at HIJ
              have HBADM := Lib.hid (okM_false HIJ.out.2.2.1 HIJ.out.2.2.2 (HIJ.out.2.1.trans rfl))
              clear kb kij kd kc
              refine wp_region_round (by kernel_rfl) (by kernel_rfl) ?lo ?_
              case lo => rintro ⟨_, _, h⟩; exact h
              refine wpAny_vals [22, 23, 24, 25, 26, 27, 28, 29, 30, 31, 32, 33, 34, 35, 36, 37, 38, 39, 40, 41, 42, 43, 44, 45, 46, 47, 48] [.int .i64 (C : Int), .bool true, .bool false, .bool false, .int .i64 (i : Int), .int .i64 (j : Int), .bool true, .bool true, .int .i64 (C : Int), .bool true, .bool true, .bool true, .bool true, undef, undef, undef, undef, undef, undef, undef, undef, undef, undef, undef, undef, undef, .bool true] (fun w' => w' = A2.drew.drew) rfl (by kernel_rfl) (by decide) (by kernel_rfl) ?hs ?he ?hj
              case hj => exact rfl
              case hs =>
                intro i o ho fr0 hv hx w' hJ
                have hi : i < 27 := (Array.getElem?_eq_some_iff.1 ho).1
                have c0 : w'.cell? ⟨X, 0, none⟩ = some (.int .i64 N) := by rw [hJ]; exact HX.out.1
                have c2 : w'.cell? ⟨X, 2, none⟩ = some (.slice (some ⟨b, ob, none⟩) L c) := by rw [hJ]; exact HX.out.2
                have cR : w'.cell? ⟨b, ob + R, none⟩ = some (.int .i64 D) := by rw [hJ]; exact HR.out
                have HJ := Lib.hid hJ
                clear hJ
                have hcase : i = 0 ∨ i = 1 ∨ i = 2 ∨ i = 3 ∨ i = 4 ∨ i = 5 ∨ i = 6 ∨ i = 7 ∨ i = 8 ∨ i = 9 ∨ i = 10 ∨ i = 11 ∨ i = 12 ∨ i = 13 ∨ i = 14 ∨ i = 15 ∨ i = 16 ∨ i = 17 ∨ i = 18 ∨ i = 19 ∨ i = 20 ∨ i = 21 ∨ i = 22 ∨ i = 23 ∨ i = 24 ∨ i = 25 ∨ i = 26 := by omega
                clear hi
                rcases hcase with rfl | rfl | rfl | rfl | rfl | rfl | rfl | rfl | rfl | rfl | rfl | rfl | rfl | rfl | rfl | rfl | rfl | rfl | rfl | rfl | rfl | rfl | rfl | rfl | rfl | rfl | rfl
                · obtain rfl := Option.some.inj ho.symm
                  clear ho
                  have x5 : fr0.tmps[(5 : Nat)]? = some (.int .i64 (C : Int)) := hx 5 (by decide)
                  clear hv hx
                  refine wpOp_step rfl (fun K hK => ?_)
                  go_simp
                  exact hK _ _ ⟨rfl, HJ.out⟩
                · obtain rfl := Option.some.inj ho.symm
                  clear ho
                  have d0 : fr0.tmps[(22 : Nat)]? = some (.int .i64 (C : Int)) := hv ⟨0, .data⟩ (by simp) rfl
                  clear hv hx
                  refine wpOp_step rfl (fun K hK => ?_)
                  go_simp
                  go_at_call 60
                  refine (HIS.out _).mono ?_
                  rintro e w2 ⟨rfl, rfl⟩
                  exact hK _ _ ⟨rfl, HJ.out⟩
                · obtain rfl := Option.some.inj ho.symm
                  clear ho
                  have d1 : fr0.tmps[(23 : Nat)]? = some (.bool true) := hv ⟨1, .data⟩ (by simp) rfl
                  clear hv hx
                  refine wpOp_step rfl (fun K hK => ?_)
                  go_simp
                  exact hK _ _ ⟨rfl, HJ.out⟩
                · obtain rfl := Option.some.inj ho.symm
                  clear ho
                  have d2 : fr0.tmps[(24 : Nat)]? = some (.bool false) := hv ⟨2, .data⟩ (by simp) rfl
                  clear hv hx
                  refine wpOp_step rfl (fun K hK => ?_)
                  go_simp
                  exact hK _ _ ⟨rfl, HJ.out⟩
                · obtain rfl := Option.some.inj ho.symm
                  clear ho
                  have d3 : fr0.tmps[(25 : Nat)]? = some (.bool false) := hv ⟨3, .guard⟩ (by simp) rfl
                  have x3 : fr0.tmps[(3 : Nat)]? = some (.int .i64 (i : Int)) := hx 3 (by decide)
                  clear hv hx
                  refine wpOp_step rfl (fun K hK => ?_)
                  go_simp
                  exact hK _ _ ⟨rfl, HJ.out⟩
                · obtain rfl := Option.some.inj ho.symm
                  clear ho
                  have d3 : fr0.tmps[(25 : Nat)]? = some (.bool false) := hv ⟨3, .guard⟩ (by simp) rfl
                  have x4 : fr0.tmps[(4 : Nat)]? = some (.int .i64 (j : Int)) := hx 4 (by decide)
                  clear hv hx
                  refine wpOp_step rfl (fun K hK => ?_)
                  go_simp
                  exact hK _ _ ⟨rfl, HJ.out⟩
                · obtain rfl := Option.some.inj ho.symm
                  clear ho
                  have d4 : fr0.tmps[(26 : Nat)]? = some (.int .i64 (i : Int)) := hv ⟨4, .data⟩ (by simp) rfl
                  have d5 : fr0.tmps[(27 : Nat)]? = some (.int .i64 (j : Int)) := hv ⟨5, .data⟩ (by simp) rfl
                  have d3 : fr0.tmps[(25 : Nat)]? = some (.bool false) := hv ⟨3, .guard⟩ (by simp) rfl
                  clear hv hx
                  refine wpOp_step rfl (fun K hK => ?_)
                  go_simp
                  exact hK _ _ ⟨rfl, HJ.out⟩
                · obtain rfl := Option.some.inj ho.symm
                  clear ho
                  have d6 : fr0.tmps[(28 : Nat)]? = some (.bool true) := hv ⟨6, .data⟩ (by simp) rfl
                  have d3 : fr0.tmps[(25 : Nat)]? = some (.bool false) := hv ⟨3, .guard⟩ (by simp) rfl
                  clear hv hx
                  refine wpOp_step rfl (fun K hK => ?_)
                  go_simp
                  exact hK _ _ ⟨rfl, HJ.out⟩
                · obtain rfl := Option.some.inj ho.symm
                  clear ho
                  have d7 : fr0.tmps[(29 : Nat)]? = some (.bool true) := hv ⟨7, .guard⟩ (by simp) rfl
                  have x5 : fr0.tmps[(5 : Nat)]? = some (.int .i64 (C : Int)) := hx 5 (by decide)
                  clear hv hx
                  refine wpOp_step rfl (fun K hK => ?_)
                  go_simp
                  exact hK _ _ ⟨rfl, HJ.out⟩
                · obtain rfl := Option.some.inj ho.symm
                  clear ho
                  have d8 : fr0.tmps[(30 : Nat)]? = some (.int .i64 (C : Int)) := hv ⟨8, .data⟩ (by simp) rfl
                  have d7 : fr0.tmps[(29 : Nat)]? = some (.bool true) := hv ⟨7, .guard⟩ (by simp) rfl
                  clear hv hx
                  refine wpOp_step rfl (fun K hK => ?_)
                  go_simp
                  exact hK _ _ ⟨rfl, HJ.out⟩
                · obtain rfl := Option.some.inj ho.symm
                  clear ho
                  have d7 : fr0.tmps[(29 : Nat)]? = some (.bool true) := hv ⟨7, .data⟩ (by simp) rfl
                  have d9 : fr0.tmps[(31 : Nat)]? = some (.bool true) := hv ⟨9, .data⟩ (by simp) rfl
                  have d3 : fr0.tmps[(25 : Nat)]? = some (.bool false) := hv ⟨3, .guard⟩ (by simp) rfl
                  clear hv hx
                  refine wpOp_step rfl (fun K hK => ?_)
                  go_simp
                  exact hK _ _ ⟨rfl, HJ.out⟩
                · obtain rfl := Option.some.inj ho.symm
                  clear ho
                  have d3 : fr0.tmps[(25 : Nat)]? = some (.bool false) := hv ⟨3, .data⟩ (by simp) rfl
                  have d10 : fr0.tmps[(32 : Nat)]? = some (.bool true) := hv ⟨10, .data⟩ (by simp) rfl
                  clear hv hx
                  refine wpOp_step rfl (fun K hK => ?_)
                  go_simp
                  exact hK _ _ ⟨rfl, HJ.out⟩
                · obtain rfl := Option.some.inj ho.symm
                  clear ho
                  have d11 : fr0.tmps[(33 : Nat)]? = some (.bool true) := hv ⟨11, .data⟩ (by simp) rfl
                  clear hv hx
                  refine wpOp_step rfl (fun K hK => ?_)
                  go_simp
                  exact hK _ _ ⟨rfl, HJ.out⟩
                · obtain rfl := Option.some.inj ho.symm
                  clear ho
                  have d12 : fr0.tmps[(34 : Nat)]? = some (.bool true) := hv ⟨12, .guard⟩ (by simp) rfl
                  have x5 : fr0.tmps[(5 : Nat)]? = some (.int .i64 (C : Int)) := hx 5 (by decide)
                  clear hv hx
                  refine wpOp_step rfl (fun K hK => ?_)
                  go_simp
                  exact hK _ _ ⟨rfl, HJ.out⟩
                · obtain rfl := Option.some.inj ho.symm
                  clear ho
                  have d12 : fr0.tmps[(34 : Nat)]? = some (.bool true) := hv ⟨12, .guard⟩ (by simp) rfl
                  have x1 : fr0.tmps[(1 : Nat)]? = some (.pointer (some ⟨X, 0, none⟩)) := hx 1 (by decide)
                  clear hv hx
                  refine wpOp_step rfl (fun K hK => ?_)
                  go_simp
                  exact hK _ _ ⟨rfl, HJ.out⟩
                · obtain rfl := Option.some.inj ho.symm
                  clear ho
                  have d14 : fr0.tmps[(36 : Nat)]? = some (undef) := hv ⟨14, .data⟩ (by simp) rfl
                  have d12 : fr0.tmps[(34 : Nat)]? = some (.bool true) := hv ⟨12, .guard⟩ (by simp) rfl
                  clear hv hx
                  refine wpOp_step rfl (fun K hK => ?_)
                  go_simp
                  exact hK _ _ ⟨rfl, HJ.out⟩
                · obtain rfl := Option.some.inj ho.symm
                  clear ho
                  have d12 : fr0.tmps[(34 : Nat)]? = some (.bool true) := hv ⟨12, .guard⟩ (by simp) rfl
                  have x1 : fr0.tmps[(1 : Nat)]? = some (.pointer (some ⟨X, 0, none⟩)) := hx 1 (by decide)
                  clear hv hx
                  refine wpOp_step rfl (fun K hK => ?_)
                  go_simp
                  exact hK _ _ ⟨rfl, HJ.out⟩
                · obtain rfl := Option.some.inj ho.symm
                  clear ho
                  have d16 : fr0.tmps[(38 : Nat)]? = some (undef) := hv ⟨16, .data⟩ (by simp) rfl
                  have d12 : fr0.tmps[(34 : Nat)]? = some (.bool true) := hv ⟨12, .guard⟩ (by simp) rfl
                  clear hv hx
                  refine wpOp_step rfl (fun K hK => ?_)
                  go_simp
                  exact hK _ _ ⟨rfl, HJ.out⟩
                · obtain rfl := Option.some.inj ho.symm
                  clear ho
                  have d12 : fr0.tmps[(34 : Nat)]? = some (.bool true) := hv ⟨12, .guard⟩ (by simp) rfl
                  have x4 : fr0.tmps[(4 : Nat)]? = some (.int .i64 (j : Int)) := hx 4 (by decide)
                  clear hv hx
                  refine wpOp_step rfl (fun K hK => ?_)
                  go_simp
                  exact hK _ _ ⟨rfl, HJ.out⟩
                · obtain rfl := Option.some.inj ho.symm
                  clear ho
                  have d18 : fr0.tmps[(40 : Nat)]? = some (undef) := hv ⟨18, .data⟩ (by simp) rfl
                  have d12 : fr0.tmps[(34 : Nat)]? = some (.bool true) := hv ⟨12, .guard⟩ (by simp) rfl
                  clear hv hx
                  refine wpOp_step rfl (fun K hK => ?_)
                  go_simp
                  exact hK _ _ ⟨rfl, HJ.out⟩
                · obtain rfl := Option.some.inj ho.symm
                  clear ho
                  have d12 : fr0.tmps[(34 : Nat)]? = some (.bool true) := hv ⟨12, .guard⟩ (by simp) rfl
                  have x3 : fr0.tmps[(3 : Nat)]? = some (.int .i64 (i : Int)) := hx 3 (by decide)
                  clear hv hx
                  refine wpOp_step rfl (fun K hK => ?_)
                  go_simp
                  exact hK _ _ ⟨rfl, HJ.out⟩
                · obtain rfl := Option.some.inj ho.symm
                  clear ho
                  have d20 : fr0.tmps[(42 : Nat)]? = some (undef) := hv ⟨20, .data⟩ (by simp) rfl
                  have d12 : fr0.tmps[(34 : Nat)]? = some (.bool true) := hv ⟨12, .guard⟩ (by simp) rfl
                  clear hv hx
                  refine wpOp_step rfl (fun K hK => ?_)
                  go_simp
                  exact hK _ _ ⟨rfl, HJ.out⟩
                · obtain rfl := Option.some.inj ho.symm
                  clear ho
                  have d17 : fr0.tmps[(39 : Nat)]? = some (undef) := hv ⟨17, .data⟩ (by simp) rfl
                  have d19 : fr0.tmps[(41 : Nat)]? = some (undef) := hv ⟨19, .data⟩ (by simp) rfl
                  have d21 : fr0.tmps[(43 : Nat)]? = some (undef) := hv ⟨21, .data⟩ (by simp) rfl
                  have d12 : fr0.tmps[(34 : Nat)]? = some (.bool true) := hv ⟨12, .guard⟩ (by simp) rfl
                  clear hv hx
                  refine wpOp_step rfl (fun K hK => ?_)
                  go_simp
                  exact hK _ _ ⟨rfl, HJ.out⟩
                · obtain rfl := Option.some.inj ho.symm
                  clear ho
                  have d15 : fr0.tmps[(37 : Nat)]? = some (undef) := hv ⟨15, .data⟩ (by simp) rfl
                  have d22 : fr0.tmps[(44 : Nat)]? = some (undef) := hv ⟨22, .data⟩ (by simp) rfl
                  have d12 : fr0.tmps[(34 : Nat)]? = some (.bool true) := hv ⟨12, .guard⟩ (by simp) rfl
                  clear hv hx
                  refine wpOp_step rfl (fun K hK => ?_)
                  go_simp
                  exact hK _ _ ⟨rfl, HJ.out⟩
                · obtain rfl := Option.some.inj ho.symm
                  clear ho
                  have d23 : fr0.tmps[(45 : Nat)]? = some (undef) := hv ⟨23, .data⟩ (by simp) rfl
                  have d12 : fr0.tmps[(34 : Nat)]? = some (.bool true) := hv ⟨12, .guard⟩ (by simp) rfl
                  clear hv hx
                  refine wpOp_step rfl (fun K hK => ?_)
                  go_simp
                  exact hK _ _ ⟨rfl, HJ.out⟩
                · obtain rfl := Option.some.inj ho.symm
                  clear ho
                  have d13 : fr0.tmps[(35 : Nat)]? = some (undef) := hv ⟨13, .data⟩ (by simp) rfl
                  have d24 : fr0.tmps[(46 : Nat)]? = some (undef) := hv ⟨24, .data⟩ (by simp) rfl
                  have d12 : fr0.tmps[(34 : Nat)]? = some (.bool true) := hv ⟨12, .guard⟩ (by simp) rfl
                  clear hv hx
                  refine wpOp_step rfl (fun K hK => ?_)
                  go_simp
                  exact hK _ _ ⟨rfl, HJ.out⟩
                · obtain rfl := Option.some.inj ho.symm
                  clear ho
                  have d12 : fr0.tmps[(34 : Nat)]? = some (.bool true) := hv ⟨12, .data⟩ (by simp) rfl
                  have d25 : fr0.tmps[(47 : Nat)]? = some (undef) := hv ⟨25, .data⟩ (by simp) rfl
                  clear hv hx
                  refine wpOp_step rfl (fun K hK => ?_)
                  go_simp
                  exact hK _ _ ⟨rfl, HJ.out⟩
              case he =>
                intro w' hJ
                simp only [putF, valsAt, Nat.reduceAdd, Nat.zero_add, List.getD_cons_zero, List.getD_cons_succ, Act.put, List.setIfInBounds_toArray, List.set_cons_succ, List.set_cons_zero]
                have hRb := (HA.out.2.1.drew2).free 0
                have hRc := (HA.out.2.1.drew2).cell 0
                rw [hJ]
                clear hJ
                gi_wp2
                exact ⟨(((Above.refl _ A2).drew).drew).setCell (by simp; omega) _, rfl, HBADM.out, (HA.out.2.1.drew2).set 0 (.bool false), ((HA.out.2.2.2.drew).drew).setCell (by simp) _⟩
          · have k1 : ((i : Int) == (j : Int)) = false := by simp; omega
            have kd : decide (i ≠ j) = true := by simpa using kij
            rw [kd] at HIJ
            by_cases kd2 : C = D
            · have k9 : (C != D) = false := by simp [kd2]
              rw [decide_eq_true kd2] at HIJ
              have HNX := Lib.hid (fm_next HIJ.out.1 (HIJ.out.2.1.trans rfl))
              clear kb kd2 kij kd
              refine wp_region_round (by kernel_rfl) (by kernel_rfl) ?lo ?_
              case lo => rintro ⟨_, _, h⟩; exact h
              refine wpAny_vals [22, 23, 24, 25, 26, 27, 28, 29, 30, 31, 32, 33, 34, 35, 36, 37, 38, 39, 40, 41, 42, 43, 44, 45, 46, 47, 48] [.int .i64 (C : Int), .bool true, .bool false, .bool false, .int .i64 (i : Int), .int .i64 (j : Int), .bool false, .bool false, undef, undef, .bool false, .bool false, .bool false, .int .i64 (C : Int), .pointer (some ⟨X, 2, none⟩), .slice (some ⟨b, ob, none⟩) L c, .pointer (some ⟨X, 0, none⟩), .int .i64 (N : Int), .int .i64 (j : Int), .int .i64 (J : Int), .int .i64 (i : Int), .int .i64 (I : Int), .int .i64 (R : Int), .pointer (some ⟨b, ob + R, none⟩), .int .i64 (D : Int), .bool false, .bool false] (fun w' => w' = A2.drew.drew) rfl (by kernel_rfl) (by decide) (by kernel_rfl) ?hs ?he ?hj
              case hj => exact rfl
              case hs =>
                intro i o ho fr0 hv hx w' hJ
                have hi : i < 27 := (Array.getElem?_eq_some_iff.1 ho).1
                have c0 : w'.cell? ⟨X, 0, none⟩ = some (.int .i64 N) := by rw [hJ]; exact HX.out.1
                have c2 : w'.cell? ⟨X, 2, none⟩ = some (.slice (some ⟨b, ob, none⟩) L c) := by rw [hJ]; exact HX.out.2
                have cR : w'.cell? ⟨b, ob + R, none⟩ = some (.int .i64 D) := by rw [hJ]; exact HR.out
                have HJ := Lib.hid hJ
                clear hJ
                have hcase : i = 0 ∨ i = 1 ∨ i = 2 ∨ i = 3 ∨ i = 4 ∨ i = 5 ∨ i = 6 ∨ i = 7 ∨ i = 8 ∨ i = 9 ∨ i = 10 ∨ i = 11 ∨ i = 12 ∨ i = 13 ∨ i = 14 ∨ i = 15 ∨ i = 16 ∨ i = 17 ∨ i = 18 ∨ i = 19 ∨ i = 20 ∨ i = 21 ∨ i = 22 ∨ i = 23 ∨ i = 24 ∨ i = 25 ∨ i = 26 := by omega
                clear hi
                rcases hcase with rfl | rfl | rfl | rfl | rfl | rfl | rfl | rfl | rfl | rfl | rfl | rfl | rfl | rfl | rfl | rfl | rfl | rfl | rfl | rfl | rfl | rfl | rfl | rfl | rfl | rfl | rfl
                · obtain rfl := Option.some.inj ho.symm
                  clear ho
                  have x5 : fr0.tmps[(5 : Nat)]? = some (.int .i64 (C : Int)) := hx 5 (by decide)
                  clear hv hx
                  refine wpOp_step rfl (fun K hK => ?_)
                  go_simp
                  exact hK _ _ ⟨rfl, HJ.out⟩
                · obtain rfl := Option.some.inj ho.symm
                  clear ho
                  have d0 : fr0.tmps[(22 : Nat)]? = some (.int .i64 (C : Int)) := hv ⟨0, .data⟩ (by simp) rfl
                  clear hv hx
                  refine wpOp_step rfl (fun K hK => ?_)
                  go_simp
                  go_at_call 60
                  refine (HIS.out _).mono ?_
                  rintro e w2 ⟨rfl, rfl⟩
                  exact hK _ _ ⟨rfl, HJ.out⟩
                · obtain rfl := Option.some.inj ho.symm
                  clear ho
                  have d1 : fr0.tmps[(23 : Nat)]? = some (.bool true) := hv ⟨1, .data⟩ (by simp) rfl
                  clear hv hx
                  refine wpOp_step rfl (fun K hK => ?_)
                  go_simp
                  exact hK _ _ ⟨rfl, HJ.out⟩
                · obtain rfl := Option.some.inj ho.symm
                  clear ho
                  have d2 : fr0.tmps[(24 : Nat)]? = some (.bool false) := hv ⟨2, .data⟩ (by simp) rfl
                  clear hv hx
                  refine wpOp_step rfl (fun K hK => ?_)
                  go_simp
                  exact hK _ _ ⟨rfl, HJ.out⟩
                · obtain rfl := Option.some.inj ho.symm
                  clear ho
                  have d3 : fr0.tmps[(25 : Nat)]? = some (.bool false) := hv ⟨3, .guard⟩ (by simp) rfl
                  have x3 : fr0.tmps[(3 : Nat)]? = some (.int .i64 (i : Int)) := hx 3 (by decide)
                  clear hv hx
                  refine wpOp_step rfl (fun K hK => ?_)
                  go_simp
                  exact hK _ _ ⟨rfl, HJ.out⟩
                · obtain rfl := Option.some.inj ho.symm
                  clear ho
                  have d3 : fr0.tmps[(25 : Nat)]? = some (.bool false) := hv ⟨3, .guard⟩ (by simp) rfl
                  have x4 : fr0.tmps[(4 : Nat)]? = some (.int .i64 (j : Int)) := hx 4 (by decide)
                  clear hv hx
                  refine wpOp_step rfl (fun K hK => ?_)
                  go_simp
                  exact hK _ _ ⟨rfl, HJ.out⟩
                · obtain rfl := Option.some.inj ho.symm
                  clear ho
                  have d4 : fr0.tmps[(26 : Nat)]? = some (.int .i64 (i : Int)) := hv ⟨4, .data⟩ (by simp) rfl
                  have d5 : fr0.tmps[(27 : Nat)]? = some (.int .i64 (j : Int)) := hv ⟨5, .data⟩ (by simp) rfl
                  have d3 : fr0.tmps[(25 : Nat)]? = some (.bool false) := hv ⟨3, .guard⟩ (by simp) rfl
                  clear hv hx
                  refine wpOp_step rfl (fun K hK => ?_)
                  go_simp
                  exact hK _ _ ⟨rfl, HJ.out⟩
                · obtain rfl := Option.some.inj ho.symm
                  clear ho
                  have d6 : fr0.tmps[(28 : Nat)]? = some (.bool false) := hv ⟨6, .data⟩ (by simp) rfl
                  have d3 : fr0.tmps[(25 : Nat)]? = some (.bool false) := hv ⟨3, .guard⟩ (by simp) rfl
                  clear hv hx
                  refine wpOp_step rfl (fun K hK => ?_)
                  go_simp
                  exact hK _ _ ⟨rfl, HJ.out⟩
                · obtain rfl := Option.some.inj ho.symm
                  clear ho
                  have d7 : fr0.tmps[(29 : Nat)]? = some (.bool false) := hv ⟨7, .guard⟩ (by simp) rfl
                  have x5 : fr0.tmps[(5 : Nat)]? = some (.int .i64 (C : Int)) := hx 5 (by decide)
                  clear hv hx
                  refine wpOp_step rfl (fun K hK => ?_)
                  go_simp
                  exact hK _ _ ⟨rfl, HJ.out⟩
                · obtain rfl := Option.some.inj ho.symm
                  clear ho
                  have d8 : fr0.tmps[(30 : Nat)]? = some (undef) := hv ⟨8, .data⟩ (by simp) rfl
                  have d7 : fr0.tmps[(29 : Nat)]? = some (.bool false) := hv ⟨7, .guard⟩ (by simp) rfl
                  clear hv hx
                  refine wpOp_step rfl (fun K hK => ?_)
                  go_simp
                  exact hK _ _ ⟨rfl, HJ.out⟩
                · obtain rfl := Option.some.inj ho.symm
                  clear ho
                  have d7 : fr0.tmps[(29 : Nat)]? = some (.bool false) := hv ⟨7, .data⟩ (by simp) rfl
                  have d9 : fr0.tmps[(31 : Nat)]? = some (undef) := hv ⟨9, .data⟩ (by simp) rfl
                  have d3 : fr0.tmps[(25 : Nat)]? = some (.bool false) := hv ⟨3, .guard⟩ (by simp) rfl
                  clear hv hx
                  refine wpOp_step rfl (fun K hK => ?_)
                  go_simp
                  exact hK _ _ ⟨rfl, HJ.out⟩
                · obtain rfl := Option.some.inj ho.symm
                  clear ho
                  have d3 : fr0.tmps[(25 : Nat)]? = some (.bool false) := hv ⟨3, .data⟩ (by simp) rfl
                  have d10 : fr0.tmps[(32 : Nat)]? = some (.bool false) := hv ⟨10, .data⟩ (by simp) rfl
                  clear hv hx
                  refine wpOp_step rfl (fun K hK => ?_)
                  go_simp
                  exact hK _ _ ⟨rfl, HJ.out⟩
                · obtain rfl := Option.some.inj ho.symm
                  clear ho
                  have d11 : fr0.tmps[(33 : Nat)]? = some (.bool false) := hv ⟨11, .data⟩ (by simp) rfl
                  clear hv hx
                  refine wpOp_step rfl (fun K hK => ?_)
                  go_simp
                  exact hK _ _ ⟨rfl, HJ.out⟩
                · obtain rfl := Option.some.inj ho.symm
                  clear ho
                  have d12 : fr0.tmps[(34 : Nat)]? = some (.bool false) := hv ⟨12, .guard⟩ (by simp) rfl
                  have x5 : fr0.tmps[(5 : Nat)]? = some (.int .i64 (C : Int)) := hx 5 (by decide)
                  clear hv hx
                  refine wpOp_step rfl (fun K hK => ?_)
                  go_simp
                  exact hK _ _ ⟨rfl, HJ.out⟩
                · obtain rfl := Option.some.inj ho.symm
                  clear ho
                  have d12 : fr0.tmps[(34 : Nat)]? = some (.bool false) := hv ⟨12, .guard⟩ (by simp) rfl
                  have x1 : fr0.tmps[(1 : Nat)]? = some (.pointer (some ⟨X, 0, none⟩)) := hx 1 (by decide)
                  clear hv hx
                  refine wpOp_step rfl (fun K hK => ?_)
                  go_simp
                  exact hK _ _ ⟨rfl, HJ.out⟩
                · obtain rfl := Option.some.inj ho.symm
                  clear ho
                  have d14 : fr0.tmps[(36 : Nat)]? = some (.pointer (some ⟨X, 2, none⟩)) := hv ⟨14, .data⟩ (by simp) rfl
                  have d12 : fr0.tmps[(34 : Nat)]? = some (.bool false) := hv ⟨12, .guard⟩ (by simp) rfl
                  clear hv hx
                  refine wpOp_step rfl (fun K hK => ?_)
                  go_simp
                  exact hK _ _ ⟨rfl, HJ.out⟩
                · obtain rfl := Option.some.inj ho.symm
                  clear ho
                  have d12 : fr0.tmps[(34 : Nat)]? = some (.bool false) := hv ⟨12, .guard⟩ (by simp) rfl
                  have x1 : fr0.tmps[(1 : Nat)]? = some (.pointer (some ⟨X, 0, none⟩)) := hx 1 (by decide)
                  clear hv hx
                  refine wpOp_step rfl (fun K hK => ?_)
                  go_simp
                  exact hK _ _ ⟨rfl, HJ.out⟩
                · obtain rfl := Option.some.inj ho.symm
                  clear ho
                  have d16 : fr0.tmps[(38 : Nat)]? = some (.pointer (some ⟨X, 0, none⟩)) := hv ⟨16, .data⟩ (by simp) rfl
                  have d12 : fr0.tmps[(34 : Nat)]? = some (.bool false) := hv ⟨12, .guard⟩ (by simp) rfl
                  clear hv hx
                  refine wpOp_step rfl (fun K hK => ?_)
                  go_simp
                  exact hK _ _ ⟨rfl, HJ.out⟩
                · obtain rfl := Option.some.inj ho.symm
                  clear ho
                  have d12 : fr0.tmps[(34 : Nat)]? = some (.bool false) := hv ⟨12, .guard⟩ (by simp) rfl
                  have x4 : fr0.tmps[(4 : Nat)]? = some (.int .i64 (j : Int)) := hx 4 (by decide)
                  clear hv hx
                  refine wpOp_step rfl (fun K hK => ?_)
                  go_simp
                  exact hK _ _ ⟨rfl, HJ.out⟩
                · obtain rfl := Option.some.inj ho.symm
                  clear ho
                  have d18 : fr0.tmps[(40 : Nat)]? = some (.int .i64 (j : Int)) := hv ⟨18, .data⟩ (by simp) rfl
                  have d12 : fr0.tmps[(34 : Nat)]? = some (.bool false) := hv ⟨12, .guard⟩ (by simp) rfl
                  clear hv hx
                  refine wpOp_step rfl (fun K hK => ?_)
                  go_simp
                  go_at_call 46
                  refine (HAJ.out _).mono ?_
                  rintro e w2 ⟨rfl, rfl⟩
                  exact hK _ _ ⟨rfl, HJ.out⟩
                · obtain rfl := Option.some.inj ho.symm
                  clear ho
                  have d12 : fr0.tmps[(34 : Nat)]? = some (.bool false) := hv ⟨12, .guard⟩ (by simp) rfl
                  have x3 : fr0.tmps[(3 : Nat)]? = some (.int .i64 (i : Int)) := hx 3 (by decide)
                  clear hv hx
                  refine wpOp_step rfl (fun K hK => ?_)
                  go_simp
                  exact hK _ _ ⟨rfl, HJ.out⟩
                · obtain rfl := Option.some.inj ho.symm
                  clear ho
                  have d20 : fr0.tmps[(42 : Nat)]? = some (.int .i64 (i : Int)) := hv ⟨20, .data⟩ (by simp) rfl
                  have d12 : fr0.tmps[(34 : Nat)]? = some (.bool false) := hv ⟨12, .guard⟩ (by simp) rfl
                  clear hv hx
                  refine wpOp_step rfl (fun K hK => ?_)
                  go_simp
                  go_at_call 46
                  refine (HAI.out _).mono ?_
                  rintro e w2 ⟨rfl, rfl⟩
                  exact hK _ _ ⟨rfl, HJ.out⟩
                · obtain rfl := Option.some.inj ho.symm
                  clear ho
                  have d17 : fr0.tmps[(39 : Nat)]? = some (.int .i64 (N : Int)) := hv ⟨17, .data⟩ (by simp) rfl
                  have d19 : fr0.tmps[(41 : Nat)]? = some (.int .i64 (J : Int)) := hv ⟨19, .data⟩ (by simp) rfl
                  have d21 : fr0.tmps[(43 : Nat)]? = some (.int .i64 (I : Int)) := hv ⟨21, .data⟩ (by simp) rfl
                  have d12 : fr0.tmps[(34 : Nat)]? = some (.bool false) := hv ⟨12, .guard⟩ (by simp) rfl
                  clear hv hx
                  refine wpOp_step rfl (fun K hK => ?_)
                  go_simp
                  go_at_call 42
                  refine (HIX2.out _).mono ?_
                  rintro e w2 ⟨rfl, rfl⟩
                  exact hK _ _ ⟨rfl, HJ.out⟩
                · obtain rfl := Option.some.inj ho.symm
                  clear ho
                  have d15 : fr0.tmps[(37 : Nat)]? = some (.slice (some ⟨b, ob, none⟩) L c) := hv ⟨15, .data⟩ (by simp) rfl
                  have d22 : fr0.tmps[(44 : Nat)]? = some (.int .i64 (R : Int)) := hv ⟨22, .data⟩ (by simp) rfl
                  have d12 : fr0.tmps[(34 : Nat)]? = some (.bool false) := hv ⟨12, .guard⟩ (by simp) rfl
                  clear hv hx
                  refine wpOp_step rfl (fun K hK => ?_)
                  go_simp
                  exact hK _ _ ⟨rfl, HJ.out⟩
                · obtain rfl := Option.some.inj ho.symm
                  clear ho
                  have d23 : fr0.tmps[(45 : Nat)]? = some (.pointer (some ⟨b, ob + R, none⟩)) := hv ⟨23, .data⟩ (by simp) rfl
                  have d12 : fr0.tmps[(34 : Nat)]? = some (.bool false) := hv ⟨12, .guard⟩ (by simp) rfl
                  clear hv hx
                  refine wpOp_step rfl (fun K hK => ?_)
                  go_simp
                  exact hK _ _ ⟨rfl, HJ.out⟩
                · obtain rfl := Option.some.inj ho.symm
                  clear ho
                  have d13 : fr0.tmps[(35 : Nat)]? = some (.int .i64 (C : Int)) := hv ⟨13, .data⟩ (by simp) rfl
                  have d24 : fr0.tmps[(46 : Nat)]? = some (.int .i64 (D : Int)) := hv ⟨24, .data⟩ (by simp) rfl
                  have d12 : fr0.tmps[(34 : Nat)]? = some (.bool false) := hv ⟨12, .guard⟩ (by simp) rfl
                  clear hv hx
                  refine wpOp_step rfl (fun K hK => ?_)
                  go_simp
                  exact hK _ _ ⟨rfl, HJ.out⟩
                · obtain rfl := Option.some.inj ho.symm
                  clear ho
                  have d12 : fr0.tmps[(34 : Nat)]? = some (.bool false) := hv ⟨12, .data⟩ (by simp) rfl
                  have d25 : fr0.tmps[(47 : Nat)]? = some (.bool false) := hv ⟨25, .data⟩ (by simp) rfl
                  clear hv hx
                  refine wpOp_step rfl (fun K hK => ?_)
                  go_simp
                  exact hK _ _ ⟨rfl, HJ.out⟩
              case he =>
                intro w' hJ
                simp only [putF, valsAt, Nat.reduceAdd, Nat.zero_add, List.getD_cons_zero, List.getD_cons_succ, Act.put, List.setIfInBounds_toArray, List.set_cons_succ, List.set_cons_zero]
                rw [hJ]
                clear hJ
                gi_wp2
                exact ⟨((Above.refl _ A2).drew).drew, HNX.out, HA.out.1.drew2, HA.out.2.1.drew2, HA.out.2.2.1, (HA.out.2.2.2.drew).drew⟩
            · have k9 : (C != D) = true := by simpa using kd2
              rw [decide_eq_false kd2] at HIJ
              have HBADM := Lib.hid (okM_false HIJ.out.2.2.1 HIJ.out.2.2.2 (HIJ.out.2.1.trans rfl))
              clear kb kd2 kij kd
              refine wp_region_round (by kernel_rfl) (by kernel_rfl) ?lo ?_
              case lo => rintro ⟨_, _, h⟩; exact h
              refine wpAny_vals [22, 23, 24, 25, 26, 27, 28, 29, 30, 31, 32, 33, 34, 35, 36, 37, 38, 39, 40, 41, 42, 43, 44, 45, 46, 47, 48] [.int .i64 (C : Int), .bool true, .bool false, .bool false, .int .i64 (i : Int), .int .i64 (j : Int), .bool false, .bool false, undef, undef, .bool false, .bool false, .bool false, .int .i64 (C : Int), .pointer (some ⟨X, 2, none⟩), .slice (some ⟨b, ob, none⟩) L c, .pointer (some ⟨X, 0, none⟩), .int .i64 (N : Int), .int .i64 (j : Int), .int .i64 (J : Int), .int .i64 (i : Int), .int .i64 (I : Int), .int .i64 (R : Int), .pointer (some ⟨b, ob + R, none⟩), .int .i64 (D : Int), .bool true, .bool true] (fun w' => w' = A2.drew.drew) rfl (by kernel_rfl) (by decide) (by kernel_rfl) ?hs ?he ?hj
              case hj => exact rfl
              case hs =>
                intro i o ho fr0 hv hx w' hJ
                have hi : i < 27 := (Array.getElem?_eq_some_iff.1 ho).1
                have c0 : w'.cell? ⟨X, 0, none⟩ = some (.int .i64 N) := by rw [hJ]; exact HX.out.1
                have c2 : w'.cell? ⟨X, 2, none⟩ = some (.slice (some ⟨b, ob, none⟩) L c) := by rw [hJ]; exact HX.out.2
                have cR : w'.cell? ⟨b, ob + R, none⟩ = some (.int .i64 D) := by rw [hJ]; exact HR.out
                have HJ := Lib.hid hJ
                clear hJ
                have hcase : i = 0 ∨ i = 1 ∨ i = 2 ∨ i = 3 ∨ i = 4 ∨ i = 5 ∨ i = 6 ∨ i = 7 ∨ i = 8 ∨ i = 9 ∨ i = 10 ∨ i = 11 ∨ i = 12 ∨ i = 13 ∨ i = 14 ∨ i = 15 ∨ i = 16 ∨ i = 17 ∨ i = 18 ∨ i = 19 ∨ i = 20 ∨ i = 21 ∨ i = 22 ∨ i = 23 ∨ i = 24 ∨ i = 25 ∨ i = 26 := by omega
                clear hi
                rcases hcase with rfl | rfl | rfl | rfl | rfl | rfl | rfl | rfl | rfl | rfl | rfl | rfl | rfl | rfl | rfl | rfl | rfl | rfl | rfl | rfl | rfl | rfl | rfl | rfl | rfl | rfl | rfl
                · obtain rfl := Option.some.inj ho.symm
                  clear ho
                  have x5 : fr0.tmps[(5 : Nat)]? = some (.int .i64 (C : Int)) := hx 5 (by decide)
                  clear hv hx
                  refine wpOp_step rfl (fun K hK => ?_)
                  go_simp
                  exact hK _ _ ⟨rfl, HJ.out⟩
                · obtain rfl := Option.some.inj ho.symm
                  clear ho
                  have d0 : fr0.tmps[(22 : Nat)]? = some (.int .i64 (C : Int)) := hv ⟨0, .data⟩ (by simp) rfl
                  clear hv hx
                  refine wpOp_step rfl (fun K hK => ?_)
                  go_simp
                  go_at_call 60
                  refine (HIS.out _).mono ?_
                  rintro e w2 ⟨rfl, rfl⟩
                  exact hK _ _ ⟨rfl, HJ.out⟩
                · obtain rfl := Option.some.inj ho.symm
                  clear ho
                  have d1 : fr0.tmps[(23 : Nat)]? = some (.bool true) := hv ⟨1, .data⟩ (by simp) rfl
                  clear hv hx
                  refine wpOp_step rfl (fun K hK => ?_)
                  go_simp
                  exact hK _ _ ⟨rfl, HJ.out⟩
                · obtain rfl := Option.some.inj ho.symm
                  clear ho
                  have d2 : fr0.tmps[(24 : Nat)]? = some (.bool false) := hv ⟨2, .data⟩ (by simp) rfl
                  clear hv hx
                  refine wpOp_step rfl (fun K hK => ?_)
                  go_simp
                  exact hK _ _ ⟨rfl, HJ.out⟩
                · obtain rfl := Option.some.inj ho.symm
                  clear ho
                  have d3 : fr0.tmps[(25 : Nat)]? = some (.bool false) := hv ⟨3, .guard⟩ (by simp) rfl
                  have x3 : fr0.tmps[(3 : Nat)]? = some (.int .i64 (i : Int)) := hx 3 (by decide)
                  clear hv hx
                  refine wpOp_step rfl (fun K hK => ?_)
                  go_simp
                  exact hK _ _ ⟨rfl, HJ.out⟩
                · obtain rfl := Option.some.inj ho.symm
                  clear ho
                  have d3 : fr0.tmps[(25 : Nat)]? = some (.bool false) := hv ⟨3, .guard⟩ (by simp) rfl
                  have x4 : fr0.tmps[(4 : Nat)]? = some (.int .i64 (j : Int)) := hx 4 (by decide)
                  clear hv hx
                  refine wpOp_step rfl (fun K hK => ?_)
                  go_simp
                  exact hK _ _ ⟨rfl, HJ.out⟩
                · obtain rfl := Option.some.inj ho.symm
                  clear ho
                  have d4 : fr0.tmps[(26 : Nat)]? = some (.int .i64 (i : Int)) := hv ⟨4, .data⟩ (by simp) rfl
                  have d5 : fr0.tmps[(27 : Nat)]? = some (.int .i64 (j : Int)) := hv ⟨5, .data⟩ (by simp) rfl
                  have d3 : fr0.tmps[(25 : Nat)]? = some (.bool false) := hv ⟨3, .guard⟩ (by simp) rfl
                  clear hv hx
                  refine wpOp_step rfl (fun K hK => ?_)
                  go_simp
                  exact hK _ _ ⟨rfl, HJ.out⟩
                · obtain rfl := Option.some.inj ho.symm
                  clear ho
                  have d6 : fr0.tmps[(28 : Nat)]? = some (.bool false) := hv ⟨6, .data⟩ (by simp) rfl
                  have d3 : fr0.tmps[(25 : Nat)]? = some (.bool false) := hv ⟨3, .guard⟩ (by simp) rfl
                  clear hv hx
                  refine wpOp_step rfl (fun K hK => ?_)
                  go_simp
                  exact hK _ _ ⟨rfl, HJ.out⟩
                · obtain rfl := Option.some.inj ho.symm
                  clear ho
                  have d7 : fr0.tmps[(29 : Nat)]? = some (.bool false) := hv ⟨7, .guard⟩ (by simp) rfl
                  have x5 : fr0.tmps[(5 : Nat)]? = some (.int .i64 (C : Int)) := hx 5 (by decide)
                  clear hv hx
                  refine wpOp_step rfl (fun K hK => ?_)
                  go_simp
                  exact hK _ _ ⟨rfl, HJ.out⟩
                · obtain rfl := Option.some.inj ho.symm
                  clear ho
                  have d8 : fr0.tmps[(30 : Nat)]? = some (undef) := hv ⟨8, .data⟩ (by simp) rfl
                  have d7 : fr0.tmps[(29 : Nat)]? = some (.bool false) := hv ⟨7, .guard⟩ (by simp) rfl
                  clear hv hx
                  refine wpOp_step rfl (fun K hK => ?_)
                  go_simp
                  exact hK _ _ ⟨rfl, HJ.out⟩
                · obtain rfl := Option.some.inj ho.symm
                  clear ho
                  have d7 : fr0.tmps[(29 : Nat)]? = some (.bool false) := hv ⟨7, .data⟩ (by simp) rfl
                  have d9 : fr0.tmps[(31 : Nat)]? = some (undef) := hv ⟨9, .data⟩ (by simp) rfl
                  have d3 : fr0.tmps[(25 : Nat)]? = some (.bool false) := hv ⟨3, .guard⟩ (by simp) rfl
                  clear hv hx
                  refine wpOp_step rfl (fun K hK => ?_)
                  go_simp
                  exact hK _ _ ⟨rfl, HJ.out⟩
                · obtain rfl := Option.some.inj ho.symm
                  clear ho
                  have d3 : fr0.tmps[(25 : Nat)]? = some (.bool false) := hv ⟨3, .data⟩ (by simp) rfl
                  have d10 : fr0.tmps[(32 : Nat)]? = some (.bool false) := hv ⟨10, .data⟩ (by simp) rfl
                  clear hv hx
                  refine wpOp_step rfl (fun K hK => ?_)
                  go_simp
                  exact hK _ _ ⟨rfl, HJ.out⟩
                · obtain rfl := Option.some.inj ho.symm
                  clear ho
                  have d11 : fr0.tmps[(33 : Nat)]? = some (.bool false) := hv ⟨11, .data⟩ (by simp) rfl
                  clear hv hx
                  refine wpOp_step rfl (fun K hK => ?_)
                  go_simp
                  exact hK _ _ ⟨rfl, HJ.out⟩
                · obtain rfl := Option.some.inj ho.symm
                  clear ho
                  have d12 : fr0.tmps[(34 : Nat)]? = some (.bool false) := hv ⟨12, .guard⟩ (by simp) rfl
                  have x5 : fr0.tmps[(5 : Nat)]? = some (.int .i64 (C : Int)) := hx 5 (by decide)
                  clear hv hx
                  refine wpOp_step rfl (fun K hK => ?_)
                  go_simp
                  exact hK _ _ ⟨rfl, HJ.out⟩
                · obtain rfl := Option.some.inj ho.symm
                  clear ho
                  have d12 : fr0.tmps[(34 : Nat)]? = some (.bool false) := hv ⟨12, .guard⟩ (by simp) rfl
                  have x1 : fr0.tmps[(1 : Nat)]? = some (.pointer (some ⟨X, 0, none⟩)) := hx 1 (by decide)
                  clear hv hx
                  refine wpOp_step rfl (fun K hK => ?_)
                  go_simp
                  exact hK _ _ ⟨rfl, HJ.out⟩
                · obtain rfl := Option.some.inj ho.symm
                  clear ho
                  have d14 : fr0.tmps[(36 : Nat)]? = some (.pointer (some ⟨X, 2, none⟩)) := hv ⟨14, .data⟩ (by simp) rfl
                  have d12 : fr0.tmps[(34 : Nat)]? = some (.bool false) := hv ⟨12, .guard⟩ (by simp) rfl
                  clear hv hx
                  refine wpOp_step rfl (fun K hK => ?_)
                  go_simp
                  exact hK _ _ ⟨rfl, HJ.out⟩
                · obtain rfl := Option.some.inj ho.symm
                  clear ho
                  have d12 : fr0.tmps[(34 : Nat)]? = some (.bool false) := hv ⟨12, .guard⟩ (by simp) rfl
                  have x1 : fr0.tmps[(1 : Nat)]? = some (.pointer (some ⟨X, 0, none⟩)) := hx 1 (by decide)
                  clear hv hx
                  refine wpOp_step rfl (fun K hK => ?_)
                  go_simp
                  exact hK _ _ ⟨rfl, HJ.out⟩
                · obtain rfl := Option.some.inj ho.symm
                  clear ho
                  have d16 : fr0.tmps[(38 : Nat)]? = some (.pointer (some ⟨X, 0, none⟩)) := hv ⟨16, .data⟩ (by simp) rfl
                  have d12 : fr0.tmps[(34 : Nat)]? = some (.bool false) := hv ⟨12, .guard⟩ (by simp) rfl
                  clear hv hx
                  refine wpOp_step rfl (fun K hK => ?_)
                  go_simp
                  exact hK _ _ ⟨rfl, HJ.out⟩
                · obtain rfl := Option.some.inj ho.symm
                  clear ho
                  have d12 : fr0.tmps[(34 : Nat)]? = some (.bool false) := hv ⟨12, .guard⟩ (by simp) rfl
                  have x4 : fr0.tmps[(4 : Nat)]? = some (.int .i64 (j : Int)) := hx 4 (by decide)
                  clear hv hx
                  refine wpOp_step rfl (fun K hK => ?_)
                  go_simp
                  exact hK _ _ ⟨rfl, HJ.out⟩
                · obtain rfl := Option.some.inj ho.symm
                  clear ho
                  have d18 : fr0.tmps[(40 : Nat)]? = some (.int .i64 (j : Int)) := hv ⟨18, .data⟩ (by simp) rfl
                  have d12 : fr0.tmps[(34 : Nat)]? = some (.bool false) := hv ⟨12, .guard⟩ (by simp) rfl
                  clear hv hx
                  refine wpOp_step rfl (fun K hK => ?_)
                  go_simp
                  go_at_call 46
                  refine (HAJ.out _).mono ?_
                  rintro e w2 ⟨rfl, rfl⟩
                  exact hK _ _ ⟨rfl, HJ.out⟩
                · obtain rfl := Option.some.inj ho.symm
                  clear ho
                  have d12 : fr0.tmps[(34 : Nat)]? = some (.bool false) := hv ⟨12, .guard⟩ (by simp) rfl
                  have x3 : fr0.tmps[(3 : Nat)]? = some (.int .i64 (i : Int)) := hx 3 (by decide)
                  clear hv hx
                  refine wpOp_step rfl (fun K hK => ?_)
                  go_simp
                  exact hK _ _ ⟨rfl, HJ.out⟩
                · obtain rfl := Option.some.inj ho.symm
                  clear ho
                  have d20 : fr0.tmps[(42 : Nat)]? = some (.int .i64 (i : Int)) := hv ⟨20, .data⟩ (by simp) rfl
                  have d12 : fr0.tmps[(34 : Nat)]? = some (.bool false) := hv ⟨12, .guard⟩ (by simp) rfl
                  clear hv hx
                  refine wpOp_step rfl (fun K hK => ?_)
                  go_simp
                  go_at_call 46
                  refine (HAI.out _).mono ?_
                  rintro e w2 ⟨rfl, rfl⟩
                  exact hK _ _ ⟨rfl, HJ.out⟩
                · obtain rfl := Option.some.inj ho.symm
                  clear ho
                  have d17 : fr0.tmps[(39 : Nat)]? = some (.int .i64 (N : Int)) := hv ⟨17, .data⟩ (by simp) rfl
                  have d19 : fr0.tmps[(41 : Nat)]? = some (.int .i64 (J : Int)) := hv ⟨19, .data⟩ (by simp) rfl
                  have d21 : fr0.tmps[(43 : Nat)]? = some (.int .i64 (I : Int)) := hv ⟨21, .data⟩ (by simp) rfl
                  have d12 : fr0.tmps[(34 : Nat)]? = some (.bool false) := hv ⟨12, .guard⟩ (by simp) rfl
                  clear hv hx
                  refine wpOp_step rfl (fun K hK => ?_)
                  go_simp
                  go_at_call 42
                  refine (HIX2.out _).mono ?_
                  rintro e w2 ⟨rfl, rfl⟩
                  exact hK _ _ ⟨rfl, HJ.out⟩
                · obtain rfl := Option.some.inj ho.symm
                  clear ho
                  have d15 : fr0.tmps[(37 : Nat)]? = some (.slice (some ⟨b, ob, none⟩) L c) := hv ⟨15, .data⟩ (by simp) rfl
                  have d22 : fr0.tmps[(44 : Nat)]? = some (.int .i64 (R : Int)) := hv ⟨22, .data⟩ (by simp) rfl
                  have d12 : fr0.tmps[(34 : Nat)]? = some (.bool false) := hv ⟨12, .guard⟩ (by simp) rfl
                  clear hv hx
                  refine wpOp_step rfl (fun K hK => ?_)
                  go_simp
                  exact hK _ _ ⟨rfl, HJ.out⟩
                · obtain rfl := Option.some.inj ho.symm
                  clear ho
                  have d23 : fr0.tmps[(45 : Nat)]? = some (.pointer (some ⟨b, ob + R, none⟩)) := hv ⟨23, .data⟩ (by simp) rfl
                  have d12 : fr0.tmps[(34 : Nat)]? = some (.bool false) := hv ⟨12, .guard⟩ (by simp) rfl
                  clear hv hx
                  refine wpOp_step rfl (fun K hK => ?_)
                  go_simp
                  exact hK _ _ ⟨rfl, HJ.out⟩
                · obtain rfl := Option.some.inj ho.symm
                  clear ho
                  have d13 : fr0.tmps[(35 : Nat)]? = some (.int .i64 (C : Int)) := hv ⟨13, .data⟩ (by simp) rfl
                  have d24 : fr0.tmps[(46 : Nat)]? = some (.int .i64 (D : Int)) := hv ⟨24, .data⟩ (by simp) rfl
                  have d12 : fr0.tmps[(34 : Nat)]? = some (.bool false) := hv ⟨12, .guard⟩ (by simp) rfl
                  clear hv hx
                  refine wpOp_step rfl (fun K hK => ?_)
                  go_simp
                  exact hK _ _ ⟨rfl, HJ.out⟩
                · obtain rfl := Option.some.inj ho.symm
                  clear ho
                  have d12 : fr0.tmps[(34 : Nat)]? = some (.bool false) := hv ⟨12, .data⟩ (by simp) rfl
                  have d25 : fr0.tmps[(47 : Nat)]? = some (.bool true) := hv ⟨25, .data⟩ (by simp) rfl
                  clear hv hx
                  refine wpOp_step rfl (fun K hK => ?_)
                  go_simp
                  exact hK _ _ ⟨rfl, HJ.out⟩
              case he =>
                intro w' hJ
                simp only [putF, valsAt, Nat.reduceAdd, Nat.zero_add, List.getD_cons_zero, List.getD_cons_succ, Act.put, List.setIfInBounds_toArray, List.set_cons_succ, List.set_cons_zero]
                have hRb := (HA.out.2.1.drew2).free 0
                have hRc := (HA.out.2.1.drew2).cell 0
                rw [hJ]
                clear hJ
                gi_wp2
                exact ⟨(((Above.refl _ A2).drew).drew).setCell (by simp; omega) _, rfl, HBADM.out, (HA.out.2.1.drew2).set 0 (.bool false), ((HA.out.2.2.2.drew).drew).setCell (by simp) _⟩
        · rw [decide_eq_false kb] at HIS HIJ
          have HBADM := Lib.hid (okM_false HIJ.out.2.2.1 HIJ.out.2.2.2 (HIJ.out.2.1.trans rfl))
          clear kb
          refine wp_region_round (by kernel_rfl) (by kernel_rfl) ?lo ?_
          case lo => rintro ⟨_, _, h⟩; exact h
          refine wpAny_vals [22, 23, 24, 25, 26, 27, 28, 29, 30, 31, 32, 33, 34, 35, 36, 37, 38, 39, 40, 41, 42, 43, 44, 45, 46, 47, 48] [.int .i64 (C : Int), .bool false, .bool true, .bool true, undef, undef, undef, undef, undef, undef, undef, .bool true, .bool true, undef, undef, undef, undef, undef, undef, undef, undef, undef, undef, undef, undef, undef, .bool true] (fun w' => w' = A2.drew.drew) rfl (by kernel_rfl) (by decide) (by kernel_rfl) ?hs ?he ?hj
          case hj => exact rfl
          case hs =>
            intro i o ho fr0 hv hx w' hJ
            have hi : i < 27 := (Array.getElem?_eq_some_iff.1 ho).1
            have c0 : w'.cell? ⟨X, 0, none⟩ = some (.int .i64 N) := by rw [hJ]; exact HX.out.1
            have c2 : w'.cell? ⟨X, 2, none⟩ = some (.slice (some ⟨b, ob, none⟩) L c) := by rw [hJ]; exact HX.out.2
            have cR : w'.cell? ⟨b, ob + R, none⟩ = some (.int .i64 D) := by rw [hJ]; exact HR.out
            have HJ := Lib.hid hJ
            clear hJ
            have hcase : i = 0 ∨ i = 1 ∨ i = 2 ∨ i = 3 ∨ i = 4 ∨ i = 5 ∨ i = 6 ∨ i = 7 ∨ i = 8 ∨ i = 9 ∨ i = 10 ∨ i = 11 ∨ i = 12 ∨ i = 13 ∨ i = 14 ∨ i = 15 ∨ i = 16 ∨ i = 17 ∨ i = 18 ∨ i = 19 ∨ i = 20 ∨ i = 21 ∨ i = 22 ∨ i = 23 ∨ i = 24 ∨ i = 25 ∨ i = 26 := by omega
            clear hi
            rcases hcase with rfl | rfl | rfl | rfl | rfl | rfl | rfl | rfl | rfl | rfl | rfl | rfl | rfl | rfl | rfl | rfl | rfl | rfl | rfl | rfl | rfl | rfl | rfl | rfl | rfl | rfl | rfl
            · obtain rfl := Option.some.inj ho.symm
              clear ho
              have x5 : fr0.tmps[(5 : Nat)]? = some (.int .i64 (C : Int)) := hx 5 (by decide)
              clear hv hx
              refine wpOp_step rfl (fun K hK => ?_)
              go_simp
              exact hK _ _ ⟨rfl, HJ.out⟩
            · obtain rfl := Option.some.inj ho.symm
              clear ho
              have d0 : fr0.tmps[(22 : Nat)]? = some (.int .i64 (C : Int)) := hv ⟨0, .data⟩ (by simp) rfl
              clear hv hx
              refine wpOp_step rfl (fun K hK => ?_)
              go_simp
              go_at_call 60
              refine (HIS.out _).mono ?_
              rintro e w2 ⟨rfl, rfl⟩
              exact hK _ _ ⟨rfl, HJ.out⟩
            · obtain rfl := Option.some.inj ho.symm
              clear ho
              have d1 : fr0.tmps[(23 : Nat)]? = some (.bool false) := hv ⟨1, .data⟩ (by simp) rfl
              clear hv hx
              refine wpOp_step rfl (fun K hK => ?_)
              go_simp
              exact hK _ _ ⟨rfl, HJ.out⟩
            · obtain rfl := Option.some.inj ho.symm
              clear ho
              have d2 : fr0.tmps[(24 : Nat)]? = some (.bool true) := hv ⟨2, .data⟩ (by simp) rfl
              clear hv hx
              refine wpOp_step rfl (fun K hK => ?_)
              go_simp
              exact hK _ _ ⟨rfl, HJ.out⟩
            · obtain rfl := Option.some.inj ho.symm
              clear ho
              have d3 : fr0.tmps[(25 : Nat)]? = some (.bool true) := hv ⟨3, .guard⟩ (by simp) rfl
              have x3 : fr0.tmps[(3 : Nat)]? = some (.int .i64 (i : Int)) := hx 3 (by decide)
              clear hv hx
              refine wpOp_step rfl (fun K hK => ?_)
              go_simp
              exact hK _ _ ⟨rfl, HJ.out⟩
            · obtain rfl := Option.some.inj ho.symm
              clear ho
              have d3 : fr0.tmps[(25 : Nat)]? = some (.bool true) := hv ⟨3, .guard⟩ (by simp) rfl
              have x4 : fr0.tmps[(4 : Nat)]? = some (.int .i64 (j : Int)) := hx 4 (by decide)
              clear hv hx
              refine wpOp_step rfl (fun K hK => ?_)
              go_simp
              exact hK _ _ ⟨rfl, HJ.out⟩
            · obtain rfl := Option.some.inj ho.symm
              clear ho
              have d4 : fr0.tmps[(26 : Nat)]? = some (undef) := hv ⟨4, .data⟩ (by simp) rfl
              have d5 : fr0.tmps[(27 : Nat)]? = some (undef) := hv ⟨5, .data⟩ (by simp) rfl
              have d3 : fr0.tmps[(25 : Nat)]? = some (.bool true) := hv ⟨3, .guard⟩ (by simp) rfl
              clear hv hx
              refine wpOp_step rfl (fun K hK => ?_)
              go_simp
              exact hK _ _ ⟨rfl, HJ.out⟩
            · obtain rfl := Option.some.inj ho.symm
              clear ho
              have d6 : fr0.tmps[(28 : Nat)]? = some (undef) := hv ⟨6, .data⟩ (by simp) rfl
              have d3 : fr0.tmps[(25 : Nat)]? = some (.bool true) := hv ⟨3, .guard⟩ (by simp) rfl
              clear hv hx
              refine wpOp_step rfl (fun K hK => ?_)
              go_simp
              exact hK _ _ ⟨rfl, HJ.out⟩
            · obtain rfl := Option.some.inj ho.symm
              clear ho
              have d7 : fr0.tmps[(29 : Nat)]? = some (undef) := hv ⟨7, .guard⟩ (by simp) rfl
              have x5 : fr0.tmps[(5 : Nat)]? = some (.int .i64 (C : Int)) := hx 5 (by decide)
              clear hv hx
              refine wpOp_step rfl (fun K hK => ?_)
              go_simp
              exact hK _ _ ⟨rfl, HJ.out⟩
            · obtain rfl := Option.some.inj ho.symm
              clear ho
              have d8 : fr0.tmps[(30 : Nat)]? = some (undef) := hv ⟨8, .data⟩ (by simp) rfl
              have d7 : fr0.tmps[(29 : Nat)]? = some (undef) := hv ⟨7, .guard⟩ (by simp) rfl
              clear hv hx
              refine wpOp_step rfl (fun K hK => ?_)
              go_simp
              exact hK _ _ ⟨rfl, HJ.out⟩
            · obtain rfl := Option.some.inj ho.symm
              clear ho
              have d7 : fr0.tmps[(29 : Nat)]? = some (undef) := hv ⟨7, .data⟩ (by simp) rfl
              have d9 : fr0.tmps[(31 : Nat)]? = some (undef) := hv ⟨9, .data⟩ (by simp) rfl
              have d3 : fr0.tmps[(25 : Nat)]? = some (.bool true) := hv ⟨3, .guard⟩ (by simp) rfl
              clear hv hx
              refine wpOp_step rfl (fun K hK => ?_)
              go_simp
              exact hK _ _ ⟨rfl, HJ.out⟩
            · obtain rfl := Option.some.inj ho.symm
              clear ho
              have d3 : fr0.tmps[(25 : Nat)]? = some (.bool true) := hv ⟨3, .data⟩ (by simp) rfl
              have d10 : fr0.tmps[(32 : Nat)]? = some (undef) := hv ⟨10, .data⟩ (by simp) rfl
              clear hv hx
              refine wpOp_step rfl (fun K hK => ?_)
              go_simp
              exact hK _ _ ⟨rfl, HJ.out⟩
            · obtain rfl := Option.some.inj ho.symm
              clear ho
              have d11 : fr0.tmps[(33 : Nat)]? = some (.bool true) := hv ⟨11, .data⟩ (by simp) rfl
              clear hv hx
              refine wpOp_step rfl (fun K hK => ?_)
              go_simp
              exact hK _ _ ⟨rfl, HJ.out⟩
            · obtain rfl := Option.some.inj ho.symm
              clear ho
              have d12 : fr0.tmps[(34 : Nat)]? = some (.bool true) := hv ⟨12, .guard⟩ (by simp) rfl
              have x5 : fr0.tmps[(5 : Nat)]? = some (.int .i64 (C : Int)) := hx 5 (by decide)
              clear hv hx
              refine wpOp_step rfl (fun K hK => ?_)
              go_simp
              exact hK _ _ ⟨rfl, HJ.out⟩
            · obtain rfl := Option.some.inj ho.symm
              clear ho
              have d12 : fr0.tmps[(34 : Nat)]? = some (.bool true) := hv ⟨12, .guard⟩ (by simp) rfl
              have x1 : fr0.tmps[(1 : Nat)]? = some (.pointer (some ⟨X, 0, none⟩)) := hx 1 (by decide)
              clear hv hx
              refine wpOp_step rfl (fun K hK => ?_)
              go_simp
              exact hK _ _ ⟨rfl, HJ.out⟩
            · obtain rfl := Option.some.inj ho.symm
              clear ho
              have d14 : fr0.tmps[(36 : Nat)]? = some (undef) := hv ⟨14, .data⟩ (by simp) rfl
              have d12 : fr0.tmps[(34 : Nat)]? = some (.bool true) := hv ⟨12, .guard⟩ (by simp) rfl
              clear hv hx
              refine wpOp_step rfl (fun K hK => ?_)
              go_simp
              exact hK _ _ ⟨rfl, HJ.out⟩
            · obtain rfl := Option.some.inj ho.symm
              clear ho
              have d12 : fr0.tmps[(34 : Nat)]? = some (.bool true) := hv ⟨12, .guard⟩ (by simp) rfl
              have x1 : fr0.tmps[(1 : Nat)]? = some (.pointer (some ⟨X, 0, none⟩)) := hx 1 (by decide)
              clear hv hx
              refine wpOp_step rfl (fun K hK => ?_)
              go_simp
              exact hK _ _ ⟨rfl, HJ.out⟩
            · obtain rfl := Option.some.inj ho.symm
              clear ho
              have d16 : fr0.tmps[(38 : Nat)]? = some (undef) := hv ⟨16, .data⟩ (by simp) rfl
              have d12 : fr0.tmps[(34 : Nat)]? = some (.bool true) := hv ⟨12, .guard⟩ (by simp) rfl
              clear hv hx
              refine wpOp_step rfl (fun K hK => ?_)
              go_simp
              exact hK _ _ ⟨rfl, HJ.out⟩
            · obtain rfl := Option.some.inj ho.symm
              clear ho
              have d12 : fr0.tmps[(34 : Nat)]? = some (.bool true) := hv ⟨12, .guard⟩ (by simp) rfl
              have x4 : fr0.tmps[(4 : Nat)]? = some (.int .i64 (j : Int)) := hx 4 (by decide)
              clear hv hx
              refine wpOp_step rfl (fun K hK => ?_)
              go_simp
              exact hK _ _ ⟨rfl, HJ.out⟩
            · obtain rfl := Option.some.inj ho.symm
              clear ho
              have d18 : fr0.tmps[(40 : Nat)]? = some (undef) := hv ⟨18, .data⟩ (by simp) rfl
              have d12 : fr0.tmps[(34 : Nat)]? = some (.bool true) := hv ⟨12, .guard⟩ (by simp) rfl
              clear hv hx
              refine wpOp_step rfl (fun K hK => ?_)
              go_simp
              exact hK _ _ ⟨rfl, HJ.out⟩
            · obtain rfl := Option.some.inj ho.symm
              clear ho
              have d12 : fr0.tmps[(34 : Nat)]? = some (.bool true) := hv ⟨12, .guard⟩ (by simp) rfl
              have x3 : fr0.tmps[(3 : Nat)]? = some (.int .i64 (i : Int)) := hx 3 (by decide)
              clear hv hx
              refine wpOp_step rfl (fun K hK => ?_)
              go_simp
              exact hK _ _ ⟨rfl, HJ.out⟩
            · obtain rfl := Option.some.inj ho.symm
              clear ho
              have d20 : fr0.tmps[(42 : Nat)]? = some (undef) := hv ⟨20, .data⟩ (by simp) rfl
              have d12 : fr0.tmps[(34 : Nat)]? = some (.bool true) := hv ⟨12, .guard⟩ (by simp) rfl
              clear hv hx
              refine wpOp_step rfl (fun K hK => ?_)
              go_simp
              exact hK _ _ ⟨rfl, HJ.out⟩
            · obtain rfl := Option.some.inj ho.symm
              clear ho
              have d17 : fr0.tmps[(39 : Nat)]? = some (undef) := hv ⟨17, .data⟩ (by simp) rfl
              have d19 : fr0.tmps[(41 : Nat)]? = some (undef) := hv ⟨19, .data⟩ (by simp) rfl
              have d21 : fr0.tmps[(43 : Nat)]? = some (undef) := hv ⟨21, .data⟩ (by simp) rfl
              have d12 : fr0.tmps[(34 : Nat)]? = some (.bool true) := hv ⟨12, .guard⟩ (by simp) rfl
              clear hv hx
              refine wpOp_step rfl (fun K hK => ?_)
              go_simp
              exact hK _ _ ⟨rfl, HJ.out⟩
            · obtain rfl := Option.some.inj ho.symm
              clear ho
              have d15 : fr0.tmps[(37 : Nat)]? = some (undef) := hv ⟨15, .data⟩ (by simp) rfl
              have d22 : fr0.tmps[(44 : Nat)]? = some (undef) := hv ⟨22, .data⟩ (by simp) rfl
              have d12 : fr0.tmps[(34 : Nat)]? = some (.bool true) := hv ⟨12, .guard⟩ (by simp) rfl
              clear hv hx
              refine wpOp_step rfl (fun K hK => ?_)
              go_simp
              exact hK _ _ ⟨rfl, HJ.out⟩
            · obtain rfl := Option.some.inj ho.symm
              clear ho
              have d23 : fr0.tmps[(45 : Nat)]? = some (undef) := hv ⟨23, .data⟩ (by simp) rfl
              have d12 : fr0.tmps[(34 : Nat)]? = some (.bool true) := hv ⟨12, .guard⟩ (by simp) rfl
              clear hv hx
              refine wpOp_step rfl (fun K hK => ?_)
              go_simp
              exact hK _ _ ⟨rfl, HJ.out⟩
            · obtain rfl := Option.some.inj ho.symm
              clear ho
              have d13 : fr0.tmps[(35 : Nat)]? = some (undef) := hv ⟨13, .data⟩ (by simp) rfl
              have d24 : fr0.tmps[(46 : Nat)]? = some (undef) := hv ⟨24, .data⟩ (by simp) rfl
              have d12 : fr0.tmps[(34 : Nat)]? = some (.bool true) := hv ⟨12, .guard⟩ (by simp) rfl
              clear hv hx
              refine wpOp_step rfl (fun K hK => ?_)
              go_simp
              exact hK _ _ ⟨rfl, HJ.out⟩
            · obtain rfl := Option.some.inj ho.symm
              clear ho
              have d12 : fr0.tmps[(34 : Nat)]? = some (.bool true) := hv ⟨12, .data⟩ (by simp) rfl
              have d25 : fr0.tmps[(47 : Nat)]? = some (undef) := hv ⟨25, .data⟩ (by simp) rfl
              clear hv hx
              refine wpOp_step rfl (fun K hK => ?_)
              go_simp
              exact hK _ _ ⟨rfl, HJ.out⟩
          case he =>
            intro w' hJ
            simp only [putF, valsAt, Nat.reduceAdd, Nat.zero_add, List.getD_cons_zero, List.getD_cons_succ, Act.put, List.setIfInBounds_toArray, List.set_cons_succ, List.set_cons_zero]
            have hRb := (HA.out.2.1.drew2).free 0
            have hRc := (HA.out.2.1.drew2).cell 0
            rw [hJ]
            clear hJ
            gi_wp2
            exact ⟨(((Above.refl _ A2).drew).drew).setCell (by simp; omega) _, rfl, HBADM.out, (HA.out.2.1.drew2).set 0 (.bool false), ((HA.out.2.2.2.drew).drew).setCell (by simp) _⟩
    case done =>
      intro D A hD hI hK
      obtain ⟨hok, i1, i2, i3, i4⟩ := hI
      have c1 : A.cell? ⟨X + 1, 0, none⟩ = some (.bool false) := i2.cell 0
      have f1 := i2.free 0
      have I2 := Lib.hid i2
      have HK := Lib.hid hK
      have HOK := Lib.hid (okM_true fun i hi j hj => hok (i, j) (mem_allP hi hj))
      clear i1 i2 i3 hok y0 y1 y2 hb0 hK
      go_wp2
      have e1 : (A.setCell ⟨X + 1, 0, none⟩ (.bool true)).heap[D]? = some (.deferred (some [])) := (Below.heap_setCell _ _ _ _ (by simp; omega)).trans HK.out
      refine ⟨by simp, .inl ⟨D, _, rfl, run_takeDeferred e1, ?_⟩⟩
      have hZ := (I2.out.set 0 (.bool true)).put (l := D) (by omega) (.deferred none)
      have z0 := hZ.cell 0
      simp at z0
      refine ⟨.bool true, by simp [results, Try.results35, go_sem, z0], by rw [HOK.out]; rfl, ?_⟩
      rw [hXw]
      exact (i4.setCell (by simp) _).trans (below_put _ _ (by omega) _)
    case stop =>
      rintro D c pre A hD hpre ⟨rfl, hno, i2, i4⟩ hK
      have HK := Lib.hid hK
      have I2 := Lib.hid i2
      clear i2 y0 y1 y2 hb0 hK
      go_wp2
      refine ⟨by simp, .inl ⟨D, _, rfl, run_takeDeferred HK.out, ?_⟩⟩
      have hZ := I2.out.put (l := D) (by omega) (.deferred none)
      have z0 := hZ.cell 0
      simp at z0
      refine ⟨.bool false, by simp [results, Try.results35, go_sem, z0], by rw [hno]; rfl, ?_⟩
      rw [hXw]
      exact i4.trans (below_put _ _ (by omega) _)
end Go.Proofs.Ythnefcafhpioaaa
