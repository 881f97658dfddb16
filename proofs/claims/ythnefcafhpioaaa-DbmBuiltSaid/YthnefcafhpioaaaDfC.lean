/-
  The document's First and Cells.
-/
import Derived.Test.YthnefcafhpioaaaDfB
import Derived.Test.YthnefcafhpioaaaDcB
namespace Go.Proofs.Ythnefcafhpioaaa
open Go Go.RowKit Go.Shelf

def fiB (i j : Nat) : Bool := decide (i < acr j) || (decide (i = acr j) && decide (j ≤ acr i))
theorem fiB_fst (i j : Nat) : fiB i j = decide (fstP i j = (i, j)) := by
  unfold fiB fstP
  by_cases h : acr j < i
  · rw [if_pos h, decide_eq_false (show ¬ i < acr j by omega), decide_eq_false (show ¬ i = acr j by omega)]
    have h2 : ¬ ((acr j, acr i) = (i, j)) := fun e => by injection e with e1 e2; omega
    rw [decide_eq_false h2]
    rfl
  · rw [if_neg h]
    by_cases h2 : i < acr j
    · rw [decide_eq_true h2]; simp
    · have h3 : i = acr j := by omega
      have h4 : acr i = j := by rw [h3, acr_acr]
      rw [decide_eq_true h3, decide_eq_true (show j ≤ acr i by omega)]; simp
set_option maxRecDepth 100000 in
set_option maxHeartbeats 4000000 in
theorem rfirst_any (i j : Nat) (hi : i < 128) (hj : j < 128) (w : World) : Calls Try.prog 55 #[.int .i64 i, .int .i64 j] w fun e w' => e = .returned (.bool (fiB i j)) ∧ w' = w := by
  have HI := Lib.hid (fun w => racr_any i (by omega) w)
  have HJ := Lib.hid (fun w => racr_any j (by omega) w)
  have HV : Hid (fiB i j = (decide (i < acr j) || (decide (i = acr j) && decide (j ≤ acr i)))) := Lib.hid rfl
  obtain ⟨A, hA⟩ : ∃ A, acr j = A := ⟨_, rfl⟩
  obtain ⟨B, hB⟩ : ∃ A, acr i = A := ⟨_, rfl⟩
  obtain ⟨R, hR⟩ : ∃ R, fiB i j = R := ⟨_, rfl⟩
  rw [hA] at HJ HV
  rw [hB] at HI HV
  rw [hR] at HV ⊢
  clear hA hB hR
  by_cases h1 : i < A
  · have k1 : decide (i < A) = true := decide_eq_true h1
    have HR : Hid (R = true) := Lib.hid (by rw [HV.out, k1]; rfl)
    clear h1 HV
    go_enter Try.func55, Try.ntmps55
    go_wp2_with (first | (go_at_call 37; first | ((with_reducible refine (HJ.out _).mono ?_); rintro e w1 ⟨rfl, rfl⟩) | ((with_reducible refine (HI.out _).mono ?_); rintro e w1 ⟨rfl, rfl⟩)) | fail)
    go_ret
    exact ⟨by rw [HR.out]; rfl, rfl⟩
  · have k1 : decide (i < A) = false := decide_eq_false h1
    by_cases h2 : i = A
    · have k2 : ((i : Int) == (A : Int)) = true := by simp [h2]
      have HR : Hid (R = decide (j ≤ B)) := Lib.hid (by rw [HV.out, k1, decide_eq_true h2]; simp)
      clear h1 h2 HV
      go_enter Try.func55, Try.ntmps55
      go_wp2_with (first | (go_at_call 37; first | ((with_reducible refine (HJ.out _).mono ?_); rintro e w1 ⟨rfl, rfl⟩) | ((with_reducible refine (HI.out _).mono ?_); rintro e w1 ⟨rfl, rfl⟩)) | fail)
      go_ret
      exact ⟨by rw [HR.out]; rfl, rfl⟩
    · have k2 : ((i : Int) == (A : Int)) = false := by simp; omega
      have HR : Hid (R = false) := Lib.hid (by rw [HV.out, k1, decide_eq_false h2]; simp)
      clear h1 h2 HV
      go_enter Try.func55, Try.ntmps55
      go_wp2_with (first | (go_at_call 37; first | ((with_reducible refine (HJ.out _).mono ?_); rintro e w1 ⟨rfl, rfl⟩) | ((with_reducible refine (HI.out _).mono ?_); rintro e w1 ⟨rfl, rfl⟩)) | fail)
      go_ret
      exact ⟨by rw [HR.out]; rfl, rfl⟩
/-- The cells of what Cells lists. -/
def flC (l : List ((Nat × Nat) × Int)) : List Value := l.flatMap fun x => [.int .i64 x.1.1, .int .i64 x.1.2, .int .i64 x.2]
theorem flC_snoc (l : List ((Nat × Nat) × Int)) (x : (Nat × Nat) × Int) : flC (l ++ [x]) = flC l ++ [.int .i64 x.1.1, .int .i64 x.1.2, .int .i64 x.2] := by unfold flC; rw [List.flatMap_append]; simp
theorem celL_le (n : Nat) (m : List Int) (l : List (Nat × Nat)) : (celL n m l).length ≤ l.length := by unfold celL; rw [List.length_map]; exact List.length_filter_le _ _
theorem preP_len (n : Nat) : ∀ i j, (preP n i j).length = i * n + j := by
  intro i
  induction i with
  | zero => intro j; simp [preP]
  | succ i ih =>
    intro j
    have h := ih n
    rw [preP_i] at h
    have e : preP n (i + 1) j = preP n (i + 1) 0 ++ (List.range j).map fun k => (i + 1, k) := by simp [preP]
    rw [e, List.length_append, h, List.length_map, List.length_range, Nat.succ_mul]
theorem int_three (a b c : Int) : ∀ u ∈ ([.int .i64 a, .int .i64 b, .int .i64 c] : List Value), u.oneCell' = true := by
  intro u hu
  simp only [List.mem_cons, List.not_mem_nil, or_false] at hu
  rcases hu with rfl | rfl | rfl <;> rfl
theorem info_cell : (Try.prog.info? 56).map (fun i => (i.zero, i.size, i.bytes)) = some (some (.agg #[.int .i64 0, .int .i64 0, .int .i64 0]), 3, 24) := by kernel_rfl
set_option maxRecDepth 100000 in
set_option maxHeartbeats 4000000 in
theorem rcells_no (x : Oc) (a : Option Addr) (c : Nat) (w : World) (hm : MAt w x.m a) (h : chkO x ≠ 0 ∨ x.em = true) :
    Calls Try.prog 29 #[ocV x a c] w fun e w' => e = .returned (.slice none 0 0) ∧ Below w.heap.size w w' := by
  obtain ⟨n, em, m⟩ := x
  simp only at hm
  show Calls Try.prog 29 #[.agg #[.int .i64 n, .bool em, .slice a m.length c]] w _
  obtain ⟨X, hX⟩ : ∃ X, w.heap.size = X := ⟨_, rfl⟩
  obtain ⟨W1, hW1⟩ : ∃ W, w.alloc (.cells #[.int .i64 n, .bool em, .slice a m.length c] 24) = W := ⟨_, rfl⟩
  have hx1 : Blk W1 X #[.int .i64 n, .bool em, .slice a m.length c] 24 := by rw [← hW1, ← hX]; exact Blk.new w _ _
  have hb1 : Below w.heap.size w W1 := by rw [← hW1]; exact (Below.refl _ w).alloc (Nat.le_refl _) _
  have HC : Hid (Calls Try.prog 11 #[.agg #[.int .i64 n, .bool em, .slice a m.length c]] W1 fun e w' => e = .returned (.int .i64 (chkO ⟨n, em, m⟩)) ∧ Below W1.heap.size W1 w') := Lib.hid (rchk_any ⟨n, em, m⟩ a c W1 (hm.next hb1))
  have HW := Lib.hid (And.intro hX hW1)
  have HB := Lib.hid (And.intro hx1 hb1)
  have x0 : W1.cell? ⟨X, 0, none⟩ = some (.int .i64 n) := hx1.cell 0
  have x1 : W1.cell? ⟨X, 1, none⟩ = some (.bool em) := hx1.cell 1
  have x2 : W1.cell? ⟨X, 2, none⟩ = some (.slice a m.length c) := hx1.cell 2
  obtain ⟨L, hL⟩ : ∃ L, m.length = L := ⟨_, rfl⟩
  obtain ⟨F, hF⟩ : ∃ F, chkO ⟨n, em, m⟩ = F := ⟨_, rfl⟩
  simp only at h
  rw [hF] at HC h
  rw [hL] at x2 HW HC HB ⊢
  clear hX hW1 hx1 hb1 hm hL hF
  by_cases h0 : F = 0
  · have he : em = true := h.resolve_left (by simp [h0])
    subst he
    have k0 : (F != 0) = false := by simp [h0]
    clear h h0
    go_enter Try.func29, Try.ntmps29
    go_upto_region 1 with fail
    rw [HW.out.1, HW.out.2]
    go_wp2_with (first | (go_at_call 11; ((with_reducible refine HC.out.mono ?_); rintro e w2 ⟨rfl, hb2⟩; have H2 := Lib.hid (And.intro (HB.out.1.below hb2 HB.out.1.lt) hb2); have y1 := H2.out.1.cell 1)) | fail)
    go_ret
    exact ⟨rfl, HB.out.2.trans (H2.out.2.mono HB.out.2.size)⟩
  · have k0 : (F != 0) = true := by simp [h0]
    clear h h0
    go_enter Try.func29, Try.ntmps29
    go_upto_region 1 with fail
    rw [HW.out.1, HW.out.2]
    go_wp2_with (first | (go_at_call 11; ((with_reducible refine HC.out.mono ?_); rintro e w2 ⟨rfl, hb2⟩; have H2 := Lib.hid (And.intro (HB.out.1.below hb2 HB.out.1.lt) hb2); have y1 := H2.out.1.cell 1)) | fail)
    go_ret
    exact ⟨rfl, HB.out.2.trans (H2.out.2.mono HB.out.2.size)⟩
/-- What holds while the document's Cells collects. -/
structure RcJ (X : Nat) (W1 : World) (n : Nat) (m : List Int) (pre : List (Nat × Nat)) (v : Value) (W : World) : Prop where
  own : W.ownsRow (X + 1) 56 3 v (celL n m pre).length (flC (celL n m pre))
  low : Below (X + 1) W1 W
set_option maxRecDepth 100000 in
set_option maxHeartbeats 8000000 in
theorem rcells_yes (N : Nat) (m : List Int) (a : Option Addr) (c : Nat) (w : World) (hm : MAt w m a) (h : chkO ⟨N, false, m⟩ = 0) :
    Calls Try.prog 29 #[ocV ⟨N, false, m⟩ a c] w fun e w' => ∃ v, e = .returned v ∧ w'.ownsRow w.heap.size 56 3 v (celL (2 * N) m (allP (2 * N))).length (flC (celL (2 * N) m (allP (2 * N)))) ∧ Below w.heap.size w w' := by
  show Calls Try.prog 29 #[.agg #[.int .i64 N, .bool false, .slice a m.length c]] w _
  obtain ⟨N', hN, hn', hem, hok⟩ := chk_zero h
  obtain ⟨hlen, hokm⟩ := hok rfl
  obtain rfl : N = N' := by
    have h2 : (N : Int) = (N' : Int) := hn'
    omega
  clear hn' hem hok
  obtain ⟨n, hn⟩ : ∃ n, 2 * N = n := ⟨_, rfl⟩
  simp only at hlen hokm
  rw [hn] at hlen hokm ⊢
  have hn128 : n ≤ 128 := by omega
  obtain ⟨i0, hi0, hz0, hz1, hz2⟩ := info_parts info_cell
  obtain ⟨X, hX⟩ : ∃ X, w.heap.size = X := ⟨_, rfl⟩
  obtain ⟨W1, hW1⟩ : ∃ W, w.alloc (.cells #[.int .i64 N, .bool false, .slice a m.length c] 24) = W := ⟨_, rfl⟩
  have hx1 : Blk W1 X #[.int .i64 N, .bool false, .slice a m.length c] 24 := by rw [← hW1, ← hX]; exact Blk.new w _ _
  have hb1 : Below w.heap.size w W1 := by rw [← hW1]; exact (Below.refl _ w).alloc (Nat.le_refl _) _
  have hs1 : W1.heap.size = X + 1 := by rw [← hW1, ← hX]; simp
  have HC : Hid (Calls Try.prog 11 #[.agg #[.int .i64 N, .bool false, .slice a m.length c]] W1 fun e w' => e = .returned (.int .i64 0) ∧ Below W1.heap.size W1 w') := Lib.hid (by have h2 := rchk_any ⟨N, false, m⟩ a c W1 (hm.next hb1); rw [h] at h2; exact h2)
  have HW := Lib.hid (And.intro hX hW1)
  have HB := Lib.hid (And.intro hx1 (And.intro hb1 (And.intro (hm.next hb1) hs1)))
  have x0 : W1.cell? ⟨X, 0, none⟩ = some (.int .i64 N) := hx1.cell 0
  have x1 : W1.cell? ⟨X, 1, none⟩ = some (.bool false) := hx1.cell 1
  have x2 : W1.cell? ⟨X, 2, none⟩ = some (.slice a m.length c) := hx1.cell 2
  have HN := Lib.hid (And.intro hn (And.intro hlen (And.intro hN hn128)))
  have HI := Lib.hid (And.intro hi0 (And.intro hz0 (And.intro hz1 hz2)))
  have HFI : Hid (∀ (i j : Nat) (ww : World), i < n → j < n → Calls Try.prog 55 #[.int .i64 i, .int .i64 j] ww fun e w' => e = .returned (.bool (decide (fstP i j = (i, j)))) ∧ w' = ww) := Lib.hid fun i j ww hi hj => by
    have h2 := rfirst_any i j (by omega) (by omega) ww
    rw [fiB_fst] at h2
    exact h2
  obtain ⟨L, hL⟩ : ∃ L, m.length = L := ⟨_, rfl⟩
  have HLL := Lib.hid hL
  rw [hL] at x2 HW HC HB ⊢
  clear hX hW1 hx1 hb1 hm hL h hlen hokm hs1 hi0 hz0 hz1 hz2 hn
  go_enter Try.func29, Try.ntmps29
  go_upto_region 1 with fail
  rw [HW.out.1, HW.out.2]
  go_upto_region 3 with (first | (go_at_call 11; ((with_reducible refine HC.out.mono ?_); rintro e w2 ⟨rfl, hb2⟩; have H2 := Lib.hid (And.intro (HB.out.1.below hb2 HB.out.1.lt) hb2); have y1 := H2.out.1.cell 1)) | fail)
  have HJ0 : Hid (RcJ X W1 n m (preP n 0 0) (.slice none 0 0) w2) := Lib.hid ⟨World.ownsRow_nil _ _ _ _, by have h2 := H2.out.2; rw [HB.out.2.2.2] at h2; exact h2⟩
  have HKX : Hid (∀ ww, Below (X + 1) W1 ww → Blk ww X #[.int .i64 N, .bool false, .slice a L c] 24 ∧ MAt ww m a) := Lib.hid fun ww hb => by
    rw [← HB.out.2.2.2] at hb
    exact ⟨HB.out.1.below hb HB.out.1.lt, HB.out.2.2.1.next hb⟩
  clear y1 x0 x1 x2 hb2 HC H2
  go_wp2_with fail
  go_loopw [3, 4] (fun v x wr => ∃ i : Nat, x = .int .i64 i ∧ i ≤ n ∧ RcJ X W1 n m (preP n i 0) v wr) (fun _ x _ => n - (intOf x).toNat)
  case atStart => exact ⟨0, rfl, by omega, HJ0.out⟩
  case round =>
    clear HJ0
    obtain ⟨i, rfl, hi, hr⟩ := hrel
    have y0 := (HKX.out _ hr.low).1.cell 0
    by_cases hlt : i < n
    · have k1 : (i : Int) < 2 * (N : Int) := by have := HN.out.1; omega
      have HO := Lib.hid hr
      clear hr
      go_wp2_with fail
      clear y0
      go_loopw [3, 5] (fun v x wr => ∃ j : Nat, x = .int .i64 j ∧ j ≤ n ∧ RcJ X W1 n m (preP n i j) v wr) (fun _ x _ => n - (intOf x).toNat)
      case atStart => exact ⟨0, rfl, by omega, HO.out⟩
      case round =>
        clear HO
        obtain ⟨j, rfl, hj, hr⟩ := hrel
        have y0 := (HKX.out _ hr.low).1.cell 0
        by_cases hjt : j < n
        · have k2 : (j : Int) < 2 * (N : Int) := by have := HN.out.1; omega
          have hpj := preP_j n i j
          by_cases kB : i = j
          · have k3 : ((i : Int) != (j : Int)) = false := by simp [kB]
            have HR : Hid (RcJ X W1 n m (preP n i (j + 1)) u3 wr) := Lib.hid (by
              rw [← hpj]
              have e := celL_no (n := n) (m := m) (l := preP n i j) (x := (i, j)) (by unfold celB; simp [kB])
              exact ⟨by rw [e]; exact hr.own, hr.low⟩)
            clear hr hpj kB
            go_wp2_with fail
            go_roundw
            case rel => exact ⟨j + 1, by go_num, by omega, HR.out⟩
            case measure => simp [intOf]; omega
          · have k3 : ((i : Int) != (j : Int)) = true := by simp; omega
            have HF := Lib.hid (fun ww => HFI.out i j ww hlt hjt)
            by_cases kC : fstP i j = (i, j)
            · rw [decide_eq_true kC] at HF
              obtain ⟨hxr, hmr⟩ := HKX.out _ hr.low
              have hT0 := cell_lt hlt hjt
              rw [← HN.out.2.1] at hT0
              obtain ⟨b, ob, rfl, hc⟩ := mat_at hmr hT0
              have cT : wr.cell? ⟨b, ob + (i * n + j), none⟩ = some (.int .i64 (gM n m i j)) := gM_at hmr HN.out.2.1 hlt hjt
              obtain ⟨C, hC⟩ : ∃ C, gM n m i j = C := ⟨_, rfl⟩
              rw [hC] at cT
              obtain ⟨P, hP⟩ : ∃ P, i * n = P := ⟨_, rfl⟩
              obtain ⟨T, hT⟩ : ∃ T, P + j = T := ⟨_, rfl⟩
              rw [hP, hT] at cT hT0
              have tl : (T : Int) < (L : Int) := by have := HLL.out; omega
              have y2 := hxr.cell 2
              have HQ := Lib.hid (ixd (N := N) HN.out.2.2.1 (show i < 2 * N by have := HN.out.1; omega) (show j < 2 * N by have := HN.out.1; omega) (by rw [HN.out.1]; exact hP) hT)
              by_cases kA : C = inf
              · have k4 : (C != 9223372036854775807) = false := by simp [kA]
                have HR : Hid (RcJ X W1 n m (preP n i (j + 1)) u3 wr) := Lib.hid (by
                  rw [← hpj]
                  have e := celL_no (n := n) (m := m) (l := preP n i j) (x := (i, j)) (by unfold celB; simp [hC, kA])
                  exact ⟨by rw [e]; exact hr.own, hr.low⟩)
                clear hr hpj kB kC kA hC hP hT hT0 hc hmr hxr
                obtain ⟨q1, q2, q3, q4⟩ := HQ.out
                go_wp2_with (first | (go_at_call 55; (with_reducible refine (HF.out _).mono ?_); rintro e wr ⟨rfl, rfl⟩) | fail)
                clear q1 q2 q3 q4
                go_roundw
                case rel => exact ⟨j + 1, by go_num, by omega, HR.out⟩
                case measure => simp [intOf]; omega
              · have k4 : (C != 9223372036854775807) = true := by simp; exact kA
                have e := celL_yes (n := n) (m := m) (l := preP n i j) (x := (i, j)) (by unfold celB; simp [hC, kA, kB, kC])
                rw [hpj, hC] at e
                have hcl := celL_le n m (preP n i j)
                rw [preP_len, hP, hT] at hcl
                have h2 : T < 16384 := by have h1 := HN.out.2.1; have h3 := HN.out.2.2.2; have : n * n ≤ 128 * 128 := Nat.mul_le_mul h3 h3; omega
                obtain ⟨M, hM⟩ : ∃ M, (celL n m (preP n i j)).length = M := ⟨_, rfl⟩
                have HE : Hid (celL n m (preP n i (j + 1)) = celL n m (preP n i j) ++ [((i, j), C)]) := Lib.hid e
                have hro := hr.own
                rw [hM] at hro
                have HRO := Lib.hid (And.intro hro hr.low)
                have HRS : Hid (X + 1 ≤ wr.heap.size) := Lib.hid (by have h1 := hr.low.size; rw [← HB.out.2.2.2]; exact h1)
                have HSZ : Hid (X + 1 ≤ (wr.alloc (.cells #[.int .i64 i, .int .i64 j, .int .i64 C] 56)).heap.size) := Lib.hid (by rw [World.size_alloc]; exact Nat.le_succ_of_le HRS.out)
                have HNW := Lib.hid (World.news_of_block (cs := #[.int .i64 i, .int .i64 j, .int .i64 C]) (t := 56) (fr := (0, 0)) (heap_alloc_new wr (.cells #[.int .i64 i, .int .i64 j, .int .i64 C] 56)))
                have HLN := Lib.hid (show M + 1 ≤ maxLen by unfold maxLen; omega)
                have HBY := Lib.hid (show (M + 1) * 24 ≤ 140737488355328 by omega)
                have HM := Lib.hid hM
                clear hr hpj kB kC kA hC hP hT hT0 hc hmr hxr e hcl h2 hro hM
                obtain ⟨q1, q2, q3, q4⟩ := HQ.out
                go_upto_region 11 with (first | (go_at_call 55; (with_reducible refine (HF.out _).mono ?_); rintro e wr ⟨rfl, rfl⟩) | fail)
                go_wp2_with (first | (at_builtin; (with_reducible refine wpList_append_lies _ rfl (.tmp 49) (.tmp 64) 49 rfl (X + 1) 56 i0 _ 3 24 Try.underlying49 HI.out.1 HI.out.2.1 HI.out.2.2.1 HI.out.2.2.2 rfl (by decide) _ M (flC (celL n m (preP n i j))) rfl (HRO.out.1.alloc _) ⟨_, 0, none⟩ 1 1 [.int .i64 i, .int .i64 j, .int .i64 C] rfl rfl HNW.out (int_three _ _ _) (by decide) HLN.out HBY.out HSZ.out _ rfl ?_); (intro gg cap w5 hown5 hgrow hat hlt5; have HG5 := Lib.hid (And.intro hown5 hgrow); clear hown5 hgrow hat hlt5)) | fail)
                clear q1 q2 q3 q4
                have HR : Hid (RcJ X W1 n m (preP n i (j + 1)) (.slice (some ⟨gg, 0, none⟩) (M + 1) cap) w5) := Lib.hid (by
                  have h1 := HG5.out.1
                  have e1 := flC_snoc (celL n m (preP n i j)) ((i, j), C)
                  rw [← e1, ← HE.out] at h1
                  have e2 : (celL n m (preP n i (j + 1))).length = M + 1 := by rw [HE.out, List.length_append, HM.out]; rfl
                  exact ⟨by rw [e2]; exact h1, below_grown' (HRO.out.2.alloc HRS.out _) HSZ.out HG5.out.2 (fun r hr => (HRO.out.1.lt r hr).1)⟩)
                go_roundw
                case rel => exact ⟨j + 1, by go_num, by omega, HR.out⟩
                case measure => simp [intOf]; omega
            · rw [decide_eq_false kC] at HF
              have HR : Hid (RcJ X W1 n m (preP n i (j + 1)) u3 wr) := Lib.hid (by
                rw [← hpj]
                have e := celL_no (n := n) (m := m) (l := preP n i j) (x := (i, j)) (by unfold celB; simp [kC])
                exact ⟨by rw [e]; exact hr.own, hr.low⟩)
              clear hr hpj kB kC
              go_wp2_with (first | (go_at_call 55; (with_reducible refine (HF.out _).mono ?_); rintro e wr ⟨rfl, rfl⟩) | fail)
              go_roundw
              case rel => exact ⟨j + 1, by go_num, by omega, HR.out⟩
              case measure => simp [intOf]; omega
        · have k2 : 2 * (N : Int) ≤ (j : Int) := by have := HN.out.1; omega
          obtain rfl : j = n := by omega
          rw [preP_i] at hr
          have HR := Lib.hid hr
          clear hr
          go_wp2_with fail
          go_roundw
          case rel => exact ⟨i + 1, by go_num, by omega, HR.out⟩
          case measure => simp [intOf]; omega
    · have k1 : 2 * (N : Int) ≤ (i : Int) := by have := HN.out.1; omega
      obtain rfl : i = n := by omega
      rw [preP_all] at hr
      have HR := Lib.hid hr
      clear hr
      go_wp2_with fail
      go_ret
      exact ⟨_, rfl, by rw [HW.out.1]; exact ⟨HR.out.own.1, HR.out.own.2.imp id fun ⟨g, cap, cur, h1, h2, h3⟩ => ⟨g, cap, cur, h1, by omega, h3⟩⟩, HB.out.2.1.trans (HR.out.low.mono (by rw [HW.out.1]; omega))⟩
end Go.Proofs.Ythnefcafhpioaaa
