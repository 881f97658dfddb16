/-
  The document's Top.
-/
import Derived.Test.YthnefcafhpioaaaDdB
import Derived.Test.YthnefcafhpioaaaDcB
namespace Go.Proofs.Ythnefcafhpioaaa
open Go Go.RowKit Go.Shelf

theorem gM_ext {n : Nat} {m k : List Int} (hm : m.length = n * n) (hk : k.length = n * n) (h : ∀ a b, a < n → b < n → gM n m a b = gM n k a b) : m = k := by
  refine List.ext_getElem (by rw [hm, hk]) fun q h1 h2 => ?_
  have hn : 0 < n := by
    rcases Nat.eq_zero_or_pos n with h0 | h0
    · subst h0; omega
    · exact h0
  have hq : q / n < n := by rw [Nat.div_lt_iff_lt_mul hn]; omega
  have he : q / n * n + q % n = q := Nat.div_add_mod' q n
  have := h (q / n) (q % n) hq (Nat.mod_lt _ hn)
  unfold gM at this
  rw [he, List.getD_eq_getElem?_getD, List.getD_eq_getElem?_getD, List.getElem?_eq_getElem h1, List.getElem?_eq_getElem h2] at this
  exact this
def rt1 (n i : Nat) (m : List Int) (j : Nat) : List Int := if i = j then m else sM n m i j inf
def rtR (n i t : Nat) (m : List Int) : List Int := forN t (rt1 n i) m
def rtI (n t : Nat) : List Int := forN t (fun m i => rtR n i n m) (List.replicate (n * n) 0)
theorem rtR_len (n i t : Nat) (m : List Int) : (rtR n i t m).length = m.length := forN_keep (P := fun (k : List Int) => k.length = m.length) rfl fun j k _ h => by unfold rt1; split <;> simp [sM_len, h]
theorem rtI_len (n t : Nat) : (rtI n t).length = n * n := forN_keep (P := fun (k : List Int) => k.length = n * n) (by simp) fun i k _ h => by rw [rtR_len]; exact h
theorem topI_at {n t : Nat} (ht : t ≤ n) : ∀ a b, a < n → b < n → gM n (topI n t) a b = if a = b ∧ a < t then 0 else inf := by
  have h := forN_ind (n := t) (f := fun m i => sM n m i i 0) (s := List.replicate (n * n) inf) (P := fun t m => m.length = n * n ∧ ∀ a b, a < n → b < n → gM n m a b = if a = b ∧ a < t then 0 else inf)
    ⟨by simp, fun a b ha hb => by
      rw [if_neg (by omega)]
      unfold gM
      rw [List.getD_eq_getElem?_getD, List.getElem?_replicate, if_pos (cell_lt ha hb)]; rfl⟩
    (fun i m hi ⟨hl, hm⟩ => ⟨by rw [sM_len]; exact hl, fun a b ha hb => by
      rw [gM_sM hl (by omega) (by omega) hb]
      by_cases h1 : a = i ∧ b = i
      · rw [if_pos h1, if_pos (by omega)]
      · rw [if_neg h1, hm a b ha hb]
        by_cases h2 : a = b ∧ a < i
        · rw [if_pos h2, if_pos (by omega)]
        · rw [if_neg h2, if_neg (by omega)]⟩)
  exact h.2
theorem rtI_at {n t : Nat} (ht : t ≤ n) : ∀ a b, a < n → b < n → gM n (rtI n t) a b = if a < t ∧ a ≠ b then inf else 0 := by
  have h := forN_ind (n := t) (f := fun m i => rtR n i n m) (s := List.replicate (n * n) 0) (P := fun t m => m.length = n * n ∧ ∀ a b, a < n → b < n → gM n m a b = if a < t ∧ a ≠ b then inf else 0)
    ⟨by simp, fun a b ha hb => by
      rw [if_neg (by omega)]
      unfold gM
      rw [List.getD_eq_getElem?_getD, List.getElem?_replicate, if_pos (cell_lt ha hb)]; rfl⟩
    (fun i m hi ⟨hl, hm⟩ => by
      have h2 := forN_ind (n := n) (f := rt1 n i) (s := m) (P := fun j k => k.length = n * n ∧ ∀ a b, a < n → b < n → gM n k a b = if (a < i ∨ (a = i ∧ b < j)) ∧ a ≠ b then inf else 0)
        ⟨hl, fun a b ha hb => by
          rw [hm a b ha hb]
          by_cases h1 : a < i ∧ a ≠ b
          · rw [if_pos h1, if_pos (by omega)]
          · rw [if_neg h1, if_neg (by omega)]⟩
        (fun j k hj ⟨hk, hkm⟩ => by
          unfold rt1
          by_cases hij : i = j
          · rw [if_pos hij]
            refine ⟨hk, fun a b ha hb => ?_⟩
            rw [hkm a b ha hb]
            by_cases h1 : (a < i ∨ (a = i ∧ b < j)) ∧ a ≠ b
            · rw [if_pos h1, if_pos (by omega)]
            · rw [if_neg h1, if_neg (by omega)]
          · rw [if_neg hij]
            refine ⟨by rw [sM_len]; exact hk, fun a b ha hb => ?_⟩
            rw [gM_sM hk (by omega) hj hb]
            by_cases h0 : a = i ∧ b = j
            · rw [if_pos h0, if_pos (by omega)]
            · rw [if_neg h0, hkm a b ha hb]
              by_cases h1 : (a < i ∨ (a = i ∧ b < j)) ∧ a ≠ b
              · rw [if_pos h1, if_pos (by omega)]
              · rw [if_neg h1, if_neg (by omega)])
      refine ⟨h2.1, fun a b ha hb => ?_⟩
      show gM n (forN n (rt1 n i) m) a b = _
      rw [h2.2 a b ha hb]
      by_cases h1 : (a < i ∨ (a = i ∧ b < n)) ∧ a ≠ b
      · rw [if_pos h1, if_pos (by omega)]
      · rw [if_neg h1, if_neg (by omega)])
  exact h.2
theorem rt_top (n : Nat) : rtI n n = topM n := gM_ext (rtI_len n n) (topM_len n) fun a b ha hb => by
  rw [rtI_at (Nat.le_refl n) a b ha hb, show topM n = topI n n from rfl, topI_at (Nat.le_refl n) a b ha hb]
  by_cases h : a = b
  · rw [if_neg (by omega), if_pos (by omega)]
  · rw [if_pos (by omega), if_neg (by omega)]
set_option maxRecDepth 100000 in
set_option maxHeartbeats 8000000 in
theorem rtop_any (N : Nat) (w : World) (hN : N ≤ 64) : Calls Try.prog 17 #[.int .i64 N] w fun e w' => ∃ a c, e = .returned (ocV (topO N) a c) ∧ MOwn w.heap.size w' (topO N).m a c ∧ Below w.heap.size w w' := by
  obtain ⟨n, hn⟩ : ∃ n, 2 * N = n := ⟨_, rfl⟩
  have hn128 : n ≤ 128 := by omega
  have hNN : N * N ≤ 64 * 64 := Nat.mul_le_mul hN hN
  have hS : 4 * (N * N) = n * n := by rw [← hn, sq4]
  obtain ⟨S, hSS⟩ : ∃ S, n * n = S := ⟨_, rfl⟩
  have hS16 : S ≤ 16384 := by omega
  have HMK := Lib.hid (fun w => make_i64 S hS16 w)
  have hq : 4 * (N : Int) * (N : Int) = (S : Int) := by rw [← hSS, ← hS]; push_cast; rw [Int.mul_assoc]
  have HQ := Lib.hid (And.intro (isI_wrap (x := 4 * (N : Int) * (N : Int)) (by rw [hq]; unfold isI; omega)) (And.intro (IntWalk.wrap64_in (4 * (N : Int) * (N : Int)) (by rw [hq]; omega)) hq))
  obtain ⟨X, hX⟩ : ∃ X, w.heap.size = X := ⟨_, rfl⟩
  obtain ⟨W1, hW1⟩ : ∃ W, w.alloc (.cells #[.int .i64 0, .bool false, .slice none 0 0] 24) = W := ⟨_, rfl⟩
  have hx1 : Blk W1 X #[.int .i64 0, .bool false, .slice none 0 0] 24 := by rw [← hW1, ← hX]; exact Blk.new w _ _
  have hb1 : Below X w W1 := by rw [← hW1, ← hX]; exact (Below.refl _ w).alloc (Nat.le_refl _) _
  have hs1 : W1.heap.size = X + 1 := by rw [← hW1, ← hX]; simp
  have HW := Lib.hid (And.intro hX hW1)
  have HB := Lib.hid (And.intro hb1 (And.intro hx1 hs1))
  have HN := Lib.hid (And.intro hn (And.intro hSS (And.intro hN (And.intro hn128 hS16))))
  clear hX hW1 hx1 hb1 hs1 hNN hS hSS hS16 hq hn
  go_enter Try.func17, Try.ntmps17
  go_upto_region 1 with fail
  rw [HW.out.1, HW.out.2]
  have hmk := HMK.out
  obtain ⟨m1, m2, m3⟩ := HQ.out
  rw [m3] at m1 m2
  go_upto_region 2 with fail
  rw [HB.out.2.2]
  obtain ⟨W2, hW2⟩ : ∃ W, (W1.alloc (.cells (cvI (List.replicate S 0)).toArray 2)).alloc (.cells #[.int .i64 N, .bool false, .slice (some ⟨X + 1, 0, none⟩) S S] 24) = W := ⟨_, rfl⟩
  have hbb : Below (X + 1) W1 W2 := by rw [← hW2, ← HB.out.2.2]; exact ((Below.refl _ W1).alloc (Nat.le_refl _) _).alloc (by simp) _
  have hx2 : Blk W2 X #[.int .i64 0, .bool false, .slice none 0 0] 24 := HB.out.2.1.below hbb (by omega)
  have hy2 : Blk W2 (X + 2) #[.int .i64 N, .bool false, .slice (some ⟨X + 1, 0, none⟩) S S] 24 := by
    have h := Blk.new (W1.alloc (.cells (cvI (List.replicate S 0)).toArray 2)) #[.int .i64 N, .bool false, .slice (some ⟨X + 1, 0, none⟩) S S] 24
    rw [World.size_alloc, HB.out.2.2] at h
    rw [← hW2]; exact h
  have hr2 : MOwn (X + 1) W2 (rtI n 0) (some ⟨X + 1, 0, none⟩) S := by
    have e : rtI n 0 = List.replicate S 0 := by rw [← HN.out.2.1]; rfl
    rw [e]
    refine ⟨by simp, by unfold maxLen; have := HN.out.2.2.2.2; omega, .inr ⟨X + 1, (cvI (List.replicate S 0)).toArray, rfl, Nat.le_refl _, ?_, fun i hi => by rw [List.getElem?_toArray, cvI_at _ i hi]⟩⟩
    have h := (Blk.new W1 (cvI (List.replicate S 0)).toArray 2).alloc (.cells #[.int .i64 N, .bool false, .slice (some ⟨X + 1, 0, none⟩) S S] 24)
    rw [HB.out.2.2] at h
    rw [← hW2]; exact h
  have HF := Lib.hid (And.intro hr2 (And.intro hx2 (And.intro hy2 (HB.out.1.trans (hbb.mono (by omega))))))
  rw [hW2]
  clear hW2 hbb hx2 hy2 hr2 hmk m1 m2 m3 HMK HQ
  go_wp2_with fail
  go_loopw [4] (fun x wr => ∃ i : Nat, x = .int .i64 i ∧ i ≤ n ∧ MOwn (X + 1) wr (rtI n i) (some ⟨X + 1, 0, none⟩) S ∧ Blk wr X #[.int .i64 0, .bool false, .slice none 0 0] 24 ∧ Blk wr (X + 2) #[.int .i64 N, .bool false, .slice (some ⟨X + 1, 0, none⟩) S S] 24 ∧ Below X w wr) (fun x _ => n - (intOf x).toNat)
  case atStart => exact ⟨0, rfl, by omega, HF.out.1, HF.out.2.1, HF.out.2.2.1, HF.out.2.2.2⟩
  case round =>
    clear HF
    obtain ⟨i, rfl, hi, hr, hx, hy, hb⟩ := hrel
    by_cases hlt : i < n
    · have k1 : (i : Int) < 2 * (N : Int) := by have := HN.out.1; omega
      have HO := Lib.hid (And.intro hr (And.intro hx (And.intro hy hb)))
      clear hr hx hy hb
      go_wp2_with fail
      go_loopw [5] (fun x wr => ∃ j : Nat, x = .int .i64 j ∧ j ≤ n ∧ MOwn (X + 1) wr (rtR n i j (rtI n i)) (some ⟨X + 1, 0, none⟩) S ∧ Blk wr X #[.int .i64 0, .bool false, .slice none 0 0] 24 ∧ Blk wr (X + 2) #[.int .i64 N, .bool false, .slice (some ⟨X + 1, 0, none⟩) S S] 24 ∧ Below X w wr) (fun x _ => n - (intOf x).toNat)
      case atStart => exact ⟨0, rfl, by omega, HO.out.1, HO.out.2.1, HO.out.2.2.1, HO.out.2.2.2⟩
      case round =>
        clear HO
        obtain ⟨j, rfl, hj, hr, hx, hy, hb⟩ := hrel
        by_cases hjt : j < n
        · have k2 : (j : Int) < 2 * (N : Int) := by have := HN.out.1; omega
          have hst : rtR n i (j + 1) (rtI n i) = rt1 n i (rtR n i j (rtI n i)) j := by unfold rtR; rw [forN_succ]
          by_cases hij : i = j
          · have k3 : ((i : Int) != (j : Int)) = false := by simp [hij]
            have hst2 : rtR n i (j + 1) (rtI n i) = rtR n i j (rtI n i) := by rw [hst]; unfold rt1; rw [if_pos hij]
            have HR := Lib.hid (And.intro (hst2 ▸ hr) (And.intro hx (And.intro hy hb)))
            clear hr hx hy hb hst hst2
            go_wp2_with fail
            go_roundw
            case rel => exact ⟨j + 1, by go_num, by omega, HR.out.1, HR.out.2.1, HR.out.2.2.1, HR.out.2.2.2⟩
            case measure => simp [intOf]; omega
          · have k3 : ((i : Int) != (j : Int)) = true := by simp; omega
            have hst2 : rtR n i (j + 1) (rtI n i) = (rtR n i j (rtI n i)).set (i * n + j) inf := by rw [hst]; unfold rt1; rw [if_neg hij]; rfl
            have y2 : wr.cell? ⟨X + 2, 2, none⟩ = some (.slice (some ⟨X + 1, 0, none⟩) S S) := hy.cell 2
            have hlen : (rtR n i j (rtI n i)).length = S := by rw [rtR_len, rtI_len, HN.out.2.1]
            have hT0 := cell_lt hlt hjt
            rw [HN.out.2.1] at hT0
            obtain ⟨g, hg, -, -, hc, hf⟩ := hr.at (i := i * n + j) (by rw [hlen]; exact hT0)
            cases hg
            obtain ⟨P, hP⟩ : ∃ P, i * n = P := ⟨_, rfl⟩
            obtain ⟨T, hT⟩ : ∃ T, P + j = T := ⟨_, rfl⟩
            rw [hP, hT] at hc hf hT0 hst2
            obtain ⟨C, hC⟩ : ∃ C, (rtR n i j (rtI n i)).getD T 0 = C := ⟨_, rfl⟩
            rw [hC] at hc
            have tl : (T : Int) < (S : Int) := by omega
            have HR := Lib.hid (And.intro (hr.set T inf) (And.intro (hx.other (a := ⟨X + 1, T, none⟩) (by simp) (.int .i64 inf)) (And.intro (hy.other (a := ⟨X + 1, T, none⟩) (by simp) (.int .i64 inf)) (And.intro (hb.setCell (p := ⟨X + 1, T, none⟩) (by simp) (.int .i64 inf)) hst2))))
            have hix := ixd (N := N) HN.out.2.2.1 (show i < 2 * N by have := HN.out.1; omega) (show j < 2 * N by have := HN.out.1; omega) (by rw [HN.out.1]; exact hP) hT
            obtain ⟨q1, q2, q3, q4⟩ := hix
            clear hr hx hy hb hst hst2 hlen hC hT0 hP hT
            go_wp2_with fail
            clear q1 q2 q3 q4
            go_roundw
            case rel => exact ⟨j + 1, by go_num, by omega, by rw [HR.out.2.2.2.2]; exact HR.out.1, HR.out.2.1, HR.out.2.2.1, HR.out.2.2.2.1⟩
            case measure => simp [intOf]; omega
        · have k2 : 2 * (N : Int) ≤ (j : Int) := by have := HN.out.1; omega
          obtain rfl : j = n := by omega
          have hst : rtI j (i + 1) = rtR j i j (rtI j i) := by unfold rtI; rw [forN_succ]
          rw [← hst] at hr
          have HR := Lib.hid (And.intro hr (And.intro hx (And.intro hy hb)))
          clear hr hx hy hb hst
          go_wp2_with fail
          go_roundw
          case rel => exact ⟨i + 1, by go_num, by omega, HR.out.1, HR.out.2.1, HR.out.2.2.1, HR.out.2.2.2⟩
          case measure => simp [intOf]; omega
    · have k1 : 2 * (N : Int) ≤ (i : Int) := by have := HN.out.1; omega
      obtain rfl : i = n := by omega
      have z0 := hy.cell 0
      have z1 := hy.cell 1
      have z2 := hy.cell 2
      have f0 := hx.cell 0
      have f1 := hx.cell 1
      have f2 := hx.cell 2
      have g0 := hx.free 0
      have g1 := hx.free 1
      have g2 := hx.free 2
      rw [rt_top] at hr
      have HR := Lib.hid (And.intro hr (And.intro hx hb))
      clear hr hx hy hb
      go_wp2_with fail
      refine bodyPost_ret (results_cell_row rfl _ _ X _ #[.int .i64 N, .bool false, .slice (some ⟨X + 1, 0, none⟩) S S] _ _ rfl (set3_blk HR.out.2.1) rfl rfl (by kernel_rfl)) rfl ?_
      have hto : (topO (N : Int)).m = topM i := by show topM (2 * ((N : Int)).toNat) = _; rw [show 2 * ((N : Int)).toNat = i by have := HN.out.1; omega]
      refine ⟨some ⟨X + 1, 0, none⟩, S, ?_, ?_, ?_⟩
      · show _ = Ending.returned (.agg #[.int .i64 N, .bool false, .slice (some ⟨X + 1, 0, none⟩) (topO (N : Int)).m.length S])
        rw [hto, topM_len, HN.out.2.1]
      · rw [hto, HW.out.1]; exact (HR.out.1.set3 (by omega)).lower (by omega)
      · rw [HW.out.1]; exact set3_below HR.out.2.2 (Nat.le_refl _)
end Go.Proofs.Ythnefcafhpioaaa
