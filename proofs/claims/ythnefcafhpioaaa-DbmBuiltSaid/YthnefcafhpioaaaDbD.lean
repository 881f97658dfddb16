/-
  Package dbm: Check and Top.
-/
import Derived.Test.YthnefcafhpioaaaDbC
namespace Go.Proofs.Ythnefcafhpioaaa
open Go Go.RowKit Go.Shelf

theorem sq4 (N : Nat) : 2 * N * (2 * N) = 4 * (N * N) := by rw [Nat.mul_mul_mul_comm]
theorem chk_bad {x : Oc} (h : numB x.n = false) : chkO x = 120 := by
  unfold chkO
  rw [if_pos]
  rcases numB_false h with h | h
  · exact .inl h
  · exact .inr (.inl h)
theorem chk_sized {N : Nat} {em : Bool} {m : List Int} (h : (if em then (m.length : Int) == 0 else (m.length : Int) == ((4 * (N * N) : Nat) : Int)) = false) : chkO ⟨N, em, m⟩ = 120 := by
  unfold chkO
  rw [if_pos]
  cases em with
  | true => exact .inr (.inr (.inl ⟨rfl, fun e => by simp [e] at h⟩))
  | false =>
    refine .inr (.inr (.inr ⟨rfl, fun e => ?_⟩))
    simp only [Bool.false_eq_true, if_false, beq_eq_false_iff_ne, ne_eq] at h
    simp only at e
    exact h (by rw [e, Int.mul_assoc]; push_cast; rfl)
theorem chk_ok {N : Nat} {em : Bool} {m : List Int} (hN : N ≤ 64) (h : (if em then (m.length : Int) == 0 else (m.length : Int) == ((4 * (N * N) : Nat) : Int)) = true) : chkO ⟨N, em, m⟩ = if (em || okM (2 * N) m) = true then 0 else 121 := by
  have e2 : ((N : Int)).toNat = N := by omega
  unfold chkO
  rw [if_neg]
  · cases em with
    | true => rfl
    | false => simp only [Bool.false_eq_true, if_false, Bool.false_or, e2]
  · simp only
    cases em with
    | true =>
      simp at h
      simp [h]; omega
    | false =>
      simp only [Bool.false_eq_true, if_false, beq_iff_eq] at h
      have : (m.length : Int) = 4 * (N : Int) * (N : Int) := by rw [h, Int.mul_assoc]; push_cast; rfl
      simp [this]; omega
theorem chk_len {N : Nat} {m : List Int} (h : (if false then (m.length : Int) == 0 else (m.length : Int) == ((4 * (N * N) : Nat) : Int)) = true) : m.length = 2 * N * (2 * N) := by
  simp only [Bool.false_eq_true, if_false, beq_iff_eq] at h
  rw [sq4]; omega
set_option maxRecDepth 100000 in
set_option maxHeartbeats 4000000 in
theorem check_any (x : Oc) (a : Option Addr) (c : Nat) (w : World) (hm : MAt w x.m a) :
    Calls Try.prog 10 #[ocV x a c] w fun e w' => e = .returned (.int .i64 (chkO x)) ∧ Below w.heap.size w w' := by
  obtain ⟨n, em, m⟩ := x
  simp only at hm
  show Calls Try.prog 10 #[.agg #[.int .i64 n, .bool em, .slice a m.length c]] w _
  obtain ⟨X, hX⟩ : ∃ X, w.heap.size = X := ⟨_, rfl⟩
  obtain ⟨W1, hW1⟩ : ∃ W, w.alloc (.cells #[.int .i64 n, .bool em, .slice a m.length c] 24) = W := ⟨_, rfl⟩
  have hx1 : Blk W1 X #[.int .i64 n, .bool em, .slice a m.length c] 24 := by rw [← hW1, ← hX]; exact Blk.new w _ _
  have hb1 : Below X w W1 := by rw [← hW1, ← hX]; exact (Below.refl _ w).alloc (Nat.le_refl _) _
  have hm1 : MAt W1 m a := hm.next (by rw [hX]; exact hb1)
  have HW := Lib.hid (And.intro hX hW1)
  have HM := Lib.hid hm1
  have x0 : W1.cell? ⟨X, 0, none⟩ = some (.int .i64 n) := hx1.cell 0
  have x1 : W1.cell? ⟨X, 1, none⟩ = some (.bool em) := hx1.cell 1
  have x2 : W1.cell? ⟨X, 2, none⟩ = some (.slice a m.length c) := hx1.cell 2
  have HB := Lib.hid (And.intro hb1 (And.intro hx1 (Nat.le_of_lt hx1.lt)))
  have cn := fun w => numbered_any n w
  have hlenE : ∃ L, m.length = L := ⟨_, rfl⟩
  obtain ⟨L, hL⟩ := hlenE
  cases h : numB n with
  | false =>
    rw [chk_bad (x := ⟨n, em, m⟩) h]
    rw [h] at cn
    rw [hL] at x2 HW ⊢
    clear h hW1 hX hm1 hx1 hb1 hm HM
    go_enter Try.func10, Try.ntmps10
    go_upto_region 1 with fail
    rw [HW.out.1, HW.out.2]
    go_wp2_with (go_at_call 33; ((with_reducible refine (cn _).mono ?_); rintro e w' ⟨rfl, rfl⟩))
    go_ret
    exact ⟨rfl, by rw [HW.out.1]; exact HB.out.1⟩
  | true =>
    rw [h] at cn
    obtain ⟨h0, h64⟩ := numB_true h
    obtain ⟨N, rfl⟩ : ∃ N : Nat, n = (N : Int) := ⟨n.toNat, by omega⟩
    have hN : N ≤ 64 := by omega
    have cs := fun w => sized_any N em m.length a c hN w
    cases hs : (if em then (m.length : Int) == 0 else (m.length : Int) == ((4 * (N * N) : Nat) : Int)) with
    | false =>
      rw [chk_sized hs]
      rw [hs] at cs
      rw [hL] at cs x2 HW ⊢
      clear h hW1 hX hm1 hx1 hb1 hm hs HM
      go_enter Try.func10, Try.ntmps10
      go_upto_region 1 with fail
      rw [HW.out.1, HW.out.2]
      go_wp2_with (first | (go_at_call 33; ((with_reducible refine (cn _).mono ?_); rintro e w' ⟨rfl, rfl⟩)) | (go_at_call 34; ((with_reducible refine (cs _).mono ?_); rintro e w2 ⟨rfl, hb2⟩)))
      go_ret
      exact ⟨rfl, by rw [HW.out.1]; exact HB.out.1.trans (hb2.mono HB.out.2.2)⟩
    | true =>
      rw [chk_ok hN hs]
      have HF := Lib.hid (fun (w : World) (hm : MAt w m a) => formed_any N em m a c w hN hm (fun he => chk_len (by subst he; exact hs)))
      rw [hs] at cs
      rw [hL] at cs x2 HF HW ⊢
      cases hf : (em || okM (2 * N) m) with
      | true =>
        rw [hf] at HF
        simp only [if_true]
        clear h hW1 hX hm1 hx1 hb1 hm hs hf h0 h64
        go_enter Try.func10, Try.ntmps10
        go_upto_region 1 with fail
        rw [HW.out.1, HW.out.2]
        go_wp2_with (first | (go_at_call 33; ((with_reducible refine (cn _).mono ?_); rintro e w' ⟨rfl, rfl⟩)) | (go_at_call 34; ((with_reducible refine (cs _).mono ?_); rintro e w2 ⟨rfl, hb2⟩; have hy := HB.out.2.1.below hb2 HB.out.2.1.lt; have y0 := hy.cell 0; have y1 := hy.cell 1; have y2 := hy.cell 2; have hmz := Lib.hid (HM.out.next hb2); clear hy)) | (go_at_call 35; ((with_reducible refine (HF.out _ hmz.out).mono ?_); rintro e w3 ⟨rfl, hb3⟩)))
        go_ret
        exact ⟨rfl, by rw [HW.out.1]; exact (HB.out.1.trans (hb2.mono HB.out.2.2)).trans (hb3.mono (Nat.le_trans HB.out.2.2 hb2.size))⟩
      | false =>
        rw [hf] at HF
        simp only [Bool.false_eq_true, if_false]
        clear h hW1 hX hm1 hx1 hb1 hm hs hf h0 h64
        go_enter Try.func10, Try.ntmps10
        go_upto_region 1 with fail
        rw [HW.out.1, HW.out.2]
        go_wp2_with (first | (go_at_call 33; ((with_reducible refine (cn _).mono ?_); rintro e w' ⟨rfl, rfl⟩)) | (go_at_call 34; ((with_reducible refine (cs _).mono ?_); rintro e w2 ⟨rfl, hb2⟩; have hy := HB.out.2.1.below hb2 HB.out.2.1.lt; have y0 := hy.cell 0; have y1 := hy.cell 1; have y2 := hy.cell 2; have hmz := Lib.hid (HM.out.next hb2); clear hy)) | (go_at_call 35; ((with_reducible refine (HF.out _ hmz.out).mono ?_); rintro e w3 ⟨rfl, hb3⟩)))
        go_ret
        exact ⟨rfl, by rw [HW.out.1]; exact (HB.out.1.trans (hb2.mono HB.out.2.2)).trans (hb3.mono (Nat.le_trans HB.out.2.2 hb2.size))⟩
end Go.Proofs.Ythnefcafhpioaaa
