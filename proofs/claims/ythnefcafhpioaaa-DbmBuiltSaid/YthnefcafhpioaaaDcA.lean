/-
  Helpers of the laws of octagons: Oct, CopyOct, SpoilOct.
-/
import Derived.Test.YthnefcafhpioaaaDbL
import Derived.Test.YthnefcafhpioaaaRegO
namespace Go.Proofs.Ythnefcafhpioaaa
open Go Go.RowKit Go.Shelf

def octB (x y : Oc) : Bool := x.n == y.n && x.em == y.em && decide (x.m = y.m)
set_option maxRecDepth 100000 in
set_option maxHeartbeats 4000000 in
theorem oct_any (x y : Oc) (a b : Option Addr) (c d : Nat) (w : World) (hx : MAt w x.m a) (hy : MAt w y.m b) (hl : x.m.length ≤ maxLen) :
    Calls Try.prog 16 #[ocV x a c, ocV y b d] w fun e w' => e = .returned (.bool (octB x y)) ∧ Below w.heap.size w w' := by
  obtain ⟨n, em, m⟩ := x
  obtain ⟨n2, em2, m2⟩ := y
  simp only at hx hy hl
  show Calls Try.prog 16 #[.agg #[.int .i64 n, .bool em, .slice a m.length c], .agg #[.int .i64 n2, .bool em2, .slice b m2.length d]] w fun e w' => e = .returned (.bool (n == n2 && em == em2 && decide (m = m2))) ∧ _
  have HL : Hid (∀ ww : World, Below w.heap.size w ww → Calls Try.prog 32 #[.slice a m.length c, .slice b m2.length d] ww fun e w' => e = .returned (.bool (decide (m = m2))) ∧ Below ww.heap.size ww w') := Lib.hid fun ww hb => longs_any m m2 a b c d ww (hx.next hb) (hy.next hb) hl
  obtain ⟨D, hD⟩ : ∃ D, decide (m = m2) = D := ⟨_, rfl⟩
  obtain ⟨L, hL⟩ : ∃ D, m.length = D := ⟨_, rfl⟩
  obtain ⟨L2, hL2⟩ : ∃ D, m2.length = D := ⟨_, rfl⟩
  rw [hD, hL, hL2] at HL
  rw [hD, hL, hL2]
  have HBB := Lib.hid (((Below.refl _ w).alloc (Nat.le_refl _) (.cells #[.int .i64 n, .bool em, .slice a L c] 24)).alloc (by simp) (.cells #[.int .i64 n2, .bool em2, .slice b L2 d] 24))
  clear hx hy hl hD hL hL2
  by_cases h1 : n = n2
  · subst h1
    have k1 : (n == n) = true := by simp
    rw [k1]
    cases h2 : (em == em2) with
    | true =>
      simp only [Bool.true_and]
      go_enter Try.func16, Try.ntmps16
      go_wp2_with (go_at_call 32; (with_reducible refine (HL.out _ HBB.out).mono ?_); rintro e w2 ⟨rfl, hb2⟩)
      go_ret
      exact ⟨rfl, HBB.out.trans (hb2.mono HBB.out.size)⟩
    | false =>
      simp only [Bool.true_and, Bool.false_and]
      go_enter Try.func16, Try.ntmps16
      go_wp2_with fail
      go_ret
      exact ⟨rfl, HBB.out⟩
  · have k1 : (n == n2) = false := by simpa using h1
    rw [k1]
    simp only [Bool.false_and]
    go_enter Try.func16, Try.ntmps16
    go_wp2_with fail
    go_ret
    exact ⟨rfl, HBB.out⟩

theorem co_below {w w' : World} (hg : w.grownBy w' none) : Below w.heap.size w w' := ⟨hg.os, hg.tape, hg.output, hg.size, fun k hk => hg.block k hk (by simp)⟩
theorem app_i64 (a0 : Option Addr) (c0 : Nat) (ty : TypeId) (w : World) : (Builtin.append_ #[22, 22] ty #[.slice none 0 0, .slice a0 0 c0]).run Try.prog w = .ok (.slice none 0 0) w := by
  cases a0 <;> simp [Builtin.append_, go_sem]
theorem wpList_app_none {w : World} {ops : Array Oper} {rest : List Oper} {o : Oper} {a : Act} {Q : Exit → Act → World → Prop} (hgd : o.guard = none) (s x : Operand)
    (ho : o.op = .call { callee := .builtin .append, args := #[s, x], argTypes := #[22, 22] }) (hs : a.eval s = .slice none 0 0) (a0 : Option Addr) (c0 : Nat) (hx : a.eval x = .slice a0 0 c0) (h : wpList Try.prog ops Q rest (a.put o.dst (.slice none 0 0)) w) :
    wpList Try.prog ops Q (o :: rest) a w := wpList_plain hgd fun K hK => by
  have hr := app_i64 a0 c0 o.type w
  unfold Oper.wp execOp
  simp only [ho, resolve, invoke, builtin, Sem.run_bind, Sem.run_pure, Result.andThen_ok, List.map_toArray, List.map_cons, List.map_nil, hs, hx, hr]
  exact hK _ _ h
set_option maxRecDepth 100000 in
set_option maxHeartbeats 4000000 in
theorem copyoct_any (x : Oc) (a : Option Addr) (c : Nat) (w : World) (hx : MAt w x.m a) (hl : x.m.length * 8 ≤ 140737488355328) :
    Calls Try.prog 19 #[ocV x a c] w fun e w' => ∃ a' c', e = .returned (ocV x a' c') ∧ MOwn w.heap.size w' x.m a' c' ∧ Below w.heap.size w w' := by
  obtain ⟨n, em, m⟩ := x
  simp only at hx hl
  show Calls Try.prog 19 #[.agg #[.int .i64 n, .bool em, .slice a m.length c]] w fun e w' => ∃ a' c', e = .returned (.agg #[.int .i64 n, .bool em, .slice a' m.length c']) ∧ MOwn w.heap.size w' m a' c' ∧ Below w.heap.size w w'
  obtain ⟨X, hX⟩ : ∃ X, w.heap.size = X := ⟨_, rfl⟩
  obtain ⟨W1, hW1⟩ : ∃ W, (w.alloc (.cells #[.int .i64 n, .bool em, .slice a m.length c] 24)).alloc (.cells #[.int .i64 0, .bool false, .slice none 0 0] 24) = W := ⟨_, rfl⟩
  have hx1 : Blk W1 X #[.int .i64 n, .bool em, .slice a m.length c] 24 := by rw [← hW1, ← hX]; exact (Blk.new w _ _).alloc _
  have hy1 : Blk W1 (X + 1) #[.int .i64 0, .bool false, .slice none 0 0] 24 := by
    have h := Blk.new (w.alloc (.cells #[.int .i64 n, .bool em, .slice a m.length c] 24)) #[.int .i64 0, .bool false, .slice none 0 0] 24
    rw [World.size_alloc, hX] at h
    rw [← hW1]; exact h
  have hb1 : Below X w W1 := by rw [← hW1, ← hX]; exact ((Below.refl _ w).alloc (Nat.le_refl _) _).alloc (by simp) _
  have hs1 : W1.heap.size = X + 2 := by rw [← hW1, ← hX]; simp
  have hm1 : MAt W1 m a := hx.next (by rw [hX]; exact hb1)
  have HW := Lib.hid (And.intro hX hW1)
  have x2 : W1.cell? ⟨X, 2, none⟩ = some (.slice a m.length c) := hx1.cell 2
  have f2 := hx1.free 2
  obtain ⟨L, hL⟩ : ∃ L, m.length = L := ⟨_, rfl⟩
  by_cases h0 : L = 0
  · subst h0
    have hx5 := hx1.set 2 (.slice none 0 0)
    have hy5 : Blk (W1.setCell ⟨X, 2, none⟩ (.slice none 0 0)) (X + 1) _ 24 := hy1.other (by simp) _
    have HF := Lib.hid (And.intro hx5 (And.intro hy5 (And.intro hb1 hL)))
    rw [hL] at x2 HW ⊢
    clear hW1 hX hx1 hy1 hb1 hs1 hm1 hx hl hL hx5 hy5
    go_enter Try.func19, Try.ntmps19
    go_upto_region 1 with fail
    simp only [HW.out.1]
    rw [HW.out.2]
    go_upto_region 2 with (first | (at_builtin; (with_reducible refine wpList_app_none rfl _ (.tmp 4) rfl rfl a c rfl ?_)) | fail)
    have z0 := HF.out.1.cell 0
    have z1 := HF.out.1.cell 1
    have z2 := HF.out.1.cell 2
    have y0 := HF.out.2.1.cell 0
    have y1 := HF.out.2.1.cell 1
    have y2 := HF.out.2.1.cell 2
    have y3 := HF.out.2.1.free 0
    have y4 := HF.out.2.1.free 1
    have y5 := HF.out.2.1.free 2
    obtain ⟨W5, hW5⟩ : ∃ W, W1.setCell ⟨X, 2, none⟩ (.slice none 0 0) = W := ⟨_, rfl⟩
    have hb5 : Below X w W5 := by rw [← hW5]; exact HF.out.2.2.1.setCell (by simp) _
    rw [hW5] at z0 z1 z2 y0 y1 y2 y3 y4 y5 HF ⊢
    clear hW5 x2 f2
    go_wp2_with fail
    refine bodyPost_ret (results_cell_row rfl _ _ (X + 1) _ #[.int .i64 n, .bool em, .slice none 0 0] _ _ rfl (set3_blk HF.out.2.1) rfl rfl (by kernel_rfl)) rfl ?_
    exact ⟨none, 0, rfl, ⟨Nat.le_of_eq HF.out.2.2.2, Nat.zero_le _, .inl HF.out.2.2.2⟩, by rw [HW.out.1]; exact set3_below hb5 (by omega)⟩
  · obtain ⟨i0, hi0, hz0, hz1, hz2⟩ := info_parts info_i64
    obtain ⟨b, ob, rfl, hc⟩ := hm1.resolve_left (by omega)
    have HI := Lib.hid (And.intro hi0 (And.intro hz0 (And.intro hz1 hz2)))
    have HNW : Hid (∀ j u, (cvI m)[j]? = some u → W1.cell? ((⟨b, ob, none⟩ : Addr).add j) = some u) := Lib.hid fun j u hu => by
      have hj : j < m.length := by
        rcases Nat.lt_or_ge j m.length with h' | h'
        · exact h'
        · rw [List.getElem?_eq_none (by rw [cvI_len]; exact h')] at hu; cases hu
      rw [add_at, hc j hj]
      rw [cvI_at m j hj] at hu
      exact hu
    have HLL := Lib.hid (And.intro (show (cvI m).length = L * 1 by rw [cvI_len]; omega) (And.intro (show 0 < L by omega) (And.intro (show 0 + L ≤ maxLen by unfold maxLen; omega) (And.intro (show (0 + L) * 8 ≤ 140737488355328 by omega) hL))))
    have HB := Lib.hid (And.intro hx1 (And.intro hy1 (And.intro hb1 hs1)))
    rw [hL] at x2 HW ⊢
    clear hW1 hX hx1 hy1 hb1 hs1 hm1 hx hl hL hc hi0 hz0 hz1 hz2
    go_enter Try.func19, Try.ntmps19
    go_upto_region 1 with fail
    simp only [HW.out.1]
    rw [HW.out.2]
    go_upto_region 2 with (first | (at_builtin; (with_reducible refine wpList_append_lies _ rfl _ (.tmp 4) 22 rfl (X + 2) 2 i0 _ 1 8 Try.underlying22 HI.out.1 HI.out.2.1 HI.out.2.2.1 HI.out.2.2.2 rfl (by decide) (.slice none 0 0) 0 [] rfl (World.ownsRow_nil _ _ _ _) ⟨b, ob, none⟩ L c (cvI m) rfl HLL.out.1 HNW.out (cvI_one _) HLL.out.2.1 HLL.out.2.2.1 HLL.out.2.2.2.1 (Nat.le_of_eq HB.out.2.2.2.symm) (X + 2) HB.out.2.2.2 ?_); (intro g cap w5 hown5 hgrow hat hlt5; have hx5 := HB.out.1.below (co_below hgrow) (by have := HB.out.2.2.2; omega); have u2 := hx5.cell 2; have u3 := hx5.free 2)) | fail)
    have hy5 := HB.out.2.1.below (co_below hgrow) (by have := HB.out.2.2.2; omega)
    have hb5 : Below X w w5 := HB.out.2.2.1.trans ((co_below hgrow).mono (by have := HB.out.2.2.2; omega))
    simp only [Nat.zero_add, List.nil_append] at hown5
    have hLm := HLL.out.2.2.2.2
    rw [← hLm] at hown5
    obtain ⟨a', c', he, hmo⟩ := own_mown hown5
    cases he
    have hx6 := hx5.set 2 (.slice (some ⟨g, 0, none⟩) L cap)
    have hy6 : Blk (w5.setCell ⟨X, 2, none⟩ (.slice (some ⟨g, 0, none⟩) L cap)) (X + 1) _ 24 := hy5.other (by simp) _
    have hm6 := hmo.setOther (p := ⟨X, 2, none⟩) (by simp) (.slice (some ⟨g, 0, none⟩) L cap)
    have hb6 : Below X w (w5.setCell ⟨X, 2, none⟩ (.slice (some ⟨g, 0, none⟩) L cap)) := hb5.setCell (by simp) _
    obtain ⟨W6, hW6⟩ : ∃ W, w5.setCell ⟨X, 2, none⟩ (.slice (some ⟨g, 0, none⟩) L cap) = W := ⟨_, rfl⟩
    rw [hW6] at hx6 hy6 hm6 hb6 ⊢
    have z0 := hx6.cell 0
    have z1 := hx6.cell 1
    have z2 := hx6.cell 2
    have y0 := hy6.cell 0
    have y1 := hy6.cell 1
    have y2 := hy6.cell 2
    have y3 := hy6.free 0
    have y4 := hy6.free 1
    have y5 := hy6.free 2
    have HF := Lib.hid (And.intro hy6 (And.intro hm6 hb6))
    clear hW6 hx6 hy6 hm6 hb6 hx5 hy5 hb5 hmo hown5 hgrow hat hlt5 u2 u3 x2 f2 HNW
    go_wp2_with fail
    refine bodyPost_ret (results_cell_row rfl _ _ (X + 1) _ #[.int .i64 n, .bool em, .slice (some ⟨g, 0, none⟩) L cap] _ _ rfl (set3_blk HF.out.1) rfl rfl (by kernel_rfl)) rfl ?_
    refine ⟨some ⟨g, 0, none⟩, cap, rfl, ?_, ?_⟩
    · rw [HW.out.1]; exact (HF.out.2.1.set3 (by omega)).lower (by omega)
    · rw [HW.out.1]; exact set3_below HF.out.2.2 (by omega)

set_option maxRecDepth 100000 in
set_option maxHeartbeats 4000000 in
theorem spoil_any (x : Oc) (a : Option Addr) (c B : Nat) (w : World) (hx : MOwn B w x.m a c) (hB : B ≤ w.heap.size) :
    Calls Try.prog 24 #[ocV x a c] w fun e w' => (∃ v, e = .returned v) ∧ Below B w w' := by
  obtain ⟨n, em, m⟩ := x
  show Calls Try.prog 24 #[.agg #[.int .i64 n, .bool em, .slice a m.length c]] w _
  obtain ⟨L, hL⟩ : ∃ L, m.length = L := ⟨_, rfl⟩
  obtain ⟨X, hX⟩ : ∃ X, w.heap.size = X := ⟨_, rfl⟩
  obtain ⟨W1, hW1⟩ : ∃ W, w.alloc (.cells #[.int .i64 n, .bool em, .slice a L c] 24) = W := ⟨_, rfl⟩
  have hx1 : Blk W1 X #[.int .i64 n, .bool em, .slice a L c] 24 := by rw [← hW1, ← hX]; exact Blk.new w _ _
  have hb1 : Below B w W1 := by rw [← hW1]; exact (Below.refl _ w).alloc hB _
  have hm1 : MOwn B W1 m a c := by
    have hb : Below w.heap.size w W1 := by rw [← hW1]; exact (Below.refl _ w).alloc (Nat.le_refl _) _
    exact (show MOwn B w m a c from hx).next hb rfl
  have hne : ∀ g, a = some ⟨g, 0, none⟩ → L ≠ 0 → g ≠ X := fun g hg h0 e => by
    obtain ⟨g', hg', -, hlt, -⟩ := MOwn.at (m := m) hx (i := 0) (by show 0 < m.length; omega)
    rw [hg] at hg'
    cases hg'
    omega
  have HW := Lib.hid (And.intro hX hW1)
  have HN := Lib.hid (And.intro hne (And.intro hL (show L ≤ maxLen by have h1 := hm1.1; have h2 := hm1.2.1; omega)))
  rw [hL]
  clear hX hW1 hx hB hne
  go_enter Try.func24, Try.ntmps24
  go_upto_region 1 with fail
  rw [HW.out.2, HW.out.1]
  go_wp2_with fail
  go_loopw [2] (fun x wr => ∃ (i : Nat) (m' : List Int), x = .int .i64 i ∧ i ≤ L ∧ m'.length = L ∧ MOwn B wr m' a c ∧ Blk wr X #[.int .i64 n, .bool em, .slice a L c] 24 ∧ Below B w wr) (fun x _ => L - (intOf x).toNat)
  case atStart => exact ⟨0, m, rfl, by omega, hL, hm1, hx1, hb1⟩
  case round =>
    clear hx1 hb1 hm1 hL
    obtain ⟨i, m', rfl, hi, hl', hm, hx, hb⟩ := hrel
    have x2 : wr.cell? ⟨X, 2, none⟩ = some (.slice a L c) := hx.cell 2
    by_cases hlt : i < L
    · have hbi : (i : Int) + 1 ≤ 9223372036854775807 := by have := HN.out.2.2; unfold maxLen at this; omega
      have hil : (i : Int) < (L : Int) := by omega
      obtain ⟨g, rfl, hg, hgl, hc, hf⟩ := hm.at (i := i) (by omega)
      have hgX := HN.out.1 g rfl (by omega)
      obtain ⟨C, hC⟩ : ∃ C, m'.getD i 0 = C := ⟨_, rfl⟩
      rw [hC] at hc
      have HR := Lib.hid (And.intro (hm.set i (-7)) (And.intro (hx.other (a := ⟨g, i, none⟩) (fun e => hgX e.symm) (.int .i64 (-7))) (And.intro (hb.setCell (p := ⟨g, i, none⟩) hg (.int .i64 (-7))) hl')))
      clear hm hx hb hC hl' hg hgl
      go_wp2_with fail
      go_roundw
      case rel => exact ⟨i + 1, m'.set i (-7), by go_num, by omega, by rw [List.length_set]; exact HR.out.2.2.2, HR.out.1, HR.out.2.1, HR.out.2.2.1⟩
      case measure => simp [intOf]; omega
    · have hil : (L : Int) ≤ (i : Int) := by omega
      have HR := Lib.hid hb
      clear hm hx hb
      go_wp2_with fail
      go_end0
      exact ⟨⟨_, rfl⟩, HR.out⟩
end Go.Proofs.Ythnefcafhpioaaa
