/-
  Equal of package dbm, and the document's.
-/
import Derived.Test.YthnefcafhpioaaaDdA
import Derived.Test.YthnefcafhpioaaaOmB
namespace Go.Proofs.Ythnefcafhpioaaa
open Go Go.RowKit Go.Shelf

abbrev EqF (X : Nat) (w : World) (cx cy : Array Value) (m k : List Int) (a b : Option Addr) (W : World) : Prop := Blk W X cx 24 ∧ Blk W (X + 1) cy 24 ∧ MAt W m a ∧ MAt W k b ∧ Below w.heap.size w W
theorem eq_step {X : Nat} {w W W' : World} {cx cy : Array Value} {m k : List Int} {a b : Option Addr} (h : EqF X w cx cy m k a b W) (hb : Below W.heap.size W W') : EqF X w cx cy m k a b W' :=
  ⟨h.1.below hb h.1.lt, h.2.1.below hb h.2.1.lt, h.2.2.1.next hb, h.2.2.2.1.next hb, h.2.2.2.2.trans (hb.mono h.2.2.2.2.size)⟩
set_option maxRecDepth 100000 in
set_option maxHeartbeats 8000000 in
theorem equal_any (x y : Oc) (a a2 : Option Addr) (c c2 : Nat) (w : World) (hx : MAt w x.m a) (hy : MAt w y.m a2) (hl : x.m.length ≤ maxLen) :
    Calls Try.prog 12 #[ocV x a c, ocV y a2 c2] w fun e w' => e = .returned (.bool ((chkO x == 0) && ((chkO y == 0) && octB x y))) ∧ Below w.heap.size w w' := by
  obtain ⟨nv, em, l⟩ := x
  obtain ⟨nv2, em2, k⟩ := y
  simp only at hx hy hl
  show Calls Try.prog 12 #[.agg #[.int .i64 nv, .bool em, .slice a l.length c], .agg #[.int .i64 nv2, .bool em2, .slice a2 k.length c2]] w fun e w' => e = .returned (.bool ((chkO ⟨nv, em, l⟩ == 0) && ((chkO ⟨nv2, em2, k⟩ == 0) && (nv == nv2 && em == em2 && decide (l = k))))) ∧ _
  obtain ⟨X, hX⟩ : ∃ X, w.heap.size = X := ⟨_, rfl⟩
  obtain ⟨W1, hW1⟩ : ∃ W, (w.alloc (.cells #[.int .i64 nv, .bool em, .slice a l.length c] 24)).alloc (.cells #[.int .i64 nv2, .bool em2, .slice a2 k.length c2] 24) = W := ⟨_, rfl⟩
  have hx1 : Blk W1 X #[.int .i64 nv, .bool em, .slice a l.length c] 24 := by rw [← hW1, ← hX]; exact (Blk.new w _ _).alloc _
  have hy1 : Blk W1 (X + 1) #[.int .i64 nv2, .bool em2, .slice a2 k.length c2] 24 := by
    have h := Blk.new (w.alloc (.cells #[.int .i64 nv, .bool em, .slice a l.length c] 24)) #[.int .i64 nv2, .bool em2, .slice a2 k.length c2] 24
    rw [World.size_alloc, hX] at h
    rw [← hW1]; exact h
  have hb1 : Below w.heap.size w W1 := by rw [← hW1]; exact ((Below.refl _ w).alloc (Nat.le_refl _) _).alloc (by simp) _
  have HW := Lib.hid (And.intro hX hW1)
  have HE : Hid (EqF X w #[.int .i64 nv, .bool em, .slice a l.length c] #[.int .i64 nv2, .bool em2, .slice a2 k.length c2] l k a a2 W1) := Lib.hid ⟨hx1, hy1, hx.next hb1, hy.next hb1, hb1⟩
  have x0 : W1.cell? ⟨X, 0, none⟩ = some (.int .i64 nv) := hx1.cell 0
  have x1 : W1.cell? ⟨X, 1, none⟩ = some (.bool em) := hx1.cell 1
  have x2 : W1.cell? ⟨X, 2, none⟩ = some (.slice a l.length c) := hx1.cell 2
  have y0 : W1.cell? ⟨X + 1, 0, none⟩ = some (.int .i64 nv2) := hy1.cell 0
  have y1 : W1.cell? ⟨X + 1, 1, none⟩ = some (.bool em2) := hy1.cell 1
  have y2 : W1.cell? ⟨X + 1, 2, none⟩ = some (.slice a2 k.length c2) := hy1.cell 2
  have HC1 : Hid (∀ ww : World, MAt ww l a → Calls Try.prog 10 #[.agg #[.int .i64 nv, .bool em, .slice a l.length c]] ww fun e w' => e = .returned (.int .i64 (chkO ⟨nv, em, l⟩)) ∧ Below ww.heap.size ww w') := Lib.hid fun ww h => check_any ⟨nv, em, l⟩ a c ww h
  have HC2 : Hid (∀ ww : World, MAt ww k a2 → Calls Try.prog 10 #[.agg #[.int .i64 nv2, .bool em2, .slice a2 k.length c2]] ww fun e w' => e = .returned (.int .i64 (chkO ⟨nv2, em2, k⟩)) ∧ Below ww.heap.size ww w') := Lib.hid fun ww h => check_any ⟨nv2, em2, k⟩ a2 c2 ww h
  have HS : Hid (∀ ww : World, MAt ww l a → MAt ww k a2 → Calls Try.prog 38 #[.slice a l.length c, .slice a2 k.length c2] ww fun e w' => e = .returned (.bool (decide (l = k))) ∧ Below ww.heap.size ww w') := Lib.hid fun ww h1 h2 => sleq_any l k a a2 c c2 ww h1 h2 hl
  obtain ⟨D, hD⟩ : ∃ D, decide (l = k) = D := ⟨_, rfl⟩
  obtain ⟨F, hF⟩ : ∃ D, chkO ⟨nv, em, l⟩ = D := ⟨_, rfl⟩
  obtain ⟨G, hG⟩ : ∃ D, chkO ⟨nv2, em2, k⟩ = D := ⟨_, rfl⟩
  obtain ⟨n, hln⟩ : ∃ n, l.length = n := ⟨_, rfl⟩
  obtain ⟨n2, hkn⟩ : ∃ n, k.length = n := ⟨_, rfl⟩
  rw [hF, hG, hD]
  rw [hF] at HC1
  rw [hG] at HC2
  rw [hD] at HS
  rw [hln, hkn] at HW HE HS ⊢
  rw [hln] at x2 HC1
  rw [hkn] at y2 HC2
  clear hx hy hl hX hW1 hx1 hy1 hb1 hln hkn hD hF hG
  by_cases h1 : F = 0
  · subst h1
    rw [show ((0 : Int) == 0) = true from rfl, Bool.true_and]
    by_cases h2 : G = 0
    · subst h2
      rw [show ((0 : Int) == 0) = true from rfl, Bool.true_and]
      by_cases h3 : nv = nv2
      · have k1 : (nv == nv2) = true := by simp [h3]
        rw [k1, Bool.true_and]
        by_cases h4 : em = em2
        · have k2 : (em == em2) = true := by simp [h4]
          rw [k2, Bool.true_and]
          clear h3 h4
          go_enter Try.func12, Try.ntmps12
          go_upto_region 1 with fail
          simp only [HW.out.1]
          rw [HW.out.2]
          go_wp2_with (first | (go_at_call 10; first | ((with_reducible refine (HC1.out W1 HE.out.2.2.1).mono ?_); rintro e w2 ⟨rfl, hb2⟩; have H2 := Lib.hid (eq_step HE.out hb2); have x0 := H2.out.1.cell 0; have x1 := H2.out.1.cell 1; have x2 := H2.out.1.cell 2; have y0 := H2.out.2.1.cell 0; have y1 := H2.out.2.1.cell 1; have y2 := H2.out.2.1.cell 2) | ((with_reducible refine (HC2.out w2 H2.out.2.2.2.1).mono ?_); rintro e w3 ⟨rfl, hb3⟩; have H3 := Lib.hid (eq_step H2.out hb3); have x0 := H3.out.1.cell 0; have x1 := H3.out.1.cell 1; have x2 := H3.out.1.cell 2; have y0 := H3.out.2.1.cell 0; have y1 := H3.out.2.1.cell 1; have y2 := H3.out.2.1.cell 2)) | (go_at_call 38; (with_reducible refine (HS.out _ H3.out.2.2.1 H3.out.2.2.2.1).mono ?_); rintro e w4 ⟨rfl, hb4⟩) | fail)
          go_ret
          exact ⟨rfl, H3.out.2.2.2.2.trans (hb4.mono H3.out.2.2.2.2.size)⟩
        · have k2 : (em == em2) = false := by simpa using h4
          rw [k2, Bool.false_and]
          clear h3 h4
          go_enter Try.func12, Try.ntmps12
          go_upto_region 1 with fail
          simp only [HW.out.1]
          rw [HW.out.2]
          go_wp2_with (first | (go_at_call 10; first | ((with_reducible refine (HC1.out W1 HE.out.2.2.1).mono ?_); rintro e w2 ⟨rfl, hb2⟩; have H2 := Lib.hid (eq_step HE.out hb2); have x0 := H2.out.1.cell 0; have x1 := H2.out.1.cell 1; have x2 := H2.out.1.cell 2; have y0 := H2.out.2.1.cell 0; have y1 := H2.out.2.1.cell 1; have y2 := H2.out.2.1.cell 2) | ((with_reducible refine (HC2.out w2 H2.out.2.2.2.1).mono ?_); rintro e w3 ⟨rfl, hb3⟩; have H3 := Lib.hid (eq_step H2.out hb3); have x0 := H3.out.1.cell 0; have x1 := H3.out.1.cell 1; have x2 := H3.out.1.cell 2; have y0 := H3.out.2.1.cell 0; have y1 := H3.out.2.1.cell 1; have y2 := H3.out.2.1.cell 2)) | fail)
          go_ret
          exact ⟨rfl, H3.out.2.2.2.2⟩
      · have k1 : (nv == nv2) = false := by simpa using h3
        rw [k1, Bool.false_and, Bool.false_and]
        clear h3
        go_enter Try.func12, Try.ntmps12
        go_upto_region 1 with fail
        simp only [HW.out.1]
        rw [HW.out.2]
        go_wp2_with (first | (go_at_call 10; first | ((with_reducible refine (HC1.out W1 HE.out.2.2.1).mono ?_); rintro e w2 ⟨rfl, hb2⟩; have H2 := Lib.hid (eq_step HE.out hb2); have x0 := H2.out.1.cell 0; have x1 := H2.out.1.cell 1; have x2 := H2.out.1.cell 2; have y0 := H2.out.2.1.cell 0; have y1 := H2.out.2.1.cell 1; have y2 := H2.out.2.1.cell 2) | ((with_reducible refine (HC2.out w2 H2.out.2.2.2.1).mono ?_); rintro e w3 ⟨rfl, hb3⟩; have H3 := Lib.hid (eq_step H2.out hb3); have x0 := H3.out.1.cell 0; have x1 := H3.out.1.cell 1; have x2 := H3.out.1.cell 2; have y0 := H3.out.2.1.cell 0; have y1 := H3.out.2.1.cell 1; have y2 := H3.out.2.1.cell 2)) | fail)
        go_ret
        exact ⟨rfl, H3.out.2.2.2.2⟩
    · have k0 : (G == 0) = false := by simpa using h2
      rw [k0, Bool.false_and]
      clear h2
      go_enter Try.func12, Try.ntmps12
      go_upto_region 1 with fail
      simp only [HW.out.1]
      rw [HW.out.2]
      go_wp2_with (first | (go_at_call 10; first | ((with_reducible refine (HC1.out W1 HE.out.2.2.1).mono ?_); rintro e w2 ⟨rfl, hb2⟩; have H2 := Lib.hid (eq_step HE.out hb2); have x0 := H2.out.1.cell 0; have x1 := H2.out.1.cell 1; have x2 := H2.out.1.cell 2; have y0 := H2.out.2.1.cell 0; have y1 := H2.out.2.1.cell 1; have y2 := H2.out.2.1.cell 2) | ((with_reducible refine (HC2.out w2 H2.out.2.2.2.1).mono ?_); rintro e w3 ⟨rfl, hb3⟩; have H3 := Lib.hid (eq_step H2.out hb3); have x0 := H3.out.1.cell 0; have x1 := H3.out.1.cell 1; have x2 := H3.out.1.cell 2; have y0 := H3.out.2.1.cell 0; have y1 := H3.out.2.1.cell 1; have y2 := H3.out.2.1.cell 2)) | fail)
      go_ret
      exact ⟨rfl, H3.out.2.2.2.2⟩
  · have k0 : (F == 0) = false := by simpa using h1
    rw [k0, Bool.false_and]
    clear h1
    go_enter Try.func12, Try.ntmps12
    go_upto_region 1 with fail
    simp only [HW.out.1]
    rw [HW.out.2]
    go_wp2_with (first | (go_at_call 10; first | ((with_reducible refine (HC1.out W1 HE.out.2.2.1).mono ?_); rintro e w2 ⟨rfl, hb2⟩; have H2 := Lib.hid (eq_step HE.out hb2); have x0 := H2.out.1.cell 0; have x1 := H2.out.1.cell 1; have x2 := H2.out.1.cell 2; have y0 := H2.out.2.1.cell 0; have y1 := H2.out.2.1.cell 1; have y2 := H2.out.2.1.cell 2) | ((with_reducible refine (HC2.out w2 H2.out.2.2.2.1).mono ?_); rintro e w3 ⟨rfl, hb3⟩; have H3 := Lib.hid (eq_step H2.out hb3); have x0 := H3.out.1.cell 0; have x1 := H3.out.1.cell 1; have x2 := H3.out.1.cell 2; have y0 := H3.out.2.1.cell 0; have y1 := H3.out.2.1.cell 1; have y2 := H3.out.2.1.cell 2)) | fail)
    go_ret
    exact ⟨rfl, H2.out.2.2.2.2⟩

set_option maxRecDepth 100000 in
set_option maxHeartbeats 8000000 in
theorem requal_any (x y : Oc) (a a2 : Option Addr) (c c2 : Nat) (w : World) (hx : MAt w x.m a) (hy : MAt w y.m a2) (hl : x.m.length ≤ maxLen) :
    Calls Try.prog 13 #[ocV x a c, ocV y a2 c2] w fun e w' => e = .returned (.bool ((chkO x == 0) && ((chkO y == 0) && octB x y))) ∧ Below w.heap.size w w' := by
  obtain ⟨nv, em, l⟩ := x
  obtain ⟨nv2, em2, k⟩ := y
  simp only at hx hy hl
  show Calls Try.prog 13 #[.agg #[.int .i64 nv, .bool em, .slice a l.length c], .agg #[.int .i64 nv2, .bool em2, .slice a2 k.length c2]] w fun e w' => e = .returned (.bool ((chkO ⟨nv, em, l⟩ == 0) && ((chkO ⟨nv2, em2, k⟩ == 0) && (nv == nv2 && em == em2 && decide (l = k))))) ∧ _
  obtain ⟨X, hX⟩ : ∃ X, w.heap.size = X := ⟨_, rfl⟩
  obtain ⟨W1, hW1⟩ : ∃ W, (w.alloc (.cells #[.int .i64 nv, .bool em, .slice a l.length c] 24)).alloc (.cells #[.int .i64 nv2, .bool em2, .slice a2 k.length c2] 24) = W := ⟨_, rfl⟩
  have hx1 : Blk W1 X #[.int .i64 nv, .bool em, .slice a l.length c] 24 := by rw [← hW1, ← hX]; exact (Blk.new w _ _).alloc _
  have hy1 : Blk W1 (X + 1) #[.int .i64 nv2, .bool em2, .slice a2 k.length c2] 24 := by
    have h := Blk.new (w.alloc (.cells #[.int .i64 nv, .bool em, .slice a l.length c] 24)) #[.int .i64 nv2, .bool em2, .slice a2 k.length c2] 24
    rw [World.size_alloc, hX] at h
    rw [← hW1]; exact h
  have hb1 : Below w.heap.size w W1 := by rw [← hW1]; exact ((Below.refl _ w).alloc (Nat.le_refl _) _).alloc (by simp) _
  have HW := Lib.hid (And.intro hX hW1)
  have HE : Hid (EqF X w #[.int .i64 nv, .bool em, .slice a l.length c] #[.int .i64 nv2, .bool em2, .slice a2 k.length c2] l k a a2 W1) := Lib.hid ⟨hx1, hy1, hx.next hb1, hy.next hb1, hb1⟩
  have x0 : W1.cell? ⟨X, 0, none⟩ = some (.int .i64 nv) := hx1.cell 0
  have x1 : W1.cell? ⟨X, 1, none⟩ = some (.bool em) := hx1.cell 1
  have x2 : W1.cell? ⟨X, 2, none⟩ = some (.slice a l.length c) := hx1.cell 2
  have y0 : W1.cell? ⟨X + 1, 0, none⟩ = some (.int .i64 nv2) := hy1.cell 0
  have y1 : W1.cell? ⟨X + 1, 1, none⟩ = some (.bool em2) := hy1.cell 1
  have y2 : W1.cell? ⟨X + 1, 2, none⟩ = some (.slice a2 k.length c2) := hy1.cell 2
  have HC1 : Hid (∀ ww : World, MAt ww l a → Calls Try.prog 11 #[.agg #[.int .i64 nv, .bool em, .slice a l.length c]] ww fun e w' => e = .returned (.int .i64 (chkO ⟨nv, em, l⟩)) ∧ Below ww.heap.size ww w') := Lib.hid fun ww h => rchk_any ⟨nv, em, l⟩ a c ww h
  have HC2 : Hid (∀ ww : World, MAt ww k a2 → Calls Try.prog 11 #[.agg #[.int .i64 nv2, .bool em2, .slice a2 k.length c2]] ww fun e w' => e = .returned (.int .i64 (chkO ⟨nv2, em2, k⟩)) ∧ Below ww.heap.size ww w') := Lib.hid fun ww h => rchk_any ⟨nv2, em2, k⟩ a2 c2 ww h
  have HS : Hid (∀ ww : World, MAt ww l a → MAt ww k a2 → Calls Try.prog 39 #[.agg #[.int .i64 nv, .bool em, .slice a l.length c], .agg #[.int .i64 nv2, .bool em2, .slice a2 k.length c2]] ww fun e w' => e = .returned (.bool (nv == nv2 && em == em2 && decide (l = k))) ∧ Below ww.heap.size ww w') := Lib.hid fun ww h1 h2 => same_any ⟨nv, em, l⟩ ⟨nv2, em2, k⟩ a a2 c c2 ww h1 h2 hl
  obtain ⟨D, hD⟩ : ∃ D, (nv == nv2 && em == em2 && decide (l = k)) = D := ⟨_, rfl⟩
  obtain ⟨F, hF⟩ : ∃ D, chkO ⟨nv, em, l⟩ = D := ⟨_, rfl⟩
  obtain ⟨G, hG⟩ : ∃ D, chkO ⟨nv2, em2, k⟩ = D := ⟨_, rfl⟩
  obtain ⟨n, hln⟩ : ∃ n, l.length = n := ⟨_, rfl⟩
  obtain ⟨n2, hkn⟩ : ∃ n, k.length = n := ⟨_, rfl⟩
  rw [hF, hG, hD]
  rw [hF] at HC1
  rw [hG] at HC2
  rw [hD] at HS
  rw [hln, hkn] at HW HE HS ⊢
  rw [hln] at x2 HC1
  rw [hkn] at y2 HC2
  clear hx hy hl hX hW1 hx1 hy1 hb1 hln hkn hD hF hG
  by_cases h1 : F = 0
  · subst h1
    rw [show ((0 : Int) == 0) = true from rfl, Bool.true_and]
    by_cases h2 : G = 0
    · subst h2
      rw [show ((0 : Int) == 0) = true from rfl, Bool.true_and]
      go_enter Try.func13, Try.ntmps13
      go_upto_region 1 with fail
      simp only [HW.out.1]
      rw [HW.out.2]
      go_wp2_with (first | (go_at_call 11; first | ((with_reducible refine (HC1.out W1 HE.out.2.2.1).mono ?_); rintro e w2 ⟨rfl, hb2⟩; have H2 := Lib.hid (eq_step HE.out hb2); have x0 := H2.out.1.cell 0; have x1 := H2.out.1.cell 1; have x2 := H2.out.1.cell 2; have y0 := H2.out.2.1.cell 0; have y1 := H2.out.2.1.cell 1; have y2 := H2.out.2.1.cell 2) | ((with_reducible refine (HC2.out w2 H2.out.2.2.2.1).mono ?_); rintro e w3 ⟨rfl, hb3⟩; have H3 := Lib.hid (eq_step H2.out hb3); have x0 := H3.out.1.cell 0; have x1 := H3.out.1.cell 1; have x2 := H3.out.1.cell 2; have y0 := H3.out.2.1.cell 0; have y1 := H3.out.2.1.cell 1; have y2 := H3.out.2.1.cell 2)) | (go_at_call 39; (with_reducible refine (HS.out _ H3.out.2.2.1 H3.out.2.2.2.1).mono ?_); rintro e w4 ⟨rfl, hb4⟩) | fail)
      go_ret
      exact ⟨rfl, H3.out.2.2.2.2.trans (hb4.mono H3.out.2.2.2.2.size)⟩
    · have k0 : (G == 0) = false := by simpa using h2
      rw [k0, Bool.false_and]
      clear h2
      go_enter Try.func13, Try.ntmps13
      go_upto_region 1 with fail
      simp only [HW.out.1]
      rw [HW.out.2]
      go_wp2_with (first | (go_at_call 11; first | ((with_reducible refine (HC1.out W1 HE.out.2.2.1).mono ?_); rintro e w2 ⟨rfl, hb2⟩; have H2 := Lib.hid (eq_step HE.out hb2); have x0 := H2.out.1.cell 0; have x1 := H2.out.1.cell 1; have x2 := H2.out.1.cell 2; have y0 := H2.out.2.1.cell 0; have y1 := H2.out.2.1.cell 1; have y2 := H2.out.2.1.cell 2) | ((with_reducible refine (HC2.out w2 H2.out.2.2.2.1).mono ?_); rintro e w3 ⟨rfl, hb3⟩; have H3 := Lib.hid (eq_step H2.out hb3); have x0 := H3.out.1.cell 0; have x1 := H3.out.1.cell 1; have x2 := H3.out.1.cell 2; have y0 := H3.out.2.1.cell 0; have y1 := H3.out.2.1.cell 1; have y2 := H3.out.2.1.cell 2)) | fail)
      go_ret
      exact ⟨rfl, H3.out.2.2.2.2⟩
  · have k0 : (F == 0) = false := by simpa using h1
    rw [k0, Bool.false_and]
    clear h1
    go_enter Try.func13, Try.ntmps13
    go_upto_region 1 with fail
    simp only [HW.out.1]
    rw [HW.out.2]
    go_wp2_with (first | (go_at_call 11; first | ((with_reducible refine (HC1.out W1 HE.out.2.2.1).mono ?_); rintro e w2 ⟨rfl, hb2⟩; have H2 := Lib.hid (eq_step HE.out hb2); have x0 := H2.out.1.cell 0; have x1 := H2.out.1.cell 1; have x2 := H2.out.1.cell 2; have y0 := H2.out.2.1.cell 0; have y1 := H2.out.2.1.cell 1; have y2 := H2.out.2.1.cell 2) | ((with_reducible refine (HC2.out w2 H2.out.2.2.2.1).mono ?_); rintro e w3 ⟨rfl, hb3⟩; have H3 := Lib.hid (eq_step H2.out hb3); have x0 := H3.out.1.cell 0; have x1 := H3.out.1.cell 1; have x2 := H3.out.1.cell 2; have y0 := H3.out.2.1.cell 0; have y1 := H3.out.2.1.cell 1; have y2 := H3.out.2.1.cell 2)) | fail)
    go_ret
    exact ⟨rfl, H2.out.2.2.2.2⟩
end Go.Proofs.Ythnefcafhpioaaa
