/-
  The document's Bound.
-/
import Derived.Test.YthnefcafhpioaaaDcB
namespace Go.Proofs.Ythnefcafhpioaaa
open Go Go.RowKit Go.Shelf

theorem st_notyet {ops : Array Oper} {md : Region.Mode} {l : Array Bool} {i j : Nat} {o' : Oper} (hcl : ∀ j o', ops[j]? = some o' → l.getD j false = true → ∀ e ∈ o'.after, Region.binds md e = true → l.getD e.on false = true) (h0 : l.getD i true = false) (ho : ops[j]? = some o') (he : (o'.after.any fun e => Region.binds md e && e.on == i) = true) : l.getD j false = false := by
  cases h : l.getD j false with
  | false => rfl
  | true =>
    obtain ⟨x, hx1, hx2⟩ := Array.any_eq_true'.1 he
    simp only [Bool.and_eq_true, beq_iff_eq] at hx2
    have := hcl j o' ho h x hx1 hx2.1
    rw [hx2.2] at this
    rw [up_not h0] at this
    cases this
theorem st_first {l : Array Bool} {k : Nat} {w1 w2 w' : World} (h : (l.getD k false = false ∧ w' = w1) ∨ (l.getD k false = true ∧ w' = w2)) (h0 : l.getD k false = false) : w' = w1 := by
  rcases h with ⟨-, h⟩ | ⟨h, -⟩
  · exact h
  · rw [h0] at h; cases h
theorem st_last {l : Array Bool} {k : Nat} {w1 w2 w' : World} (h : (l.getD k false = false ∧ w' = w1) ∨ (l.getD k false = true ∧ w' = w2)) (h0 : l.getD k false = true) : w' = w2 := by
  rcases h with ⟨h, -⟩ | ⟨-, h⟩
  · rw [h0] at h; cases h
  · exact h
theorem MOwn.set3' {B : Nat} {w : World} {m : List Int} {g c X : Nat} {x y z : Value} (h : MOwn B w m (some ⟨g, 0, none⟩) c) (hX : X ≠ g) : MOwn B (((w.setCell ⟨X, 0, none⟩ x).setCell ⟨X, 1, none⟩ y).setCell ⟨X, 2, none⟩ z) m (some ⟨g, 0, none⟩) c := by
  refine ⟨h.1, h.2.1, h.2.2.imp id ?_⟩
  rintro ⟨g', cs, e, hg, hb, hc⟩
  cases e
  exact ⟨g, cs, rfl, hg, ((hb.other (a := ⟨X, 0, none⟩) (fun e => hX e.symm) x).other (a := ⟨X, 1, none⟩) (fun e => hX e.symm) y).other (a := ⟨X, 2, none⟩) (fun e => hX e.symm) z, hc⟩
theorem ixn {i j N P T : Nat} (hN : N ≤ 64) (hi : i < 2 * N) (hj : j < 2 * N) (hP : i * (2 * N) = P) (hT : P + j = T) : IntKind.i64.wrap ((i : Int) * (2 * (N : Int))) = (P : Int) ∧ wrap64 ((i : Int) * (2 * (N : Int))) = (P : Int) ∧ IntKind.i64.wrap ((P : Int) + (j : Int)) = (T : Int) ∧ wrap64 ((P : Int) + (j : Int)) = (T : Int) := by
  have h := ixw (K := 2 * N) (by omega) hi hj hP hT
  push_cast at h
  exact h
theorem near_neg {q : Int} : nearV q < 0 ↔ q < 0 := by unfold nearV; split <;> (try split) <;> omega
theorem set_same {m : List Int} {T : Nat} (h : m.getD T 0 = 0) : m.set T 0 = m := by
  refine List.ext_getElem (by rw [List.length_set]) fun k h1 h2 => ?_
  rw [List.getElem_set]
  split
  · rename_i hk
    subst hk
    rw [List.getD_eq_getElem?_getD, List.getElem?_eq_getElem h2] at h
    exact h.symm
  · rfl
theorem withM_diag {N : Nat} {m : List Int} {i : Nat} {q : Int} (ho : okM (2 * N) m = true) (hi : i < 2 * N) (hq : 0 ≤ q) : withM (2 * N) m i i q = m := by
  have h1 := (okM_at ho hi hi).2.1 rfl
  have h2 := (okM_at ho (acr_lt hi) (acr_lt hi)).2.1 rfl
  have hv : lessV (gM (2 * N) m i i) q = 0 := by
    rw [h1]
    have hn : 0 ≤ nearV q := by unfold nearV; split <;> (try split) <;> omega
    unfold lessV
    rw [show nearV 0 = 0 by decide]
    omega
  unfold withM
  rw [hv]
  unfold sM
  rw [set_same (show m.getD (i * (2 * N) + i) 0 = 0 from h1), set_same (show m.getD (acr i * (2 * N) + acr i) 0 = 0 from h2)]
set_option maxRecDepth 100000 in
set_option maxHeartbeats 8000000 in
theorem rbound_any (N : Nat) (hN : N ≤ 64) (em : Bool) (m : List Int) (a : Option Addr) (c i j : Nat) (q0 : Int) (w : World) (B : Nat) (hm : MOwn B w m a c) (hB : B ≤ w.heap.size) (hem : em = true → m.length = 0) (hok : em = false → m.length = 2 * N * (2 * N) ∧ okM (2 * N) m = true) (hi : i < 2 * N) (hj : j < 2 * N) :
    Calls Try.prog 48 #[.agg #[.int .i64 N, .bool em, .slice a m.length c], .int .i64 i, .int .i64 j, .int .i64 q0] w fun e w' => ∃ a' c', e = .returned (ocV (if (em || (decide ((i : Int) = (j : Int)) && decide (q0 < 0))) = true then emptyOc N else ⟨N, false, withM (2 * N) m i j q0⟩) a' c') ∧ MOwn B w' (if (em || (decide ((i : Int) = (j : Int)) && decide (q0 < 0))) = true then emptyOc N else ⟨N, false, withM (2 * N) m i j q0⟩).m a' c' ∧ Below B w w' := by
  obtain ⟨X, hX⟩ : ∃ X, w.heap.size = X := ⟨_, rfl⟩
  obtain ⟨L, hL⟩ : ∃ L, m.length = L := ⟨_, rfl⟩
  rw [hL]
  obtain ⟨W1, hW1⟩ : ∃ W, (w.alloc (.cells #[.int .i64 N, .bool em, .slice a L c] 24)).alloc (.cells #[.int .i64 0, .bool false, .slice none 0 0] 24) = W := ⟨_, rfl⟩
  have hx1 : Blk W1 X #[.int .i64 N, .bool em, .slice a L c] 24 := by rw [← hW1, ← hX]; exact (Blk.new w _ _).alloc _
  have hy1 : Blk W1 (X + 1) #[.int .i64 0, .bool false, .slice none 0 0] 24 := by
    have h := Blk.new (w.alloc (.cells #[.int .i64 N, .bool em, .slice a L c] 24)) #[.int .i64 0, .bool false, .slice none 0 0] 24
    rw [World.size_alloc, hX] at h
    rw [← hW1]; exact h
  have hb1 : Below X w W1 := by rw [← hW1, ← hX]; exact ((Below.refl _ w).alloc (Nat.le_refl _) _).alloc (by simp) _
  have hs1 : W1.heap.size = X + 2 := by rw [← hW1, ← hX]; simp
  have hm1 : MOwn B W1 m a c := hm.next hb1 hX.symm
  have hbB : Below B w W1 := hb1.mono (by omega)
  have hgl : ∀ g, a = some ⟨g, 0, none⟩ → 0 < m.length → g < X ∧ B ≤ g := fun g hg h0 => by
    obtain ⟨g', hg', h1, h2, -⟩ := hm.at (i := 0) h0
    rw [hg] at hg'; cases hg'
    exact ⟨by omega, h1⟩
  have HW := Lib.hid (And.intro hX hW1)
  have HBX := Lib.hid (show B ≤ X + 1 by omega)
  have x0 : W1.cell? ⟨X, 0, none⟩ = some (.int .i64 N) := hx1.cell 0
  have x1 : W1.cell? ⟨X, 1, none⟩ = some (.bool em) := hx1.cell 1
  have x2 : W1.cell? ⟨X, 2, none⟩ = some (.slice a L c) := hx1.cell 2
  have y0 := hy1.cell 0
  have y1 := hy1.cell 1
  have y2 := hy1.cell 2
  have y3 := hy1.free 0
  have y4 := hy1.free 1
  have y5 := hy1.free 2
  have HNR := Lib.hid (fun w => rnear_any q0 w)
  obtain ⟨q, hq⟩ : ∃ q, nearV q0 = q := ⟨_, rfl⟩
  have hqn : q < 0 ↔ q0 < 0 := by rw [← hq]; exact near_neg
  rw [hq] at HNR
  cases em with
  | true =>
    rw [if_pos (by rfl)]
    have hm0 : m = [] := List.eq_nil_of_length_eq_zero (hem rfl)
    subst hm0
    have hL0 : L = 0 := hL.symm
    subst hL0
    have HF := Lib.hid (And.intro hy1 (And.intro hm1 hbB))
    clear hW1 hX hx1 hy1 hb1 hs1 hm1 hbB hgl hm hB hem hok hL hq hqn
    go_enter Try.func48, Try.ntmps48
    go_upto_region 1 with fail
    simp only [HW.out.1]
    rw [HW.out.2]
    go_wp2_with fail
    refine bodyPost_ret (results_cell_row rfl _ _ (X + 1) _ #[.int .i64 N, .bool true, .slice a 0 c] _ _ rfl (set3_blk HF.out.1) rfl rfl (by kernel_rfl)) rfl ?_
    exact ⟨a, c, rfl, ⟨HF.out.2.1.1, HF.out.2.1.2.1, .inl rfl⟩, set3_below HF.out.2.2 HBX.out⟩
  | false =>
    obtain ⟨hlen, ho⟩ := hok rfl
    by_cases hij : i = j
    · subst hij
      by_cases hq0 : q0 < 0
      · rw [if_pos (by simp [hq0])]
        have hqq : q < 0 := hqn.2 hq0
        have HE := Lib.hid (fun w => rempty_any (N : Int) w)
        have HF := Lib.hid (And.intro hy1 (And.intro hb1 hs1))
        clear hW1 hX hx1 hy1 hb1 hs1 hm1 hbB hgl hm hem hok hq hqn hlen ho
        go_enter Try.func48, Try.ntmps48
        go_upto_region 1 with fail
        simp only [HW.out.1]
        rw [HW.out.2]
        go_wp2_with (first | (go_at_call 63; (with_reducible refine (HNR.out _).mono ?_); rintro e w3 ⟨rfl, rfl⟩) | (go_at_call 18; (with_reducible refine (HE.out _).mono ?_); rintro e w5 ⟨rfl, hb5⟩; have HK5 := Lib.hid (HF.out.1.below hb5 HF.out.1.lt); have y0 := HK5.out.cell 0; have y1 := HK5.out.cell 1; have y2 := HK5.out.cell 2; have y3 := HK5.out.free 0; have y4 := HK5.out.free 1; have y5 := HK5.out.free 2) | fail)
        refine bodyPost_ret (results_cell_row rfl _ _ (X + 1) _ #[.int .i64 N, .bool true, .slice none 0 0] _ _ rfl (set3_blk HK5.out) rfl rfl (by kernel_rfl)) rfl ?_
        exact ⟨none, 0, rfl, mown_nil _ _, set3_below ((HF.out.2.1.mono (by have := HW.out.1; omega)).trans (hb5.mono (by have := HF.out.2.2; have := HBX.out; omega))) HBX.out⟩
      · rw [if_neg (by simp; omega)]
        rw [withM_diag ho hi (by omega)]
        have hqq : 0 ≤ q := by omega
        have HF := Lib.hid (And.intro hy1 (And.intro hm1 (And.intro hbB hL)))
        have hXg : ∀ g, a = some ⟨g, 0, none⟩ → X + 1 ≠ g := fun g hg => by
          have := (hgl g hg (by rw [hlen]; have := cell_lt hi hi; omega)).1; omega
        obtain ⟨g, hg, -⟩ := hm.at (i := 0) (by rw [hlen]; have := cell_lt hi hi; omega)
        subst hg
        have HXG := Lib.hid (hXg g rfl)
        clear hW1 hX hx1 hy1 hb1 hs1 hm1 hbB hgl hm hem hok hq hqn hlen ho hB hXg
        go_enter Try.func48, Try.ntmps48
        go_upto_region 1 with fail
        simp only [HW.out.1]
        rw [HW.out.2]
        go_wp2_with (first | (go_at_call 63; (with_reducible refine (HNR.out _).mono ?_); rintro e w3 ⟨rfl, rfl⟩) | fail)
        refine bodyPost_ret (results_cell_row rfl _ _ (X + 1) _ #[.int .i64 N, .bool false, .slice (some ⟨g, 0, none⟩) L c] _ _ rfl (set3_blk HF.out.1) rfl rfl (by kernel_rfl)) rfl ?_
        exact ⟨_, c, by show _ = Ending.returned (.agg #[.int .i64 N, .bool false, .slice (some ⟨g, 0, none⟩) m.length c]); rw [HF.out.2.2.2], HF.out.2.1.set3' HXG.out, set3_below HF.out.2.2.1 HBX.out⟩
    · rw [if_neg (by simp; omega)]
      have k1 : ((i : Int) == (j : Int)) = false := by simp; omega
      have hT0 := cell_lt hi hj
      have hR0 := cell_lt (acr_lt hj) (acr_lt hi)
      obtain ⟨g, hg, -, -, cT, fT⟩ := hm1.at (i := i * (2 * N) + j) (by omega)
      subst hg
      have hgg := hgl g rfl (by omega)
      have hV : withM (2 * N) m i j q0 = (m.set (i * (2 * N) + j) (lessV (gM (2 * N) m i j) q0)).set (acr j * (2 * N) + acr i) (lessV (gM (2 * N) m i j) q0) := rfl
      have hbnd := (okM_at ho hi hj).1
      have hVV : lessV (gM (2 * N) m i j) q0 = min (gM (2 * N) m i j) q := by unfold lessV; rw [near_same hbnd, hq]
      rw [hVV] at hV
      have HAI := Lib.hid (fun w => racr_any i (by omega) w)
      have HAJ := Lib.hid (fun w => racr_any j (by omega) w)
      obtain ⟨K, hK⟩ : ∃ K, 2 * N = K := ⟨_, rfl⟩
      have hai : acr i < K := by rw [← hK]; exact acr_lt hi
      have haj : acr j < K := by rw [← hK]; exact acr_lt hj
      have hi' : i < K := by omega
      have hj' : j < K := by omega
      have hK1 : K ≤ 128 := by omega
      have hCC : m.getD (i * (2 * N) + j) 0 = gM (2 * N) m i j := rfl
      obtain ⟨I, hI⟩ : ∃ I, acr i = I := ⟨_, rfl⟩
      obtain ⟨J, hJ⟩ : ∃ I, acr j = I := ⟨_, rfl⟩
      rw [hI] at HAI hR0 hV hai
      rw [hJ] at HAJ hR0 hV haj
      rw [hK] at hT0 hR0 cT fT hCC
      have hV2 : withM K m i j q0 = (m.set (i * K + j) (min (gM K m i j) q)).set (J * K + I) (min (gM K m i j) q) := by rw [← hK]; exact hV
      have hC2 : m.getD (i * K + j) 0 = gM K m i j := by rw [← hK]; rfl
      obtain ⟨C, hC⟩ : ∃ C, gM K m i j = C := ⟨_, rfl⟩
      rw [hC] at hV2 hC2
      obtain ⟨P, hP⟩ : ∃ P, i * K = P := ⟨_, rfl⟩
      obtain ⟨P2, hP2⟩ : ∃ P, J * K = P := ⟨_, rfl⟩
      obtain ⟨T, hT⟩ : ∃ T, P + j = T := ⟨_, rfl⟩
      obtain ⟨R, hR⟩ : ∃ T, P2 + I = T := ⟨_, rfl⟩
      rw [hP, hT] at hT0 cT fT hV2 hC2
      rw [hP2, hR] at hR0 hV2
      rw [hC2] at cT
      have hLK : m.length = K * K := by rw [hlen, hK]
      have HTL := Lib.hid (And.intro (show T < m.length by omega) (show R < m.length by omega))
      have tl : (T : Int) < (L : Int) := by omega
      have rl : (R : Int) < (L : Int) := by omega
      obtain ⟨V, hVm⟩ : ∃ V, min C q = V := ⟨_, rfl⟩
      rw [hVm] at hV2
      have HMIN := Lib.hid hVm
      have HV : Hid (True ∧ withM (2 * N) m i j q0 = (m.set T V).set R V) := Lib.hid ⟨trivial, by rw [hK]; exact hV2⟩
      have HL := Lib.hid hL
      have HG := Lib.hid (And.intro (show X ≠ g by omega) (And.intro (show X + 1 ≠ g by omega) (show B ≤ g from hgg.2)))
      have HO := Lib.hid (And.intro hm1 (And.intro hx1 (And.intro hy1 hbB)))
      have HT := Lib.hid (And.intro cT fT)
      have HX := Lib.hid x2
      have HIX := Lib.hid (ixn hN hi hj (by rw [hK]; exact hP) hT)
      have HIX2 := Lib.hid (ixn hN (show J < 2 * N by omega) (show I < 2 * N by omega) (by rw [hK]; exact hP2) hR)
      clear hW1 hX hx1 hy1 hb1 hs1 hm1 hbB hgl hm hem hok hq hqn hlen ho hB hT0 hR0 cT fT hV hVV hbnd hK hai haj hi' hj' hK1 hCC hI hJ hV2 hC2 hC hP hP2 hT hR hLK hgg hL hi hj hij hVm
      go_enter Try.func48, Try.ntmps48
      go_upto_region 1 with fail
      simp only [HW.out.1]
      rw [HW.out.2]
      go_upto_region 9 with (first | (go_at_call 63; (with_reducible refine (HNR.out _).mono ?_); rintro e w3 ⟨rfl, rfl⟩) | fail)
      refine wp_region_any (by kernel_rfl) ?_
      refine wpAny_mem2 [some 27, some 28, some 29, some 30, some 31, some 32, some 33, some 34, some 35, some 36, some 37, some 38, some 39, some 40, some 41, some 42, some 43, some 44, some 45, none] (fun _ => valsAt [.pointer (some ⟨X, 2, none⟩), .slice (some ⟨g, 0, none⟩) L c, .int .i64 (i : Int), .int .i64 (2 * (N : Int)), .int .i64 (P : Int), .int .i64 (j : Int), .int .i64 (T : Int), .pointer (some ⟨X, 2, none⟩), .slice (some ⟨g, 0, none⟩) L c, .int .i64 (i : Int), .int .i64 (2 * (N : Int)), .int .i64 (P : Int), .int .i64 (j : Int), .int .i64 (T : Int), .pointer (some ⟨g, T, none⟩), .int .i64 C, .int .i64 q, .int .i64 V, .pointer (some ⟨g, T, none⟩), undef]) (fun l _ w' => (l.getD 19 false = false ∧ w' = w3.drew) ∨ (l.getD 19 false = true ∧ w' = w3.drew.setCell ⟨g, T, none⟩ (.int .i64 V))) 100 undef rfl ?hvs (by kernel_rfl) (by kernel_rfl) (by kernel_rfl) ?hs ?he ?hj
      case hvs => intro R R' j _; rfl
      case hj => exact .inl ⟨rfl, rfl⟩
      case hs =>
        intro qi qo ho hi lz Rz fr0 hl hl0 hup hv hx hcl w' hJ
        have HH := Lib.hid (And.intro hl hJ)
        clear hl hJ hup
        have hi : qi < 20 := (Array.getElem?_eq_some_iff.1 ho).1
        have hcase : qi = 0 ∨ qi = 1 ∨ qi = 2 ∨ qi = 3 ∨ qi = 4 ∨ qi = 5 ∨ qi = 6 ∨ qi = 7 ∨ qi = 8 ∨ qi = 9 ∨ qi = 10 ∨ qi = 11 ∨ qi = 12 ∨ qi = 13 ∨ qi = 14 ∨ qi = 15 ∨ qi = 16 ∨ qi = 17 ∨ qi = 18 ∨ qi = 19 := by omega
        clear hi
        rcases hcase with rfl | rfl | rfl | rfl | rfl | rfl | rfl | rfl | rfl | rfl | rfl | rfl | rfl | rfl | rfl | rfl | rfl | rfl | rfl | rfl
        · obtain rfl := Option.some.inj ho.symm
          clear ho
          have x4 : fr0.tmps[(4 : Nat)]? = some (.pointer (some ⟨X, 0, none⟩)) := hx 4 (not_up (by decide))
          have hn : lz.getD 19 false = false := st_notyet hcl hl0 (j := 19) rfl (by kernel_rfl)
          have hw' := Lib.hid (st_first HH.out.2 hn)
          clear hv hx hcl hl0
          have c2 : w'.cell? ⟨X, 2, none⟩ = some (.slice (some ⟨g, 0, none⟩) L c) := by rw [hw'.out]; exact HX.out
          have cT : w'.cell? ⟨g, T, none⟩ = some (.int .i64 C) := by rw [hw'.out]; exact HT.out.1
          obtain ⟨e1, e1', e2, e2'⟩ := HIX.out
          have hmin := HMIN.out
          refine wpOp_step rfl (fun K hK => ?_)
          go_simp
          exact hK _ _ ⟨Rz, fun _ => rfl, rfl, .inl ⟨(getD_set_ne false (by decide)).trans hn, hw'.out⟩⟩
        · obtain rfl := Option.some.inj ho.symm
          clear ho
          have d0 : fr0.tmps[(27 : Nat)]? = some (.pointer (some ⟨X, 2, none⟩)) := hv ⟨0, .data⟩ (by simp) rfl _ rfl
          have hn : lz.getD 19 false = false := st_notyet hcl hl0 (j := 19) rfl (by kernel_rfl)
          have hw' := Lib.hid (st_first HH.out.2 hn)
          clear hv hx hcl hl0
          have c2 : w'.cell? ⟨X, 2, none⟩ = some (.slice (some ⟨g, 0, none⟩) L c) := by rw [hw'.out]; exact HX.out
          have cT : w'.cell? ⟨g, T, none⟩ = some (.int .i64 C) := by rw [hw'.out]; exact HT.out.1
          obtain ⟨e1, e1', e2, e2'⟩ := HIX.out
          have hmin := HMIN.out
          refine wpOp_step rfl (fun K hK => ?_)
          go_simp
          exact hK _ _ ⟨Rz, fun _ => rfl, rfl, .inl ⟨(getD_set_ne false (by decide)).trans hn, hw'.out⟩⟩
        · obtain rfl := Option.some.inj ho.symm
          clear ho
          have x1 : fr0.tmps[(1 : Nat)]? = some (.int .i64 (i : Int)) := hx 1 (not_up (by decide))
          have hn : lz.getD 19 false = false := st_notyet hcl hl0 (j := 19) rfl (by kernel_rfl)
          have hw' := Lib.hid (st_first HH.out.2 hn)
          clear hv hx hcl hl0
          have c2 : w'.cell? ⟨X, 2, none⟩ = some (.slice (some ⟨g, 0, none⟩) L c) := by rw [hw'.out]; exact HX.out
          have cT : w'.cell? ⟨g, T, none⟩ = some (.int .i64 C) := by rw [hw'.out]; exact HT.out.1
          obtain ⟨e1, e1', e2, e2'⟩ := HIX.out
          have hmin := HMIN.out
          refine wpOp_step rfl (fun K hK => ?_)
          go_simp
          exact hK _ _ ⟨Rz, fun _ => rfl, rfl, .inl ⟨(getD_set_ne false (by decide)).trans hn, hw'.out⟩⟩
        · obtain rfl := Option.some.inj ho.symm
          clear ho
          have x9 : fr0.tmps[(9 : Nat)]? = some (.int .i64 (2 * (N : Int))) := hx 9 (not_up (by decide))
          have hn : lz.getD 19 false = false := st_notyet hcl hl0 (j := 19) rfl (by kernel_rfl)
          have hw' := Lib.hid (st_first HH.out.2 hn)
          clear hv hx hcl hl0
          have c2 : w'.cell? ⟨X, 2, none⟩ = some (.slice (some ⟨g, 0, none⟩) L c) := by rw [hw'.out]; exact HX.out
          have cT : w'.cell? ⟨g, T, none⟩ = some (.int .i64 C) := by rw [hw'.out]; exact HT.out.1
          obtain ⟨e1, e1', e2, e2'⟩ := HIX.out
          have hmin := HMIN.out
          refine wpOp_step rfl (fun K hK => ?_)
          go_simp
          exact hK _ _ ⟨Rz, fun _ => rfl, rfl, .inl ⟨(getD_set_ne false (by decide)).trans hn, hw'.out⟩⟩
        · obtain rfl := Option.some.inj ho.symm
          clear ho
          have d2 : fr0.tmps[(29 : Nat)]? = some (.int .i64 (i : Int)) := hv ⟨2, .data⟩ (by simp) rfl _ rfl
          have d3 : fr0.tmps[(30 : Nat)]? = some (.int .i64 (2 * (N : Int))) := hv ⟨3, .data⟩ (by simp) rfl _ rfl
          have hn : lz.getD 19 false = false := st_notyet hcl hl0 (j := 19) rfl (by kernel_rfl)
          have hw' := Lib.hid (st_first HH.out.2 hn)
          clear hv hx hcl hl0
          have c2 : w'.cell? ⟨X, 2, none⟩ = some (.slice (some ⟨g, 0, none⟩) L c) := by rw [hw'.out]; exact HX.out
          have cT : w'.cell? ⟨g, T, none⟩ = some (.int .i64 C) := by rw [hw'.out]; exact HT.out.1
          obtain ⟨e1, e1', e2, e2'⟩ := HIX.out
          have hmin := HMIN.out
          refine wpOp_step rfl (fun K hK => ?_)
          go_simp
          exact hK _ _ ⟨Rz, fun _ => rfl, rfl, .inl ⟨(getD_set_ne false (by decide)).trans hn, hw'.out⟩⟩
        · obtain rfl := Option.some.inj ho.symm
          clear ho
          have x2 : fr0.tmps[(2 : Nat)]? = some (.int .i64 (j : Int)) := hx 2 (not_up (by decide))
          have hn : lz.getD 19 false = false := st_notyet hcl hl0 (j := 19) rfl (by kernel_rfl)
          have hw' := Lib.hid (st_first HH.out.2 hn)
          clear hv hx hcl hl0
          have c2 : w'.cell? ⟨X, 2, none⟩ = some (.slice (some ⟨g, 0, none⟩) L c) := by rw [hw'.out]; exact HX.out
          have cT : w'.cell? ⟨g, T, none⟩ = some (.int .i64 C) := by rw [hw'.out]; exact HT.out.1
          obtain ⟨e1, e1', e2, e2'⟩ := HIX.out
          have hmin := HMIN.out
          refine wpOp_step rfl (fun K hK => ?_)
          go_simp
          exact hK _ _ ⟨Rz, fun _ => rfl, rfl, .inl ⟨(getD_set_ne false (by decide)).trans hn, hw'.out⟩⟩
        · obtain rfl := Option.some.inj ho.symm
          clear ho
          have d4 : fr0.tmps[(31 : Nat)]? = some (.int .i64 (P : Int)) := hv ⟨4, .data⟩ (by simp) rfl _ rfl
          have d5 : fr0.tmps[(32 : Nat)]? = some (.int .i64 (j : Int)) := hv ⟨5, .data⟩ (by simp) rfl _ rfl
          have hn : lz.getD 19 false = false := st_notyet hcl hl0 (j := 19) rfl (by kernel_rfl)
          have hw' := Lib.hid (st_first HH.out.2 hn)
          clear hv hx hcl hl0
          have c2 : w'.cell? ⟨X, 2, none⟩ = some (.slice (some ⟨g, 0, none⟩) L c) := by rw [hw'.out]; exact HX.out
          have cT : w'.cell? ⟨g, T, none⟩ = some (.int .i64 C) := by rw [hw'.out]; exact HT.out.1
          obtain ⟨e1, e1', e2, e2'⟩ := HIX.out
          have hmin := HMIN.out
          refine wpOp_step rfl (fun K hK => ?_)
          go_simp
          exact hK _ _ ⟨Rz, fun _ => rfl, rfl, .inl ⟨(getD_set_ne false (by decide)).trans hn, hw'.out⟩⟩
        · obtain rfl := Option.some.inj ho.symm
          clear ho
          have x4 : fr0.tmps[(4 : Nat)]? = some (.pointer (some ⟨X, 0, none⟩)) := hx 4 (not_up (by decide))
          have hn : lz.getD 19 false = false := st_notyet hcl hl0 (j := 19) rfl (by kernel_rfl)
          have hw' := Lib.hid (st_first HH.out.2 hn)
          clear hv hx hcl hl0
          have c2 : w'.cell? ⟨X, 2, none⟩ = some (.slice (some ⟨g, 0, none⟩) L c) := by rw [hw'.out]; exact HX.out
          have cT : w'.cell? ⟨g, T, none⟩ = some (.int .i64 C) := by rw [hw'.out]; exact HT.out.1
          obtain ⟨e1, e1', e2, e2'⟩ := HIX.out
          have hmin := HMIN.out
          refine wpOp_step rfl (fun K hK => ?_)
          go_simp
          exact hK _ _ ⟨Rz, fun _ => rfl, rfl, .inl ⟨(getD_set_ne false (by decide)).trans hn, hw'.out⟩⟩
        · obtain rfl := Option.some.inj ho.symm
          clear ho
          have d7 : fr0.tmps[(34 : Nat)]? = some (.pointer (some ⟨X, 2, none⟩)) := hv ⟨7, .data⟩ (by simp) rfl _ rfl
          have hn : lz.getD 19 false = false := st_notyet hcl hl0 (j := 19) rfl (by kernel_rfl)
          have hw' := Lib.hid (st_first HH.out.2 hn)
          clear hv hx hcl hl0
          have c2 : w'.cell? ⟨X, 2, none⟩ = some (.slice (some ⟨g, 0, none⟩) L c) := by rw [hw'.out]; exact HX.out
          have cT : w'.cell? ⟨g, T, none⟩ = some (.int .i64 C) := by rw [hw'.out]; exact HT.out.1
          obtain ⟨e1, e1', e2, e2'⟩ := HIX.out
          have hmin := HMIN.out
          refine wpOp_step rfl (fun K hK => ?_)
          go_simp
          exact hK _ _ ⟨Rz, fun _ => rfl, rfl, .inl ⟨(getD_set_ne false (by decide)).trans hn, hw'.out⟩⟩
        · obtain rfl := Option.some.inj ho.symm
          clear ho
          have x1 : fr0.tmps[(1 : Nat)]? = some (.int .i64 (i : Int)) := hx 1 (not_up (by decide))
          have hn : lz.getD 19 false = false := st_notyet hcl hl0 (j := 19) rfl (by kernel_rfl)
          have hw' := Lib.hid (st_first HH.out.2 hn)
          clear hv hx hcl hl0
          have c2 : w'.cell? ⟨X, 2, none⟩ = some (.slice (some ⟨g, 0, none⟩) L c) := by rw [hw'.out]; exact HX.out
          have cT : w'.cell? ⟨g, T, none⟩ = some (.int .i64 C) := by rw [hw'.out]; exact HT.out.1
          obtain ⟨e1, e1', e2, e2'⟩ := HIX.out
          have hmin := HMIN.out
          refine wpOp_step rfl (fun K hK => ?_)
          go_simp
          exact hK _ _ ⟨Rz, fun _ => rfl, rfl, .inl ⟨(getD_set_ne false (by decide)).trans hn, hw'.out⟩⟩
        · obtain rfl := Option.some.inj ho.symm
          clear ho
          have x9 : fr0.tmps[(9 : Nat)]? = some (.int .i64 (2 * (N : Int))) := hx 9 (not_up (by decide))
          have hn : lz.getD 19 false = false := st_notyet hcl hl0 (j := 19) rfl (by kernel_rfl)
          have hw' := Lib.hid (st_first HH.out.2 hn)
          clear hv hx hcl hl0
          have c2 : w'.cell? ⟨X, 2, none⟩ = some (.slice (some ⟨g, 0, none⟩) L c) := by rw [hw'.out]; exact HX.out
          have cT : w'.cell? ⟨g, T, none⟩ = some (.int .i64 C) := by rw [hw'.out]; exact HT.out.1
          obtain ⟨e1, e1', e2, e2'⟩ := HIX.out
          have hmin := HMIN.out
          refine wpOp_step rfl (fun K hK => ?_)
          go_simp
          exact hK _ _ ⟨Rz, fun _ => rfl, rfl, .inl ⟨(getD_set_ne false (by decide)).trans hn, hw'.out⟩⟩
        · obtain rfl := Option.some.inj ho.symm
          clear ho
          have d9 : fr0.tmps[(36 : Nat)]? = some (.int .i64 (i : Int)) := hv ⟨9, .data⟩ (by simp) rfl _ rfl
          have d10 : fr0.tmps[(37 : Nat)]? = some (.int .i64 (2 * (N : Int))) := hv ⟨10, .data⟩ (by simp) rfl _ rfl
          have hn : lz.getD 19 false = false := st_notyet hcl hl0 (j := 19) rfl (by kernel_rfl)
          have hw' := Lib.hid (st_first HH.out.2 hn)
          clear hv hx hcl hl0
          have c2 : w'.cell? ⟨X, 2, none⟩ = some (.slice (some ⟨g, 0, none⟩) L c) := by rw [hw'.out]; exact HX.out
          have cT : w'.cell? ⟨g, T, none⟩ = some (.int .i64 C) := by rw [hw'.out]; exact HT.out.1
          obtain ⟨e1, e1', e2, e2'⟩ := HIX.out
          have hmin := HMIN.out
          refine wpOp_step rfl (fun K hK => ?_)
          go_simp
          exact hK _ _ ⟨Rz, fun _ => rfl, rfl, .inl ⟨(getD_set_ne false (by decide)).trans hn, hw'.out⟩⟩
        · obtain rfl := Option.some.inj ho.symm
          clear ho
          have x2 : fr0.tmps[(2 : Nat)]? = some (.int .i64 (j : Int)) := hx 2 (not_up (by decide))
          have hn : lz.getD 19 false = false := st_notyet hcl hl0 (j := 19) rfl (by kernel_rfl)
          have hw' := Lib.hid (st_first HH.out.2 hn)
          clear hv hx hcl hl0
          have c2 : w'.cell? ⟨X, 2, none⟩ = some (.slice (some ⟨g, 0, none⟩) L c) := by rw [hw'.out]; exact HX.out
          have cT : w'.cell? ⟨g, T, none⟩ = some (.int .i64 C) := by rw [hw'.out]; exact HT.out.1
          obtain ⟨e1, e1', e2, e2'⟩ := HIX.out
          have hmin := HMIN.out
          refine wpOp_step rfl (fun K hK => ?_)
          go_simp
          exact hK _ _ ⟨Rz, fun _ => rfl, rfl, .inl ⟨(getD_set_ne false (by decide)).trans hn, hw'.out⟩⟩
        · obtain rfl := Option.some.inj ho.symm
          clear ho
          have d11 : fr0.tmps[(38 : Nat)]? = some (.int .i64 (P : Int)) := hv ⟨11, .data⟩ (by simp) rfl _ rfl
          have d12 : fr0.tmps[(39 : Nat)]? = some (.int .i64 (j : Int)) := hv ⟨12, .data⟩ (by simp) rfl _ rfl
          have hn : lz.getD 19 false = false := st_notyet hcl hl0 (j := 19) rfl (by kernel_rfl)
          have hw' := Lib.hid (st_first HH.out.2 hn)
          clear hv hx hcl hl0
          have c2 : w'.cell? ⟨X, 2, none⟩ = some (.slice (some ⟨g, 0, none⟩) L c) := by rw [hw'.out]; exact HX.out
          have cT : w'.cell? ⟨g, T, none⟩ = some (.int .i64 C) := by rw [hw'.out]; exact HT.out.1
          obtain ⟨e1, e1', e2, e2'⟩ := HIX.out
          have hmin := HMIN.out
          refine wpOp_step rfl (fun K hK => ?_)
          go_simp
          exact hK _ _ ⟨Rz, fun _ => rfl, rfl, .inl ⟨(getD_set_ne false (by decide)).trans hn, hw'.out⟩⟩
        · obtain rfl := Option.some.inj ho.symm
          clear ho
          have d8 : fr0.tmps[(35 : Nat)]? = some (.slice (some ⟨g, 0, none⟩) L c) := hv ⟨8, .data⟩ (by simp) rfl _ rfl
          have d13 : fr0.tmps[(40 : Nat)]? = some (.int .i64 (T : Int)) := hv ⟨13, .data⟩ (by simp) rfl _ rfl
          have hn : lz.getD 19 false = false := st_notyet hcl hl0 (j := 19) rfl (by kernel_rfl)
          have hw' := Lib.hid (st_first HH.out.2 hn)
          clear hv hx hcl hl0
          have c2 : w'.cell? ⟨X, 2, none⟩ = some (.slice (some ⟨g, 0, none⟩) L c) := by rw [hw'.out]; exact HX.out
          have cT : w'.cell? ⟨g, T, none⟩ = some (.int .i64 C) := by rw [hw'.out]; exact HT.out.1
          obtain ⟨e1, e1', e2, e2'⟩ := HIX.out
          have hmin := HMIN.out
          refine wpOp_step rfl (fun K hK => ?_)
          go_simp
          exact hK _ _ ⟨Rz, fun _ => rfl, rfl, .inl ⟨(getD_set_ne false (by decide)).trans hn, hw'.out⟩⟩
        · obtain rfl := Option.some.inj ho.symm
          clear ho
          have d14 : fr0.tmps[(41 : Nat)]? = some (.pointer (some ⟨g, T, none⟩)) := hv ⟨14, .data⟩ (by simp) rfl _ rfl
          have hn : lz.getD 19 false = false := st_notyet hcl hl0 (j := 19) rfl (by kernel_rfl)
          have hw' := Lib.hid (st_first HH.out.2 hn)
          clear hv hx hcl hl0
          have c2 : w'.cell? ⟨X, 2, none⟩ = some (.slice (some ⟨g, 0, none⟩) L c) := by rw [hw'.out]; exact HX.out
          have cT : w'.cell? ⟨g, T, none⟩ = some (.int .i64 C) := by rw [hw'.out]; exact HT.out.1
          obtain ⟨e1, e1', e2, e2'⟩ := HIX.out
          have hmin := HMIN.out
          refine wpOp_step rfl (fun K hK => ?_)
          go_simp
          exact hK _ _ ⟨Rz, fun _ => rfl, rfl, .inl ⟨(getD_set_ne false (by decide)).trans hn, hw'.out⟩⟩
        · obtain rfl := Option.some.inj ho.symm
          clear ho
          have x3 : fr0.tmps[(3 : Nat)]? = some (.int .i64 q) := hx 3 (not_up (by decide))
          have hn : lz.getD 19 false = false := st_notyet hcl hl0 (j := 19) rfl (by kernel_rfl)
          have hw' := Lib.hid (st_first HH.out.2 hn)
          clear hv hx hcl hl0
          have c2 : w'.cell? ⟨X, 2, none⟩ = some (.slice (some ⟨g, 0, none⟩) L c) := by rw [hw'.out]; exact HX.out
          have cT : w'.cell? ⟨g, T, none⟩ = some (.int .i64 C) := by rw [hw'.out]; exact HT.out.1
          obtain ⟨e1, e1', e2, e2'⟩ := HIX.out
          have hmin := HMIN.out
          refine wpOp_step rfl (fun K hK => ?_)
          go_simp
          exact hK _ _ ⟨Rz, fun _ => rfl, rfl, .inl ⟨(getD_set_ne false (by decide)).trans hn, hw'.out⟩⟩
        · obtain rfl := Option.some.inj ho.symm
          clear ho
          have d15 : fr0.tmps[(42 : Nat)]? = some (.int .i64 C) := hv ⟨15, .data⟩ (by simp) rfl _ rfl
          have d16 : fr0.tmps[(43 : Nat)]? = some (.int .i64 q) := hv ⟨16, .data⟩ (by simp) rfl _ rfl
          have hn : lz.getD 19 false = false := st_notyet hcl hl0 (j := 19) rfl (by kernel_rfl)
          have hw' := Lib.hid (st_first HH.out.2 hn)
          clear hv hx hcl hl0
          have c2 : w'.cell? ⟨X, 2, none⟩ = some (.slice (some ⟨g, 0, none⟩) L c) := by rw [hw'.out]; exact HX.out
          have cT : w'.cell? ⟨g, T, none⟩ = some (.int .i64 C) := by rw [hw'.out]; exact HT.out.1
          obtain ⟨e1, e1', e2, e2'⟩ := HIX.out
          have hmin := HMIN.out
          refine wpOp_step rfl (fun K hK => ?_)
          go_simp
          exact hK _ _ ⟨Rz, fun _ => rfl, rfl, .inl ⟨(getD_set_ne false (by decide)).trans hn, hw'.out⟩⟩
        · obtain rfl := Option.some.inj ho.symm
          clear ho
          have d1 : fr0.tmps[(28 : Nat)]? = some (.slice (some ⟨g, 0, none⟩) L c) := hv ⟨1, .data⟩ (by simp) rfl _ rfl
          have d6 : fr0.tmps[(33 : Nat)]? = some (.int .i64 (T : Int)) := hv ⟨6, .data⟩ (by simp) rfl _ rfl
          have hn : lz.getD 19 false = false := st_notyet hcl hl0 (j := 19) rfl (by kernel_rfl)
          have hw' := Lib.hid (st_first HH.out.2 hn)
          clear hv hx hcl hl0
          have c2 : w'.cell? ⟨X, 2, none⟩ = some (.slice (some ⟨g, 0, none⟩) L c) := by rw [hw'.out]; exact HX.out
          have cT : w'.cell? ⟨g, T, none⟩ = some (.int .i64 C) := by rw [hw'.out]; exact HT.out.1
          obtain ⟨e1, e1', e2, e2'⟩ := HIX.out
          have hmin := HMIN.out
          refine wpOp_step rfl (fun K hK => ?_)
          go_simp
          exact hK _ _ ⟨Rz, fun _ => rfl, rfl, .inl ⟨(getD_set_ne false (by decide)).trans hn, hw'.out⟩⟩
        · obtain rfl := Option.some.inj ho.symm
          clear ho
          have d18 : fr0.tmps[(45 : Nat)]? = some (.pointer (some ⟨g, T, none⟩)) := hv ⟨18, .data⟩ (by simp) rfl _ rfl
          have d17 : fr0.tmps[(44 : Nat)]? = some (.int .i64 V) := hv ⟨17, .data⟩ (by simp) rfl _ rfl
          have hn : lz.getD 19 false = false := up_not hl0
          have hw' := Lib.hid (st_first HH.out.2 hn)
          clear hv hx hcl hl0
          have c2 : w'.cell? ⟨X, 2, none⟩ = some (.slice (some ⟨g, 0, none⟩) L c) := by rw [hw'.out]; exact HX.out
          have cT : w'.cell? ⟨g, T, none⟩ = some (.int .i64 C) := by rw [hw'.out]; exact HT.out.1
          obtain ⟨e1, e1', e2, e2'⟩ := HIX.out
          have hmin := HMIN.out
          have fT : w'.frozen? ⟨g, T, none⟩ = false := by rw [hw'.out]; exact HT.out.2
          refine wpOp_step rfl (fun K hK => ?_)
          go_simp
          exact hK _ _ ⟨Rz, fun _ => rfl, rfl, .inr ⟨up_self (by rw [HH.out.1]; decide), by rw [hw'.out]⟩⟩
      case he =>
        intro lz Rz w' hall hJ
        simp only [putM, valsAt, Nat.reduceAdd, Nat.zero_add, List.getD_cons_zero, List.getD_cons_succ, Act.put, List.setIfInBounds_toArray, List.set_cons_succ, List.set_cons_zero]
        have hw' := st_last hJ (hall 19 (by decide))
        clear hJ hall
        rw [hw']
        clear hw'
        obtain ⟨W6, hW6⟩ : ∃ W, w3.drew.setCell ⟨g, T, none⟩ (.int .i64 V) = W := ⟨_, rfl⟩
        have ho6 : MOwn B W6 (m.set T V) (some ⟨g, 0, none⟩) c := by rw [← hW6]; exact HO.out.1.set T V
        have hx6 : Blk W6 X #[.int .i64 N, .bool false, .slice (some ⟨g, 0, none⟩) L c] 24 := by rw [← hW6]; exact (HO.out.2.1.other (a := ⟨g, T, none⟩) HG.out.1 (.int .i64 V)).drew
        have hy6 : Blk W6 (X + 1) #[.int .i64 0, .bool false, .slice none 0 0] 24 := by rw [← hW6]; exact (HO.out.2.2.1.other (a := ⟨g, T, none⟩) HG.out.2.1 (.int .i64 V)).drew
        have hb6 : Below B w W6 := by rw [← hW6]; exact (HO.out.2.2.2.setCell (p := ⟨g, T, none⟩) HG.out.2.2 (.int .i64 V)).drew
        rw [hW6]
        obtain ⟨g2, e2, -, -, cT6, -⟩ := ho6.at (i := T) (by rw [List.length_set]; exact HTL.out.1)
        cases e2
        rw [show (m.set T V).getD T 0 = V by rw [List.getD_eq_getElem?_getD, List.getElem?_set_self HTL.out.1]; rfl] at cT6
        obtain ⟨g3, e3, -, -, cR6, fR6⟩ := ho6.at (i := R) (by rw [List.length_set]; exact HTL.out.2)
        cases e3
        obtain ⟨D, hD⟩ : ∃ D, (m.set T V).getD R 0 = D := ⟨_, rfl⟩
        rw [hD] at cR6
        have HT6 := Lib.hid (And.intro cT6 (And.intro cR6 fR6))
        have HX6 := Lib.hid (hx6.cell 2)
        have HO6 := Lib.hid (And.intro ho6 (And.intro hx6 (And.intro hy6 hb6)))
        clear hW6 ho6 hx6 hy6 hb6 cT6 cR6 fR6 hD
        go_wp2_with fail
        refine wp_region_any (by kernel_rfl) ?_
        refine wpAny_mem2 [some 46, some 47, some 48, some 49, some 50, some 51, some 52, some 53, some 54, some 55, some 56, some 57, some 58, some 59, some 60, some 61, some 62, some 63, some 64, none] (fun _ => valsAt [.pointer (some ⟨X, 2, none⟩), .slice (some ⟨g, 0, none⟩) L c, .int .i64 (j : Int), .int .i64 (J : Int), .int .i64 (2 * (N : Int)), .int .i64 (P2 : Int), .int .i64 (i : Int), .int .i64 (I : Int), .int .i64 (R : Int), .pointer (some ⟨X, 2, none⟩), .slice (some ⟨g, 0, none⟩) L c, .int .i64 (i : Int), .int .i64 (2 * (N : Int)), .int .i64 (P : Int), .int .i64 (j : Int), .int .i64 (T : Int), .pointer (some ⟨g, T, none⟩), .int .i64 V, .pointer (some ⟨g, R, none⟩), undef]) (fun l _ w' => (l.getD 19 false = false ∧ w' = W6.drew) ∨ (l.getD 19 false = true ∧ w' = W6.drew.setCell ⟨g, R, none⟩ (.int .i64 V))) 100 undef rfl ?hvs (by kernel_rfl) (by kernel_rfl) (by kernel_rfl) ?hs ?he ?hj
        case hvs => intro R R' j _; rfl
        case hj => exact .inl ⟨rfl, rfl⟩
        case hs =>
          intro qi qo ho hi lz Rz fr0 hl hl0 hup hv hx hcl w' hJ
          have HH := Lib.hid (And.intro hl hJ)
          clear hl hJ hup
          have hi : qi < 20 := (Array.getElem?_eq_some_iff.1 ho).1
          have hcase : qi = 0 ∨ qi = 1 ∨ qi = 2 ∨ qi = 3 ∨ qi = 4 ∨ qi = 5 ∨ qi = 6 ∨ qi = 7 ∨ qi = 8 ∨ qi = 9 ∨ qi = 10 ∨ qi = 11 ∨ qi = 12 ∨ qi = 13 ∨ qi = 14 ∨ qi = 15 ∨ qi = 16 ∨ qi = 17 ∨ qi = 18 ∨ qi = 19 := by omega
          clear hi
          rcases hcase with rfl | rfl | rfl | rfl | rfl | rfl | rfl | rfl | rfl | rfl | rfl | rfl | rfl | rfl | rfl | rfl | rfl | rfl | rfl | rfl
          · obtain rfl := Option.some.inj ho.symm
            clear ho
            have x4 : fr0.tmps[(4 : Nat)]? = some (.pointer (some ⟨X, 0, none⟩)) := hx 4 (not_up (by decide))
            have hn : lz.getD 19 false = false := st_notyet hcl hl0 (j := 19) rfl (by kernel_rfl)
            have hw' := Lib.hid (st_first HH.out.2 hn)
            clear hv hx hcl hl0
            have c2 : w'.cell? ⟨X, 2, none⟩ = some (.slice (some ⟨g, 0, none⟩) L c) := by rw [hw'.out]; exact HX6.out
            have cT : w'.cell? ⟨g, T, none⟩ = some (.int .i64 V) := by rw [hw'.out]; exact HT6.out.1
            obtain ⟨e1, e1', e2, e2'⟩ := HIX.out
            obtain ⟨e3, e3', e4, e4'⟩ := HIX2.out
            refine wpOp_step rfl (fun K hK => ?_)
            go_simp
            exact hK _ _ ⟨Rz, fun _ => rfl, rfl, .inl ⟨(getD_set_ne false (by decide)).trans hn, hw'.out⟩⟩
          · obtain rfl := Option.some.inj ho.symm
            clear ho
            have d0 : fr0.tmps[(46 : Nat)]? = some (.pointer (some ⟨X, 2, none⟩)) := hv ⟨0, .data⟩ (by simp) rfl _ rfl
            have hn : lz.getD 19 false = false := st_notyet hcl hl0 (j := 19) rfl (by kernel_rfl)
            have hw' := Lib.hid (st_first HH.out.2 hn)
            clear hv hx hcl hl0
            have c2 : w'.cell? ⟨X, 2, none⟩ = some (.slice (some ⟨g, 0, none⟩) L c) := by rw [hw'.out]; exact HX6.out
            have cT : w'.cell? ⟨g, T, none⟩ = some (.int .i64 V) := by rw [hw'.out]; exact HT6.out.1
            obtain ⟨e1, e1', e2, e2'⟩ := HIX.out
            obtain ⟨e3, e3', e4, e4'⟩ := HIX2.out
            refine wpOp_step rfl (fun K hK => ?_)
            go_simp
            exact hK _ _ ⟨Rz, fun _ => rfl, rfl, .inl ⟨(getD_set_ne false (by decide)).trans hn, hw'.out⟩⟩
          · obtain rfl := Option.some.inj ho.symm
            clear ho
            have x2 : fr0.tmps[(2 : Nat)]? = some (.int .i64 (j : Int)) := hx 2 (not_up (by decide))
            have hn : lz.getD 19 false = false := st_notyet hcl hl0 (j := 19) rfl (by kernel_rfl)
            have hw' := Lib.hid (st_first HH.out.2 hn)
            clear hv hx hcl hl0
            have c2 : w'.cell? ⟨X, 2, none⟩ = some (.slice (some ⟨g, 0, none⟩) L c) := by rw [hw'.out]; exact HX6.out
            have cT : w'.cell? ⟨g, T, none⟩ = some (.int .i64 V) := by rw [hw'.out]; exact HT6.out.1
            obtain ⟨e1, e1', e2, e2'⟩ := HIX.out
            obtain ⟨e3, e3', e4, e4'⟩ := HIX2.out
            refine wpOp_step rfl (fun K hK => ?_)
            go_simp
            exact hK _ _ ⟨Rz, fun _ => rfl, rfl, .inl ⟨(getD_set_ne false (by decide)).trans hn, hw'.out⟩⟩
          · obtain rfl := Option.some.inj ho.symm
            clear ho
            have d2 : fr0.tmps[(48 : Nat)]? = some (.int .i64 (j : Int)) := hv ⟨2, .data⟩ (by simp) rfl _ rfl
            have hn : lz.getD 19 false = false := st_notyet hcl hl0 (j := 19) rfl (by kernel_rfl)
            have hw' := Lib.hid (st_first HH.out.2 hn)
            clear hv hx hcl hl0
            have c2 : w'.cell? ⟨X, 2, none⟩ = some (.slice (some ⟨g, 0, none⟩) L c) := by rw [hw'.out]; exact HX6.out
            have cT : w'.cell? ⟨g, T, none⟩ = some (.int .i64 V) := by rw [hw'.out]; exact HT6.out.1
            obtain ⟨e1, e1', e2, e2'⟩ := HIX.out
            obtain ⟨e3, e3', e4, e4'⟩ := HIX2.out
            refine wpOp_step rfl (fun K hK => ?_)
            go_simp
            go_at_call 37
            refine (HAJ.out _).mono ?_
            rintro e w2 ⟨rfl, rfl⟩
            exact hK _ _ ⟨Rz, fun _ => rfl, rfl, .inl ⟨(getD_set_ne false (by decide)).trans hn, hw'.out⟩⟩
          · obtain rfl := Option.some.inj ho.symm
            clear ho
            have x9 : fr0.tmps[(9 : Nat)]? = some (.int .i64 (2 * (N : Int))) := hx 9 (not_up (by decide))
            have hn : lz.getD 19 false = false := st_notyet hcl hl0 (j := 19) rfl (by kernel_rfl)
            have hw' := Lib.hid (st_first HH.out.2 hn)
            clear hv hx hcl hl0
            have c2 : w'.cell? ⟨X, 2, none⟩ = some (.slice (some ⟨g, 0, none⟩) L c) := by rw [hw'.out]; exact HX6.out
            have cT : w'.cell? ⟨g, T, none⟩ = some (.int .i64 V) := by rw [hw'.out]; exact HT6.out.1
            obtain ⟨e1, e1', e2, e2'⟩ := HIX.out
            obtain ⟨e3, e3', e4, e4'⟩ := HIX2.out
            refine wpOp_step rfl (fun K hK => ?_)
            go_simp
            exact hK _ _ ⟨Rz, fun _ => rfl, rfl, .inl ⟨(getD_set_ne false (by decide)).trans hn, hw'.out⟩⟩
          · obtain rfl := Option.some.inj ho.symm
            clear ho
            have d3 : fr0.tmps[(49 : Nat)]? = some (.int .i64 (J : Int)) := hv ⟨3, .data⟩ (by simp) rfl _ rfl
            have d4 : fr0.tmps[(50 : Nat)]? = some (.int .i64 (2 * (N : Int))) := hv ⟨4, .data⟩ (by simp) rfl _ rfl
            have hn : lz.getD 19 false = false := st_notyet hcl hl0 (j := 19) rfl (by kernel_rfl)
            have hw' := Lib.hid (st_first HH.out.2 hn)
            clear hv hx hcl hl0
            have c2 : w'.cell? ⟨X, 2, none⟩ = some (.slice (some ⟨g, 0, none⟩) L c) := by rw [hw'.out]; exact HX6.out
            have cT : w'.cell? ⟨g, T, none⟩ = some (.int .i64 V) := by rw [hw'.out]; exact HT6.out.1
            obtain ⟨e1, e1', e2, e2'⟩ := HIX.out
            obtain ⟨e3, e3', e4, e4'⟩ := HIX2.out
            refine wpOp_step rfl (fun K hK => ?_)
            go_simp
            exact hK _ _ ⟨Rz, fun _ => rfl, rfl, .inl ⟨(getD_set_ne false (by decide)).trans hn, hw'.out⟩⟩
          · obtain rfl := Option.some.inj ho.symm
            clear ho
            have x1 : fr0.tmps[(1 : Nat)]? = some (.int .i64 (i : Int)) := hx 1 (not_up (by decide))
            have hn : lz.getD 19 false = false := st_notyet hcl hl0 (j := 19) rfl (by kernel_rfl)
            have hw' := Lib.hid (st_first HH.out.2 hn)
            clear hv hx hcl hl0
            have c2 : w'.cell? ⟨X, 2, none⟩ = some (.slice (some ⟨g, 0, none⟩) L c) := by rw [hw'.out]; exact HX6.out
            have cT : w'.cell? ⟨g, T, none⟩ = some (.int .i64 V) := by rw [hw'.out]; exact HT6.out.1
            obtain ⟨e1, e1', e2, e2'⟩ := HIX.out
            obtain ⟨e3, e3', e4, e4'⟩ := HIX2.out
            refine wpOp_step rfl (fun K hK => ?_)
            go_simp
            exact hK _ _ ⟨Rz, fun _ => rfl, rfl, .inl ⟨(getD_set_ne false (by decide)).trans hn, hw'.out⟩⟩
          · obtain rfl := Option.some.inj ho.symm
            clear ho
            have d6 : fr0.tmps[(52 : Nat)]? = some (.int .i64 (i : Int)) := hv ⟨6, .data⟩ (by simp) rfl _ rfl
            have hn : lz.getD 19 false = false := st_notyet hcl hl0 (j := 19) rfl (by kernel_rfl)
            have hw' := Lib.hid (st_first HH.out.2 hn)
            clear hv hx hcl hl0
            have c2 : w'.cell? ⟨X, 2, none⟩ = some (.slice (some ⟨g, 0, none⟩) L c) := by rw [hw'.out]; exact HX6.out
            have cT : w'.cell? ⟨g, T, none⟩ = some (.int .i64 V) := by rw [hw'.out]; exact HT6.out.1
            obtain ⟨e1, e1', e2, e2'⟩ := HIX.out
            obtain ⟨e3, e3', e4, e4'⟩ := HIX2.out
            refine wpOp_step rfl (fun K hK => ?_)
            go_simp
            go_at_call 37
            refine (HAI.out _).mono ?_
            rintro e w2 ⟨rfl, rfl⟩
            exact hK _ _ ⟨Rz, fun _ => rfl, rfl, .inl ⟨(getD_set_ne false (by decide)).trans hn, hw'.out⟩⟩
          · obtain rfl := Option.some.inj ho.symm
            clear ho
            have d5 : fr0.tmps[(51 : Nat)]? = some (.int .i64 (P2 : Int)) := hv ⟨5, .data⟩ (by simp) rfl _ rfl
            have d7 : fr0.tmps[(53 : Nat)]? = some (.int .i64 (I : Int)) := hv ⟨7, .data⟩ (by simp) rfl _ rfl
            have hn : lz.getD 19 false = false := st_notyet hcl hl0 (j := 19) rfl (by kernel_rfl)
            have hw' := Lib.hid (st_first HH.out.2 hn)
            clear hv hx hcl hl0
            have c2 : w'.cell? ⟨X, 2, none⟩ = some (.slice (some ⟨g, 0, none⟩) L c) := by rw [hw'.out]; exact HX6.out
            have cT : w'.cell? ⟨g, T, none⟩ = some (.int .i64 V) := by rw [hw'.out]; exact HT6.out.1
            obtain ⟨e1, e1', e2, e2'⟩ := HIX.out
            obtain ⟨e3, e3', e4, e4'⟩ := HIX2.out
            refine wpOp_step rfl (fun K hK => ?_)
            go_simp
            exact hK _ _ ⟨Rz, fun _ => rfl, rfl, .inl ⟨(getD_set_ne false (by decide)).trans hn, hw'.out⟩⟩
          · obtain rfl := Option.some.inj ho.symm
            clear ho
            have x4 : fr0.tmps[(4 : Nat)]? = some (.pointer (some ⟨X, 0, none⟩)) := hx 4 (not_up (by decide))
            have hn : lz.getD 19 false = false := st_notyet hcl hl0 (j := 19) rfl (by kernel_rfl)
            have hw' := Lib.hid (st_first HH.out.2 hn)
            clear hv hx hcl hl0
            have c2 : w'.cell? ⟨X, 2, none⟩ = some (.slice (some ⟨g, 0, none⟩) L c) := by rw [hw'.out]; exact HX6.out
            have cT : w'.cell? ⟨g, T, none⟩ = some (.int .i64 V) := by rw [hw'.out]; exact HT6.out.1
            obtain ⟨e1, e1', e2, e2'⟩ := HIX.out
            obtain ⟨e3, e3', e4, e4'⟩ := HIX2.out
            refine wpOp_step rfl (fun K hK => ?_)
            go_simp
            exact hK _ _ ⟨Rz, fun _ => rfl, rfl, .inl ⟨(getD_set_ne false (by decide)).trans hn, hw'.out⟩⟩
          · obtain rfl := Option.some.inj ho.symm
            clear ho
            have d9 : fr0.tmps[(55 : Nat)]? = some (.pointer (some ⟨X, 2, none⟩)) := hv ⟨9, .data⟩ (by simp) rfl _ rfl
            have hn : lz.getD 19 false = false := st_notyet hcl hl0 (j := 19) rfl (by kernel_rfl)
            have hw' := Lib.hid (st_first HH.out.2 hn)
            clear hv hx hcl hl0
            have c2 : w'.cell? ⟨X, 2, none⟩ = some (.slice (some ⟨g, 0, none⟩) L c) := by rw [hw'.out]; exact HX6.out
            have cT : w'.cell? ⟨g, T, none⟩ = some (.int .i64 V) := by rw [hw'.out]; exact HT6.out.1
            obtain ⟨e1, e1', e2, e2'⟩ := HIX.out
            obtain ⟨e3, e3', e4, e4'⟩ := HIX2.out
            refine wpOp_step rfl (fun K hK => ?_)
            go_simp
            exact hK _ _ ⟨Rz, fun _ => rfl, rfl, .inl ⟨(getD_set_ne false (by decide)).trans hn, hw'.out⟩⟩
          · obtain rfl := Option.some.inj ho.symm
            clear ho
            have x1 : fr0.tmps[(1 : Nat)]? = some (.int .i64 (i : Int)) := hx 1 (not_up (by decide))
            have hn : lz.getD 19 false = false := st_notyet hcl hl0 (j := 19) rfl (by kernel_rfl)
            have hw' := Lib.hid (st_first HH.out.2 hn)
            clear hv hx hcl hl0
            have c2 : w'.cell? ⟨X, 2, none⟩ = some (.slice (some ⟨g, 0, none⟩) L c) := by rw [hw'.out]; exact HX6.out
            have cT : w'.cell? ⟨g, T, none⟩ = some (.int .i64 V) := by rw [hw'.out]; exact HT6.out.1
            obtain ⟨e1, e1', e2, e2'⟩ := HIX.out
            obtain ⟨e3, e3', e4, e4'⟩ := HIX2.out
            refine wpOp_step rfl (fun K hK => ?_)
            go_simp
            exact hK _ _ ⟨Rz, fun _ => rfl, rfl, .inl ⟨(getD_set_ne false (by decide)).trans hn, hw'.out⟩⟩
          · obtain rfl := Option.some.inj ho.symm
            clear ho
            have x9 : fr0.tmps[(9 : Nat)]? = some (.int .i64 (2 * (N : Int))) := hx 9 (not_up (by decide))
            have hn : lz.getD 19 false = false := st_notyet hcl hl0 (j := 19) rfl (by kernel_rfl)
            have hw' := Lib.hid (st_first HH.out.2 hn)
            clear hv hx hcl hl0
            have c2 : w'.cell? ⟨X, 2, none⟩ = some (.slice (some ⟨g, 0, none⟩) L c) := by rw [hw'.out]; exact HX6.out
            have cT : w'.cell? ⟨g, T, none⟩ = some (.int .i64 V) := by rw [hw'.out]; exact HT6.out.1
            obtain ⟨e1, e1', e2, e2'⟩ := HIX.out
            obtain ⟨e3, e3', e4, e4'⟩ := HIX2.out
            refine wpOp_step rfl (fun K hK => ?_)
            go_simp
            exact hK _ _ ⟨Rz, fun _ => rfl, rfl, .inl ⟨(getD_set_ne false (by decide)).trans hn, hw'.out⟩⟩
          · obtain rfl := Option.some.inj ho.symm
            clear ho
            have d11 : fr0.tmps[(57 : Nat)]? = some (.int .i64 (i : Int)) := hv ⟨11, .data⟩ (by simp) rfl _ rfl
            have d12 : fr0.tmps[(58 : Nat)]? = some (.int .i64 (2 * (N : Int))) := hv ⟨12, .data⟩ (by simp) rfl _ rfl
            have hn : lz.getD 19 false = false := st_notyet hcl hl0 (j := 19) rfl (by kernel_rfl)
            have hw' := Lib.hid (st_first HH.out.2 hn)
            clear hv hx hcl hl0
            have c2 : w'.cell? ⟨X, 2, none⟩ = some (.slice (some ⟨g, 0, none⟩) L c) := by rw [hw'.out]; exact HX6.out
            have cT : w'.cell? ⟨g, T, none⟩ = some (.int .i64 V) := by rw [hw'.out]; exact HT6.out.1
            obtain ⟨e1, e1', e2, e2'⟩ := HIX.out
            obtain ⟨e3, e3', e4, e4'⟩ := HIX2.out
            refine wpOp_step rfl (fun K hK => ?_)
            go_simp
            exact hK _ _ ⟨Rz, fun _ => rfl, rfl, .inl ⟨(getD_set_ne false (by decide)).trans hn, hw'.out⟩⟩
          · obtain rfl := Option.some.inj ho.symm
            clear ho
            have x2 : fr0.tmps[(2 : Nat)]? = some (.int .i64 (j : Int)) := hx 2 (not_up (by decide))
            have hn : lz.getD 19 false = false := st_notyet hcl hl0 (j := 19) rfl (by kernel_rfl)
            have hw' := Lib.hid (st_first HH.out.2 hn)
            clear hv hx hcl hl0
            have c2 : w'.cell? ⟨X, 2, none⟩ = some (.slice (some ⟨g, 0, none⟩) L c) := by rw [hw'.out]; exact HX6.out
            have cT : w'.cell? ⟨g, T, none⟩ = some (.int .i64 V) := by rw [hw'.out]; exact HT6.out.1
            obtain ⟨e1, e1', e2, e2'⟩ := HIX.out
            obtain ⟨e3, e3', e4, e4'⟩ := HIX2.out
            refine wpOp_step rfl (fun K hK => ?_)
            go_simp
            exact hK _ _ ⟨Rz, fun _ => rfl, rfl, .inl ⟨(getD_set_ne false (by decide)).trans hn, hw'.out⟩⟩
          · obtain rfl := Option.some.inj ho.symm
            clear ho
            have d13 : fr0.tmps[(59 : Nat)]? = some (.int .i64 (P : Int)) := hv ⟨13, .data⟩ (by simp) rfl _ rfl
            have d14 : fr0.tmps[(60 : Nat)]? = some (.int .i64 (j : Int)) := hv ⟨14, .data⟩ (by simp) rfl _ rfl
            have hn : lz.getD 19 false = false := st_notyet hcl hl0 (j := 19) rfl (by kernel_rfl)
            have hw' := Lib.hid (st_first HH.out.2 hn)
            clear hv hx hcl hl0
            have c2 : w'.cell? ⟨X, 2, none⟩ = some (.slice (some ⟨g, 0, none⟩) L c) := by rw [hw'.out]; exact HX6.out
            have cT : w'.cell? ⟨g, T, none⟩ = some (.int .i64 V) := by rw [hw'.out]; exact HT6.out.1
            obtain ⟨e1, e1', e2, e2'⟩ := HIX.out
            obtain ⟨e3, e3', e4, e4'⟩ := HIX2.out
            refine wpOp_step rfl (fun K hK => ?_)
            go_simp
            exact hK _ _ ⟨Rz, fun _ => rfl, rfl, .inl ⟨(getD_set_ne false (by decide)).trans hn, hw'.out⟩⟩
          · obtain rfl := Option.some.inj ho.symm
            clear ho
            have d10 : fr0.tmps[(56 : Nat)]? = some (.slice (some ⟨g, 0, none⟩) L c) := hv ⟨10, .data⟩ (by simp) rfl _ rfl
            have d15 : fr0.tmps[(61 : Nat)]? = some (.int .i64 (T : Int)) := hv ⟨15, .data⟩ (by simp) rfl _ rfl
            have hn : lz.getD 19 false = false := st_notyet hcl hl0 (j := 19) rfl (by kernel_rfl)
            have hw' := Lib.hid (st_first HH.out.2 hn)
            clear hv hx hcl hl0
            have c2 : w'.cell? ⟨X, 2, none⟩ = some (.slice (some ⟨g, 0, none⟩) L c) := by rw [hw'.out]; exact HX6.out
            have cT : w'.cell? ⟨g, T, none⟩ = some (.int .i64 V) := by rw [hw'.out]; exact HT6.out.1
            obtain ⟨e1, e1', e2, e2'⟩ := HIX.out
            obtain ⟨e3, e3', e4, e4'⟩ := HIX2.out
            refine wpOp_step rfl (fun K hK => ?_)
            go_simp
            exact hK _ _ ⟨Rz, fun _ => rfl, rfl, .inl ⟨(getD_set_ne false (by decide)).trans hn, hw'.out⟩⟩
          · obtain rfl := Option.some.inj ho.symm
            clear ho
            have d16 : fr0.tmps[(62 : Nat)]? = some (.pointer (some ⟨g, T, none⟩)) := hv ⟨16, .data⟩ (by simp) rfl _ rfl
            have hn : lz.getD 19 false = false := st_notyet hcl hl0 (j := 19) rfl (by kernel_rfl)
            have hw' := Lib.hid (st_first HH.out.2 hn)
            clear hv hx hcl hl0
            have c2 : w'.cell? ⟨X, 2, none⟩ = some (.slice (some ⟨g, 0, none⟩) L c) := by rw [hw'.out]; exact HX6.out
            have cT : w'.cell? ⟨g, T, none⟩ = some (.int .i64 V) := by rw [hw'.out]; exact HT6.out.1
            obtain ⟨e1, e1', e2, e2'⟩ := HIX.out
            obtain ⟨e3, e3', e4, e4'⟩ := HIX2.out
            refine wpOp_step rfl (fun K hK => ?_)
            go_simp
            exact hK _ _ ⟨Rz, fun _ => rfl, rfl, .inl ⟨(getD_set_ne false (by decide)).trans hn, hw'.out⟩⟩
          · obtain rfl := Option.some.inj ho.symm
            clear ho
            have d1 : fr0.tmps[(47 : Nat)]? = some (.slice (some ⟨g, 0, none⟩) L c) := hv ⟨1, .data⟩ (by simp) rfl _ rfl
            have d8 : fr0.tmps[(54 : Nat)]? = some (.int .i64 (R : Int)) := hv ⟨8, .data⟩ (by simp) rfl _ rfl
            have hn : lz.getD 19 false = false := st_notyet hcl hl0 (j := 19) rfl (by kernel_rfl)
            have hw' := Lib.hid (st_first HH.out.2 hn)
            clear hv hx hcl hl0
            have c2 : w'.cell? ⟨X, 2, none⟩ = some (.slice (some ⟨g, 0, none⟩) L c) := by rw [hw'.out]; exact HX6.out
            have cT : w'.cell? ⟨g, T, none⟩ = some (.int .i64 V) := by rw [hw'.out]; exact HT6.out.1
            obtain ⟨e1, e1', e2, e2'⟩ := HIX.out
            obtain ⟨e3, e3', e4, e4'⟩ := HIX2.out
            refine wpOp_step rfl (fun K hK => ?_)
            go_simp
            exact hK _ _ ⟨Rz, fun _ => rfl, rfl, .inl ⟨(getD_set_ne false (by decide)).trans hn, hw'.out⟩⟩
          · obtain rfl := Option.some.inj ho.symm
            clear ho
            have d18 : fr0.tmps[(64 : Nat)]? = some (.pointer (some ⟨g, R, none⟩)) := hv ⟨18, .data⟩ (by simp) rfl _ rfl
            have d17 : fr0.tmps[(63 : Nat)]? = some (.int .i64 V) := hv ⟨17, .data⟩ (by simp) rfl _ rfl
            have hn : lz.getD 19 false = false := up_not hl0
            have hw' := Lib.hid (st_first HH.out.2 hn)
            clear hv hx hcl hl0
            have c2 : w'.cell? ⟨X, 2, none⟩ = some (.slice (some ⟨g, 0, none⟩) L c) := by rw [hw'.out]; exact HX6.out
            have cT : w'.cell? ⟨g, T, none⟩ = some (.int .i64 V) := by rw [hw'.out]; exact HT6.out.1
            obtain ⟨e1, e1', e2, e2'⟩ := HIX.out
            obtain ⟨e3, e3', e4, e4'⟩ := HIX2.out
            have cR : w'.cell? ⟨g, R, none⟩ = some (.int .i64 D) := by rw [hw'.out]; exact HT6.out.2.1
            have fR : w'.frozen? ⟨g, R, none⟩ = false := by rw [hw'.out]; exact HT6.out.2.2
            refine wpOp_step rfl (fun K hK => ?_)
            go_simp
            exact hK _ _ ⟨Rz, fun _ => rfl, rfl, .inr ⟨up_self (by rw [HH.out.1]; decide), by rw [hw'.out]⟩⟩
        case he =>
          intro lz Rz w' hall hJ
          simp only [putM, valsAt, Nat.reduceAdd, Nat.zero_add, List.getD_cons_zero, List.getD_cons_succ, Act.put, List.setIfInBounds_toArray, List.set_cons_succ, List.set_cons_zero]
          have hw' := st_last hJ (hall 19 (by decide))
          clear hJ hall
          rw [hw']
          clear hw'
          obtain ⟨W7, hW7⟩ : ∃ W, W6.drew.setCell ⟨g, R, none⟩ (.int .i64 V) = W := ⟨_, rfl⟩
          have ho7 : MOwn B W7 ((m.set T V).set R V) (some ⟨g, 0, none⟩) c := by rw [← hW7]; exact HO6.out.1.set R V
          have hx7 : Blk W7 X #[.int .i64 N, .bool false, .slice (some ⟨g, 0, none⟩) L c] 24 := by rw [← hW7]; exact (HO6.out.2.1.other (a := ⟨g, R, none⟩) HG.out.1 (.int .i64 V)).drew
          have hy7 : Blk W7 (X + 1) #[.int .i64 0, .bool false, .slice none 0 0] 24 := by rw [← hW7]; exact (HO6.out.2.2.1.other (a := ⟨g, R, none⟩) HG.out.2.1 (.int .i64 V)).drew
          have hb7 : Below B w W7 := by rw [← hW7]; exact (HO6.out.2.2.2.setCell (p := ⟨g, R, none⟩) HG.out.2.2 (.int .i64 V)).drew
          rw [hW7]
          have z0 := hx7.cell 0
          have z1 := hx7.cell 1
          have z2 := hx7.cell 2
          have y0 := hy7.cell 0
          have y1 := hy7.cell 1
          have y2 := hy7.cell 2
          have y3 := hy7.free 0
          have y4 := hy7.free 1
          have y5 := hy7.free 2
          have HF := Lib.hid (And.intro hy7 (And.intro ho7 hb7))
          clear hW7 ho7 hx7 hy7 hb7
          go_wp2_with fail
          refine bodyPost_ret (results_cell_row rfl _ _ (X + 1) _ #[.int .i64 N, .bool false, .slice (some ⟨g, 0, none⟩) L c] _ _ rfl (set3_blk HF.out.1) rfl rfl (by kernel_rfl)) rfl ?_
          refine ⟨some ⟨g, 0, none⟩, c, ?_, ?_, ?_⟩
          · show _ = Ending.returned (.agg #[.int .i64 N, .bool false, .slice (some ⟨g, 0, none⟩) (withM (2 * N) m i j q0).length c])
            rw [HV.out.2, List.length_set, List.length_set, HL.out]
          · show MOwn _ _ (withM (2 * N) m i j q0) _ _
            rw [HV.out.2]
            exact HF.out.2.1.set3' HG.out.2.1
          · exact set3_below HF.out.2.2 HBX.out
end Go.Proofs.Ythnefcafhpioaaa
