/-
  A graph's checks: operand, right, all[api.Edge]: proved is that they tell whether an edge is right.
-/
import Derived.Test.YtbhbmoppipohjaaGreatDoorQGrM
import Derived.Test.YtbhbmoppipohjaaGreatDoorQCfgN
import Derived.ChangeKeysEq
import Derived.Laws.StructEq
import Derived.Deep.RegionHeld3
/-
  A graph's checks, their small parts: among, place, compares, hasSize, variables, operand: proved is what each tells.
-/
namespace Go.Proofs.YtbhbmoppipohjaaGreatDoor
open Go Go.RowKit Go.Maps

set_option maxRecDepth 100000 in
theorem among_any (i n : Int) (w : World) : Calls Tryz.prog 38 #[.int .i64 i, .int .i64 n] w (fun e w' => e = .returned (.bool (amg i n)) ∧ w' = w) := by
  unfold amg
  cases h1 : decide (0 ≤ i) <;> cases h2 : decide (i < n)
  all_goals (go_enter Tryz.func38, Tryz.ntmps38; go_wp2_with fail; go_ret; exact ⟨rfl, rfl⟩)
set_option maxRecDepth 100000 in
theorem place_any (has : Bool) (i n : Int) (w : World) : Calls Tryz.prog 91 #[.bool has, .int .i64 i, .int .i64 n] w (fun e w' => e = .returned (.bool (plc has i n)) ∧ w' = w) := by
  have HA := fun w => among_any i n w
  unfold plc
  cases has
  · simp only [Bool.false_eq_true, if_false]
    go_enter Tryz.func91, Tryz.ntmps91
    go_wp2_with fail
    go_ret
    exact ⟨rfl, rfl⟩
  · simp only [if_true]
    obtain ⟨B, hB⟩ : ∃ b, amg i n = b := ⟨_, rfl⟩
    rw [hB] at HA ⊢
    clear hB
    go_enter Tryz.func91, Tryz.ntmps91
    go_wp2_with (first | (go_at_call 38; (with_reducible refine (HA _).mono ?_); rintro e w2 ⟨rfl, rfl⟩) | fail)
    go_ret
    exact ⟨rfl, rfl⟩
set_option maxRecDepth 100000 in
theorem compares_any (has : Bool) (op : Int) (w : World) : Calls Tryz.prog 93 #[.bool has, .int .i64 op] w (fun e w' => e = .returned (.bool (cmps has op)) ∧ w' = w) := by
  unfold cmps
  cases has
  · simp only [Bool.false_eq_true, if_false]
    go_enter Tryz.func93, Tryz.ntmps93
    go_wp2_with fail
    go_ret
    exact ⟨rfl, rfl⟩
  · simp only [if_true]
    cases h1 : decide (1 ≤ op) <;> cases h2 : decide (op ≤ 6)
    all_goals (go_enter Tryz.func93, Tryz.ntmps93; go_wp2_with fail; go_ret; exact ⟨rfl, rfl⟩)
set_option maxRecDepth 100000 in
theorem hasSize_any (s : ByteArray) (n : Int) (w : World) : Calls Tryz.prog 60 #[.agg #[.string s, .int .i64 n]] w (fun e w' => e = .returned (.bool (decide (1 ≤ n) && decide (n ≤ 1024))) ∧ Below w.heap.size w w') := by
  cases h1 : decide (1 ≤ n) <;> cases h2 : decide (n ≤ 1024)
  all_goals (go_enter Tryz.func60, Tryz.ntmps60; go_wp2_with fail; go_ret; exact ⟨rfl, (Below.refl w.heap.size w).alloc (Nat.le_refl _) _⟩)
/-- A graph's value, its slices in their forms. -/
abbrev grS (g : Gf) (av : Option Addr) (cv : Nat) (aa : Option Addr) (ca : Nat) (ae : Option Addr) (ce : Nat) : Value := .agg #[.slice av g.vs.length cv, .int .i64 g.tmp, .slice aa g.ar.length ca, .int .i64 g.pts, .int .i64 g.ext, .slice ae g.es.length ce]
abbrev grB (g : Gf) (av : Option Addr) (cv : Nat) (aa : Option Addr) (ca : Nat) (ae : Option Addr) (ce : Nat) : Array Value := #[.slice av g.vs.length cv, .int .i64 g.tmp, .slice aa g.ar.length ca, .int .i64 g.pts, .int .i64 g.ext, .slice ae g.es.length ce]
set_option maxRecDepth 100000 in
theorem variables_any (g : Gf) (av aa ae : Option Addr) (cv ca ce : Nat) (h0 : 0 ≤ g.nv) (h1 : g.nv ≤ 1099511627776) (w : World) : Calls Tryz.prog 92 #[grS g av cv aa ca ae ce] w (fun e w' => e = .returned (.int .i64 g.nv) ∧ Below w.heap.size w w') := by
  have hw : IntKind.i64.wrap ((g.vs.length : Int) + g.tmp) = g.nv := fits_wrap (by unfold fitsI; unfold Gf.nv at h0 h1; omega)
  clear h0 h1
  go_enter Tryz.func92, Tryz.ntmps92
  go_wp2_with fail
  go_ret
  exact ⟨rfl, (Below.refl w.heap.size w).alloc (Nat.le_refl _) _⟩
theorem ditem_at {w : World} {l : List Nd} {b o : Nat} (hr : RowIn w .D l b o) (i : Nat) (hi : i < l.length) : w.cell? ⟨b, o + i * 2, none⟩ = some (.string (dNm l[i])) ∧ w.cell? ⟨b, o + i * 2 + 1, none⟩ = some (.int .i64 (dSz l[i])) := by
  obtain ⟨hty, vs, hc, hnd⟩ := RowIn.at l b o i hi hr
  obtain ⟨x, hx⟩ : ∃ x, l[i] = x := ⟨_, rfl⟩
  rw [hx] at hty hnd ⊢
  obtain ⟨ty, k, n, nm, xs, cs, ts, es⟩ := x
  simp only [Nd.ty] at hty
  subst hty
  unfold NdIn at hnd
  obtain ⟨_, _, _, _, vx, vc, vt, ve, rfl, _⟩ := hnd
  exact ⟨hc 0 _ rfl, hc 1 _ rfl⟩
theorem all_drop {α : Type} (p : α → Bool) (l : List α) (i : Nat) (h : i < l.length) : (l.drop i).all p = (p l[i] && (l.drop (i + 1)).all p) := by
  rw [List.drop_eq_getElem_cons h, List.all_cons]
set_option maxRecDepth 100000 in
set_option maxHeartbeats 4000000 in
theorem all_decl (l : List Nd) (v : Value) (w : World) (h : SlIn w .D l v) : Calls Tryz.prog 59 #[v, .func (.func 60) #[] #[]] w (fun e w' => e = .returned (.bool (l.all szD)) ∧ Below w.heap.size w w') := by
  obtain ⟨a, c, rfl, hlc, hcm, hrow⟩ := h
  have HR := Lib.hid hrow
  have hb63 : (l.length : Int) ≤ 9223372036854775807 := by unfold maxLen at hcm; omega
  obtain ⟨R, hR⟩ : ∃ R, l.all szD = R := ⟨_, rfl⟩
  rw [hR]
  have hR0 : R = (l.drop 0).all szD := by rw [List.drop_zero]; exact hR.symm
  clear hrow hlc hcm hR
  go_enter Tryz.func59, Tryz.ntmps59
  go_wp2_with fail
  go_loopw [9] (fun x wr => ∃ i : Nat, x = .int .i64 i ∧ i ≤ l.length ∧ R = (l.drop i).all szD ∧ Below w.heap.size w wr) (fun x _ => l.length - (intOf x).toNat)
  case atStart => exact ⟨0, rfl, by omega, hR0, Below.refl _ _⟩
  case round =>
    obtain ⟨i, rfl, hi, hRi, hbr⟩ := hrel
    clear hR0
    have HBR := Lib.hid hbr
    by_cases hlt : i < l.length
    · have hbi : (i : Int) + 1 ≤ 9223372036854775807 := by omega
      obtain ⟨b, o, rfl, hrw⟩ := HR.out.resolve_left (by omega)
      obtain ⟨k0, k1⟩ := ditem_at hrw i hlt
      have m0 := keeps_below hbr _ _ _ k0
      have m1 := keeps_below hbr _ _ _ k1
      rw [all_drop szD l i hlt] at hRi
      have hsz : szD l[i] = (decide (1 ≤ dSz l[i]) && decide (dSz l[i] ≤ 1024)) := rfl
      obtain ⟨N, hN⟩ : ∃ N, dNm l[i] = N := ⟨_, rfl⟩
      obtain ⟨Z, hZ⟩ : ∃ Z, dSz l[i] = Z := ⟨_, rfl⟩
      rw [hN] at m0
      rw [hZ] at m1 hsz
      have HS := fun w => hasSize_any N Z w
      rw [← hsz] at HS
      obtain ⟨B, hB⟩ : ∃ B, szD l[i] = B := ⟨_, rfl⟩
      rw [hB] at hRi HS
      have HRI := Lib.hid hRi
      clear hbr hrw k0 k1 hsz hN hZ hB hRi
      cases B with
      | false =>
        go_wp2_with (first | (go_at_call 60; (with_reducible refine (HS _).mono ?_); rintro e w2 ⟨rfl, hb2⟩) | fail)
        go_ret
        exact ⟨by rw [HRI.out]; rfl, (HBR.out.alloc HBR.out.size _).trans (hb2.mono (HBR.out.alloc HBR.out.size _).size)⟩
      | true =>
        go_wp2_with (first | (go_at_call 60; (with_reducible refine (HS _).mono ?_); rintro e w2 ⟨rfl, hb2⟩) | fail)
        go_roundw
        case rel => exact ⟨i + 1, by go_num, by omega, by rw [HRI.out]; rfl, (HBR.out.alloc HBR.out.size _).trans (hb2.mono (HBR.out.alloc HBR.out.size _).size)⟩
        case measure => simp [intOf]; omega
    · obtain rfl : i = l.length := by omega
      clear hbr
      go_wp2_with fail
      go_ret
      exact ⟨by rw [hRi, List.drop_length]; rfl, HBR.out⟩
end Go.Proofs.YtbhbmoppipohjaaGreatDoor

/-
  A graph's checks: operand, right, all[api.Edge]: proved is that they tell whether an edge is right.
-/
namespace Go.Proofs.YtbhbmoppipohjaaGreatDoor
open Go Go.RowKit Go.Maps

theorem eq_iK {P : Program} {t : TypeId} {q : IntKind} (hu : P.underlying t = some (.int q)) (d : Nat) (a b : Int) (w : World) : (Op.equalIn (d + 1) t (.int q a) (.int q b)).run P w = .ok (a == b) w := by
  simp [Op.equalIn, run_underlying hu]
theorem eq_opnd (a b a' b' : Int) (w : World) :
    (binOp .eql 38 (.agg #[.int .i64 a, .int .i64 b]) (.agg #[.int .i64 a', .int .i64 b'])).run Tryz.prog w = .ok (.bool ((a == a') && (b == b'))) w := by
  have h5 : Tryz.prog.underlying 3 = some (.int .i64) := by kernel_rfl
  have h6 : Tryz.prog.underlying 2 = some (.int .i64) := by kernel_rfl
  have hst : Tryz.prog.stoodInHeld 38 = false := by kernel_rfl
  have hft : Tryz.prog.underlying 38 = some (.struct (Tryz.prog.fieldsOf 38)) := by kernel_rfl
  have hfs : (Tryz.prog.fieldsOf 38).toList.map (fun f => (f.name, f.type, f.offset)) = [("Var", 3, 0), ("Num", 2, 1)] := by kernel_rfl
  simp only [binOp, Op.equal, Op.maxDepth, Sem.run_bind]
  rw [show (10000 : Nat) = 9999 + 1 from rfl, run_equalIn_struct _ _ _ _ _ hft hst]
  obtain ⟨fs, hfs0⟩ : ∃ fs, (Tryz.prog.fieldsOf 38).toList = fs := ⟨_, rfl⟩
  rw [hfs0] at hfs ⊢
  clear hfs0 hft hst
  obtain ⟨f0, fs, rfl, hf0, hfs⟩ := List.map_eq_cons_iff.1 hfs
  obtain ⟨f1, fs, rfl, hf1, hfs⟩ := List.map_eq_cons_iff.1 hfs
  obtain rfl := List.map_eq_nil_iff.1 hfs
  simp only [Prod.mk.injEq] at hf0 hf1
  obtain ⟨n0, t0, o0⟩ := hf0
  obtain ⟨n1, t1, o1⟩ := hf1
  have m0 : ("Var" : String) ≠ "_" := by decide
  have m1 : ("Num" : String) ≠ "_" := by decide
  have q0 : ∀ w, (part 3 #[Value.int .i64 a, .int .i64 b] 0).run Tryz.prog w = .ok (.int .i64 a) w := fun w => by simp [part, isAgg, run_underlying h5]
  have q1 : ∀ w, (part 2 #[Value.int .i64 a, .int .i64 b] 1).run Tryz.prog w = .ok (.int .i64 b) w := fun w => by simp [part, isAgg, run_underlying h6]
  have r0 : ∀ w, (part 3 #[Value.int .i64 a', .int .i64 b'] 0).run Tryz.prog w = .ok (.int .i64 a') w := fun w => by simp [part, isAgg, run_underlying h5]
  have r1 : ∀ w, (part 2 #[Value.int .i64 a', .int .i64 b'] 1).run Tryz.prog w = .ok (.int .i64 b') w := fun w => by simp [part, isAgg, run_underlying h6]
  have e0 : ∀ w, (Op.equalIn 9999 3 (.int .i64 a) (.int .i64 a')).run Tryz.prog w = .ok (a == a') w := fun w => eq_iK h5 9998 a a' w
  have e1 : ∀ w, (Op.equalIn 9999 2 (.int .i64 b) (.int .i64 b')).run Tryz.prog w = .ok (b == b') w := fun w => eq_iK h6 9998 b b' w
  clear h5 h6
  simp only [Op.eqFields, n0, t0, o0, n1, t1, o1, m0, m1, ne_eq, not_false_eq_true, if_true, Sem.run_bind, q0, r0, e0, Result.andThen_ok]
  cases (a == a') with
  | false => simp
  | true =>
    simp only [Bool.not_true, Bool.false_eq_true, if_false, Sem.run_bind, q1, r1, e1, Result.andThen_ok]
    cases (b == b') <;> simp
theorem bel {w W1 w2 : World} (h : Below w.heap.size w W1) (hb : Below W1.heap.size W1 w2) : Below w.heap.size w w2 := h.trans (hb.mono h.size)
set_option maxRecDepth 100000 in
set_option maxHeartbeats 4000000 in
theorem goperand_any (g : Gf) (av aa ae : Option Addr) (cv ca ce : Nat) (h0 : 0 ≤ g.nv) (h1 : g.nv ≤ 1099511627776) (has : Bool) (v m : Int) (w : World) : Calls Tryz.prog 94 #[grS g av cv aa ca ae ce, .bool has, .agg #[.int .i64 v, .int .i64 m]] w (fun e w' => e = .returned (.bool (opd has v m g.nv)) ∧ Below w.heap.size w w') := by
  obtain ⟨W1, hW1⟩ : ∃ W1, (w.alloc (.cells (grB g av cv aa ca ae ce) 115)).alloc (.cells #[.int .i64 v, .int .i64 m] 38) = W1 := ⟨_, rfl⟩
  obtain ⟨X, hX⟩ : ∃ X, w.heap.size = X := ⟨_, rfl⟩
  obtain ⟨Y, hY⟩ : ∃ Y, (w.alloc (.cells (grB g av cv aa ca ae ce) 115)).heap.size = Y := ⟨_, rfl⟩
  have hx : Blk W1 X (grB g av cv aa ca ae ce) 115 := by rw [← hW1, ← hX]; exact (Blk.new w _ _).alloc _
  have hy : Blk W1 Y #[.int .i64 v, .int .i64 m] 38 := by rw [← hW1, ← hY]; exact Blk.new _ _ _
  have hb1 : Below w.heap.size w W1 := by rw [← hW1]; exact ((Below.refl _ w).alloc (Nat.le_refl _) _).alloc (by simp) _
  have hXY : X + 1 = Y := by rw [← hX, ← hY, World.size_alloc]
  have HV := fun w => variables_any g av aa ae cv ca ce h0 h1 w
  have HQ := fun w => eq_opnd v m (-1) 0 w
  have HN := fun w => cnum_any 0 w
  have y0 : W1.cell? ⟨Y, 0, none⟩ = some (.int .i64 v) := hy.cell 0
  have y1 : W1.cell? ⟨Y, 1, none⟩ = some (.int .i64 m) := hy.cell 1
  have H1 := Lib.hid (And.intro hx (And.intro hy hb1))
  have HE := Lib.hid (And.intro hW1 (And.intro hX (And.intro hXY hY)))
  clear hx hy hb1 hW1 hX hXY hY h0 h1
  cases has with
  | false =>
    have ho : opd false v m g.nv = ((v == -1) && (m == 0)) := rfl
    rw [ho]
    obtain ⟨B, hB⟩ : ∃ B, ((v == -1) && (m == 0)) = B := ⟨_, rfl⟩
    rw [hB]
    simp only [hB] at HQ
    clear ho hB HV
    go_enter Tryz.func94, Tryz.ntmps94
    go_upto_region 1 with fail
    simp only [HE.out.1, HE.out.2.1, HE.out.2.2.1]
    go_upto_region 2 with fail
    go_region_with (first | (go_at_call 115; (with_reducible refine (HN _).mono ?_); rintro e w2 ⟨rfl, hb2⟩; have hb3 : Below W1.heap.size W1 w2 := (Below.refl W1.heap.size W1).drew.trans hb2; have z0 : w2.cell? ⟨Y, 0, none⟩ = some (.int .i64 v) := (H1.out.2.1.next hb3).cell 0; have z1 : w2.cell? ⟨Y, 1, none⟩ = some (.int .i64 m) := (H1.out.2.1.next hb3).cell 1) | fail)
    all_goals (go_wp2_with fail; go_ret; exact ⟨rfl, bel H1.out.2.2 hb3⟩)
  | true =>
    have ho : opd true v m g.nv = ((v == -1) || (amg v g.nv && m == 0)) := rfl
    rw [ho]
    clear ho HQ HN
    have HX := Lib.hid H1.out.1
    cases hv : (v == -1) with
    | true =>
      go_enter Tryz.func94, Tryz.ntmps94
      go_upto_region 1 with fail
      simp only [HE.out.1, HE.out.2.1, HE.out.2.2.1]
      go_wp2_with fail
      go_ret
      exact ⟨rfl, H1.out.2.2⟩
    | false =>
      obtain ⟨NV, hNV⟩ : ∃ n, g.nv = n := ⟨_, rfl⟩
      have HA := fun w => among_any v NV w
      rw [hNV] at HV ⊢
      obtain ⟨AM, hAM⟩ : ∃ b, amg v NV = b := ⟨_, rfl⟩
      obtain ⟨M0, hM0⟩ : ∃ b, (m == 0) = b := ⟨_, rfl⟩
      rw [hAM] at HA ⊢
      rw [hM0]
      have x0 := H1.out.1.cell 0
      have x1 := H1.out.1.cell 1
      have x2 := H1.out.1.cell 2
      have x3 := H1.out.1.cell 3
      have x4 := H1.out.1.cell 4
      have x5 := H1.out.1.cell 5
      simp only [grB, List.getElem?_toArray, List.getElem?_cons_zero, List.getElem?_cons_succ] at x0 x1 x2 x3 x4 x5
      have KS := fun w' (hW : Below W1.heap.size W1 w') => (⟨(H1.out.2.1.below hW H1.out.2.1.lt).cell 0, (H1.out.2.1.below hW H1.out.2.1.lt).cell 1, (H1.out.1.below hW H1.out.1.lt).cell 0, (H1.out.1.below hW H1.out.1.lt).cell 1, (H1.out.1.below hW H1.out.1.lt).cell 2, (H1.out.1.below hW H1.out.1.lt).cell 3, (H1.out.1.below hW H1.out.1.lt).cell 4, (H1.out.1.below hW H1.out.1.lt).cell 5, hW⟩ : (fun w' => w'.cell? ⟨Y, 0, none⟩ = some (.int .i64 v) ∧ w'.cell? ⟨Y, 1, none⟩ = some (.int .i64 m) ∧ w'.cell? ⟨X, 0, none⟩ = some (.slice av g.vs.length cv) ∧ w'.cell? ⟨X, 1, none⟩ = some (.int .i64 g.tmp) ∧ w'.cell? ⟨X, 2, none⟩ = some (.slice aa g.ar.length ca) ∧ w'.cell? ⟨X, 3, none⟩ = some (.int .i64 g.pts) ∧ w'.cell? ⟨X, 4, none⟩ = some (.int .i64 g.ext) ∧ w'.cell? ⟨X, 5, none⟩ = some (.slice ae g.es.length ce) ∧ Below W1.heap.size W1 w') w')
      clear hNV hAM
      clear KS x1 x2 x3 x4 x5
      have x1 : W1.cell? ⟨X, 1, none⟩ = some (.int .i64 g.tmp) := H1.out.1.cell 1
      have x2 : W1.cell? ⟨X, 2, none⟩ = some (.slice aa g.ar.length ca) := H1.out.1.cell 2
      have x3 : W1.cell? ⟨X, 3, none⟩ = some (.int .i64 g.pts) := H1.out.1.cell 3
      have x4 : W1.cell? ⟨X, 4, none⟩ = some (.int .i64 g.ext) := H1.out.1.cell 4
      have x5 : W1.cell? ⟨X, 5, none⟩ = some (.slice ae g.es.length ce) := H1.out.1.cell 5
      cases AM <;> cases M0
      all_goals
        go_enter Tryz.func94, Tryz.ntmps94
        go_upto_region 1 with fail
        simp only [HE.out.1, HE.out.2.1, HE.out.2.2.1]
        go_upto_region 5 with fail
        first | (go_region_with (first | (go_at_call 92; (with_reducible refine (HV _).mono ?_); rintro e w2 ⟨rfl, hb2⟩; have hb3 : Below W1.heap.size W1 w2 := (Below.refl W1.heap.size W1).drew.trans hb2; have z0 : w2.cell? ⟨Y, 0, none⟩ = some (.int .i64 v) := (H1.out.2.1.next hb3).cell 0; have z1 : w2.cell? ⟨Y, 1, none⟩ = some (.int .i64 m) := (H1.out.2.1.next hb3).cell 1) | (go_at_call 38; (with_reducible refine (HA _).mono ?_); rintro e w3 ⟨rfl, rfl⟩) | fail)) | fail
        all_goals (go_wp2_with fail; go_ret; exact ⟨rfl, bel H1.out.2.2 hb3⟩)
end Go.Proofs.YtbhbmoppipohjaaGreatDoor
