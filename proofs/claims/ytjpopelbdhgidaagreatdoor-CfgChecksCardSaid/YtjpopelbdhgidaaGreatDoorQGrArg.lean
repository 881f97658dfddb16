/-
  Arguments that are graphs, or rows: proved is that what reads as a slice of whatever items is a row of them, that what reads as a graph lies in memory as one, and how long its rows may be.
-/
import Derived.Test.YtjpopelbdhgidaaGreatDoorQGrM
import Derived.Test.YtjpopelbdhgidaaGreatDoorQCfgH
import Derived.ChangeKeysEq
import Derived.Laws.StructEq
import Derived.Deep.RegionHeld3
import Derived.Deep.AppendLies
import Derived.Laws.Entries
import Derived.BigQuiet
import Derived.Deep.DeepCutAuto
import Derived.Test.YtjpopelbdhgidaaGreatDoorRows
import Derived.ChangeReads
import Derived.ChangeOld
import Derived.RowKit
import Derived.Below
import Derived.ProofKit
import Derived.OpenShut
import Derived.KernelRfl
import Derived.WideShapes
import Derived.SizedLaws
/-
  A graph's checks, their small parts: among, place, compares, hasSize, variables, operand: proved is what each tells.
-/
namespace Go.Proofs.YtjpopelbdhgidaaGreatDoor
open Go Go.RowKit Go.Maps

set_option maxRecDepth 100000 in
theorem among_any (i n : Int) (w : World) : Calls Tryz.prog 43 #[.int .i64 i, .int .i64 n] w (fun e w' => e = .returned (.bool (amg i n)) ∧ w' = w) := by
  unfold amg
  cases h1 : decide (0 ≤ i) <;> cases h2 : decide (i < n)
  all_goals (go_enter Tryz.func43, Tryz.ntmps43; go_wp2_with fail; go_ret; exact ⟨rfl, rfl⟩)
set_option maxRecDepth 100000 in
theorem place_any (has : Bool) (i n : Int) (w : World) : Calls Tryz.prog 108 #[.bool has, .int .i64 i, .int .i64 n] w (fun e w' => e = .returned (.bool (plc has i n)) ∧ w' = w) := by
  have HA := fun w => among_any i n w
  unfold plc
  cases has
  · simp only [Bool.false_eq_true, if_false]
    go_enter Tryz.func108, Tryz.ntmps108
    go_wp2_with fail
    go_ret
    exact ⟨rfl, rfl⟩
  · simp only [if_true]
    obtain ⟨B, hB⟩ : ∃ b, amg i n = b := ⟨_, rfl⟩
    rw [hB] at HA ⊢
    clear hB
    go_enter Tryz.func108, Tryz.ntmps108
    go_wp2_with (first | (go_at_call 43; (with_reducible refine (HA _).mono ?_); rintro e w2 ⟨rfl, rfl⟩) | fail)
    go_ret
    exact ⟨rfl, rfl⟩
set_option maxRecDepth 100000 in
theorem gcompares_any (has : Bool) (op : Int) (w : World) : Calls Tryz.prog 110 #[.bool has, .int .i64 op] w (fun e w' => e = .returned (.bool (cmps has op)) ∧ w' = w) := by
  unfold cmps
  cases has
  · simp only [Bool.false_eq_true, if_false]
    go_enter Tryz.func110, Tryz.ntmps110
    go_wp2_with fail
    go_ret
    exact ⟨rfl, rfl⟩
  · simp only [if_true]
    cases h1 : decide (1 ≤ op) <;> cases h2 : decide (op ≤ 6)
    all_goals (go_enter Tryz.func110, Tryz.ntmps110; go_wp2_with fail; go_ret; exact ⟨rfl, rfl⟩)
set_option maxRecDepth 100000 in
theorem hasSize_any (s : ByteArray) (n : Int) (w : World) : Calls Tryz.prog 71 #[.agg #[.string s, .int .i64 n]] w (fun e w' => e = .returned (.bool (decide (1 ≤ n) && decide (n ≤ 1024))) ∧ Below w.heap.size w w') := by
  cases h1 : decide (1 ≤ n) <;> cases h2 : decide (n ≤ 1024)
  all_goals (go_enter Tryz.func71, Tryz.ntmps71; go_wp2_with fail; go_ret; exact ⟨rfl, (Below.refl w.heap.size w).alloc (Nat.le_refl _) _⟩)
/-- A graph's value, its slices in their forms. -/
abbrev grS (g : Gf) (av : Option Addr) (cv : Nat) (aa : Option Addr) (ca : Nat) (ae : Option Addr) (ce : Nat) : Value := .agg #[.slice av g.vs.length cv, .int .i64 g.tmp, .slice aa g.ar.length ca, .int .i64 g.pts, .int .i64 g.ext, .slice ae g.es.length ce]
abbrev grB (g : Gf) (av : Option Addr) (cv : Nat) (aa : Option Addr) (ca : Nat) (ae : Option Addr) (ce : Nat) : Array Value := #[.slice av g.vs.length cv, .int .i64 g.tmp, .slice aa g.ar.length ca, .int .i64 g.pts, .int .i64 g.ext, .slice ae g.es.length ce]
set_option maxRecDepth 100000 in
theorem variables_any (g : Gf) (av aa ae : Option Addr) (cv ca ce : Nat) (h0 : 0 ≤ g.nv) (h1 : g.nv ≤ 1099511627776) (w : World) : Calls Tryz.prog 109 #[grS g av cv aa ca ae ce] w (fun e w' => e = .returned (.int .i64 g.nv) ∧ Below w.heap.size w w') := by
  have hw : IntKind.i64.wrap ((g.vs.length : Int) + g.tmp) = g.nv := fits_wrap (by unfold fitsI; unfold Gf.nv at h0 h1; omega)
  clear h0 h1
  go_enter Tryz.func109, Tryz.ntmps109
  go_wp2_with fail
  go_ret
  exact ⟨rfl, (Below.refl w.heap.size w).alloc (Nat.le_refl _) _⟩
theorem ditem_at {w : World} {l : List Nd} {b o : Nat} (hr : RowIn w .D l b o) (i : Nat) (hi : i < l.length) : w.cell? ⟨b, o + i * 2, none⟩ = some (.string (dNm l[i])) ∧ w.cell? ⟨b, o + i * 2 + 1, none⟩ = some (.int .i64 (dSz l[i])) := by
  obtain ⟨hty, vs, hc, hnd⟩ := RowIn.at l b o i hi hr
  obtain ⟨x, hx⟩ : ∃ x, l[i] = x := ⟨_, rfl⟩
  rw [hx] at hty hnd ⊢
  obtain ⟨ty, k, n, nm, xs, cs, ts, es⟩ := x
  simp only [Nd.ty] at hty
  subst hty
  unfold NdIn at hnd
  obtain ⟨_, _, _, _, vx, vc, vt, ve, rfl, _⟩ := hnd
  exact ⟨hc 0 _ rfl, hc 1 _ rfl⟩
theorem all_drop {α : Type} (p : α → Bool) (l : List α) (i : Nat) (h : i < l.length) : (l.drop i).all p = (p l[i] && (l.drop (i + 1)).all p) := by
  rw [List.drop_eq_getElem_cons h, List.all_cons]
set_option maxRecDepth 100000 in
set_option maxHeartbeats 4000000 in
theorem all_decl (l : List Nd) (v : Value) (w : World) (h : SlIn w .D l v) : Calls Tryz.prog 70 #[v, .func (.func 71) #[] #[]] w (fun e w' => e = .returned (.bool (l.all szD)) ∧ Below w.heap.size w w') := by
  obtain ⟨a, c, rfl, hlc, hcm, hrow⟩ := h
  have HR := Lib.hid hrow
  have hb63 : (l.length : Int) ≤ 9223372036854775807 := by unfold maxLen at hcm; omega
  obtain ⟨R, hR⟩ : ∃ R, l.all szD = R := ⟨_, rfl⟩
  rw [hR]
  have hR0 : R = (l.drop 0).all szD := by rw [List.drop_zero]; exact hR.symm
  clear hrow hlc hcm hR
  go_enter Tryz.func70, Tryz.ntmps70
  go_wp2_with fail
  go_loopw [9] (fun x wr => ∃ i : Nat, x = .int .i64 i ∧ i ≤ l.length ∧ R = (l.drop i).all szD ∧ Below w.heap.size w wr) (fun x _ => l.length - (intOf x).toNat)
  case atStart => exact ⟨0, rfl, by omega, hR0, Below.refl _ _⟩
  case round =>
    obtain ⟨i, rfl, hi, hRi, hbr⟩ := hrel
    clear hR0
    have HBR := Lib.hid hbr
    by_cases hlt : i < l.length
    · have hbi : (i : Int) + 1 ≤ 9223372036854775807 := by omega
      obtain ⟨b, o, rfl, hrw⟩ := HR.out.resolve_left (by omega)
      obtain ⟨k0, k1⟩ := ditem_at hrw i hlt
      have m0 := keeps_below hbr _ _ _ k0
      have m1 := keeps_below hbr _ _ _ k1
      rw [all_drop szD l i hlt] at hRi
      have hsz : szD l[i] = (decide (1 ≤ dSz l[i]) && decide (dSz l[i] ≤ 1024)) := rfl
      obtain ⟨N, hN⟩ : ∃ N, dNm l[i] = N := ⟨_, rfl⟩
      obtain ⟨Z, hZ⟩ : ∃ Z, dSz l[i] = Z := ⟨_, rfl⟩
      rw [hN] at m0
      rw [hZ] at m1 hsz
      have HS := fun w => hasSize_any N Z w
      rw [← hsz] at HS
      obtain ⟨B, hB⟩ : ∃ B, szD l[i] = B := ⟨_, rfl⟩
      rw [hB] at hRi HS
      have HRI := Lib.hid hRi
      clear hbr hrw k0 k1 hsz hN hZ hB hRi
      cases B with
      | false =>
        go_wp2_with (first | (go_at_call 71; (with_reducible refine (HS _).mono ?_); rintro e w2 ⟨rfl, hb2⟩) | fail)
        go_ret
        exact ⟨by rw [HRI.out]; rfl, (HBR.out.alloc HBR.out.size _).trans (hb2.mono (HBR.out.alloc HBR.out.size _).size)⟩
      | true =>
        go_wp2_with (first | (go_at_call 71; (with_reducible refine (HS _).mono ?_); rintro e w2 ⟨rfl, hb2⟩) | fail)
        go_roundw
        case rel => exact ⟨i + 1, by go_num, by omega, by rw [HRI.out]; rfl, (HBR.out.alloc HBR.out.size _).trans (hb2.mono (HBR.out.alloc HBR.out.size _).size)⟩
        case measure => simp [intOf]; omega
    · obtain rfl : i = l.length := by omega
      clear hbr
      go_wp2_with fail
      go_ret
      exact ⟨by rw [hRi, List.drop_length]; rfl, HBR.out⟩
end Go.Proofs.YtjpopelbdhgidaaGreatDoor

/-
  A graph's checks: operand, right, all[api.Edge]: proved is that they tell whether an edge is right.
-/
namespace Go.Proofs.YtjpopelbdhgidaaGreatDoor
open Go Go.RowKit Go.Maps

theorem eq_iK {P : Program} {t : TypeId} {q : IntKind} (hu : P.underlying t = some (.int q)) (d : Nat) (a b : Int) (w : World) : (Op.equalIn (d + 1) t (.int q a) (.int q b)).run P w = .ok (a == b) w := by
  simp [Op.equalIn, run_underlying hu]
theorem eq_opnd (a b a' b' : Int) (w : World) :
    (binOp .eql 38 (.agg #[.int .i64 a, .int .i64 b]) (.agg #[.int .i64 a', .int .i64 b'])).run Tryz.prog w = .ok (.bool ((a == a') && (b == b'))) w := by
  have h5 : Tryz.prog.underlying 3 = some (.int .i64) := by kernel_rfl
  have h6 : Tryz.prog.underlying 2 = some (.int .i64) := by kernel_rfl
  have hst : Tryz.prog.stoodInHeld 38 = false := by kernel_rfl
  have hft : Tryz.prog.underlying 38 = some (.struct (Tryz.prog.fieldsOf 38)) := by kernel_rfl
  have hfs : (Tryz.prog.fieldsOf 38).toList.map (fun f => (f.name, f.type, f.offset)) = [("Var", 3, 0), ("Num", 2, 1)] := by kernel_rfl
  simp only [binOp, Op.equal, Op.maxDepth, Sem.run_bind]
  rw [show (10000 : Nat) = 9999 + 1 from rfl, run_equalIn_struct _ _ _ _ _ hft hst]
  obtain ⟨fs, hfs0⟩ : ∃ fs, (Tryz.prog.fieldsOf 38).toList = fs := ⟨_, rfl⟩
  rw [hfs0] at hfs ⊢
  clear hfs0 hft hst
  obtain ⟨f0, fs, rfl, hf0, hfs⟩ := List.map_eq_cons_iff.1 hfs
  obtain ⟨f1, fs, rfl, hf1, hfs⟩ := List.map_eq_cons_iff.1 hfs
  obtain rfl := List.map_eq_nil_iff.1 hfs
  simp only [Prod.mk.injEq] at hf0 hf1
  obtain ⟨n0, t0, o0⟩ := hf0
  obtain ⟨n1, t1, o1⟩ := hf1
  have m0 : ("Var" : String) ≠ "_" := by decide
  have m1 : ("Num" : String) ≠ "_" := by decide
  have q0 : ∀ w, (part 3 #[Value.int .i64 a, .int .i64 b] 0).run Tryz.prog w = .ok (.int .i64 a) w := fun w => by simp [part, isAgg, run_underlying h5]
  have q1 : ∀ w, (part 2 #[Value.int .i64 a, .int .i64 b] 1).run Tryz.prog w = .ok (.int .i64 b) w := fun w => by simp [part, isAgg, run_underlying h6]
  have r0 : ∀ w, (part 3 #[Value.int .i64 a', .int .i64 b'] 0).run Tryz.prog w = .ok (.int .i64 a') w := fun w => by simp [part, isAgg, run_underlying h5]
  have r1 : ∀ w, (part 2 #[Value.int .i64 a', .int .i64 b'] 1).run Tryz.prog w = .ok (.int .i64 b') w := fun w => by simp [part, isAgg, run_underlying h6]
  have e0 : ∀ w, (Op.equalIn 9999 3 (.int .i64 a) (.int .i64 a')).run Tryz.prog w = .ok (a == a') w := fun w => eq_iK h5 9998 a a' w
  have e1 : ∀ w, (Op.equalIn 9999 2 (.int .i64 b) (.int .i64 b')).run Tryz.prog w = .ok (b == b') w := fun w => eq_iK h6 9998 b b' w
  clear h5 h6
  simp only [Op.eqFields, n0, t0, o0, n1, t1, o1, m0, m1, ne_eq, not_false_eq_true, if_true, Sem.run_bind, q0, r0, e0, Result.andThen_ok]
  cases (a == a') with
  | false => simp
  | true =>
    simp only [Bool.not_true, Bool.false_eq_true, if_false, Sem.run_bind, q1, r1, e1, Result.andThen_ok]
    cases (b == b') <;> simp
theorem bel {w W1 w2 : World} (h : Below w.heap.size w W1) (hb : Below W1.heap.size W1 w2) : Below w.heap.size w w2 := h.trans (hb.mono h.size)
set_option maxRecDepth 100000 in
set_option maxHeartbeats 4000000 in
theorem goperand_any (g : Gf) (av aa ae : Option Addr) (cv ca ce : Nat) (h0 : 0 ≤ g.nv) (h1 : g.nv ≤ 1099511627776) (has : Bool) (v m : Int) (w : World) : Calls Tryz.prog 111 #[grS g av cv aa ca ae ce, .bool has, .agg #[.int .i64 v, .int .i64 m]] w (fun e w' => e = .returned (.bool (opd has v m g.nv)) ∧ Below w.heap.size w w') := by
  obtain ⟨W1, hW1⟩ : ∃ W1, (w.alloc (.cells (grB g av cv aa ca ae ce) 144)).alloc (.cells #[.int .i64 v, .int .i64 m] 38) = W1 := ⟨_, rfl⟩
  obtain ⟨X, hX⟩ : ∃ X, w.heap.size = X := ⟨_, rfl⟩
  obtain ⟨Y, hY⟩ : ∃ Y, (w.alloc (.cells (grB g av cv aa ca ae ce) 144)).heap.size = Y := ⟨_, rfl⟩
  have hx : Blk W1 X (grB g av cv aa ca ae ce) 144 := by rw [← hW1, ← hX]; exact (Blk.new w _ _).alloc _
  have hy : Blk W1 Y #[.int .i64 v, .int .i64 m] 38 := by rw [← hW1, ← hY]; exact Blk.new _ _ _
  have hb1 : Below w.heap.size w W1 := by rw [← hW1]; exact ((Below.refl _ w).alloc (Nat.le_refl _) _).alloc (by simp) _
  have hXY : X + 1 = Y := by rw [← hX, ← hY, World.size_alloc]
  have HV := fun w => variables_any g av aa ae cv ca ce h0 h1 w
  have HQ := fun w => eq_opnd v m (-1) 0 w
  have HN := fun w => cnum_any 0 w
  have y0 : W1.cell? ⟨Y, 0, none⟩ = some (.int .i64 v) := hy.cell 0
  have y1 : W1.cell? ⟨Y, 1, none⟩ = some (.int .i64 m) := hy.cell 1
  have H1 := Lib.hid (And.intro hx (And.intro hy hb1))
  have HE := Lib.hid (And.intro hW1 (And.intro hX (And.intro hXY hY)))
  clear hx hy hb1 hW1 hX hXY hY h0 h1
  cases has with
  | false =>
    have ho : opd false v m g.nv = ((v == -1) && (m == 0)) := rfl
    rw [ho]
    obtain ⟨B, hB⟩ : ∃ B, ((v == -1) && (m == 0)) = B := ⟨_, rfl⟩
    rw [hB]
    simp only [hB] at HQ
    clear ho hB HV
    go_enter Tryz.func111, Tryz.ntmps111
    go_upto_region 1 with fail
    simp only [HE.out.1, HE.out.2.1, HE.out.2.2.1]
    go_upto_region 2 with fail
    go_region_with (first | (go_at_call 149; (with_reducible refine (HN _).mono ?_); rintro e w2 ⟨rfl, hb2⟩; have hb3 : Below W1.heap.size W1 w2 := (Below.refl W1.heap.size W1).drew.trans hb2; have z0 : w2.cell? ⟨Y, 0, none⟩ = some (.int .i64 v) := (H1.out.2.1.next hb3).cell 0; have z1 : w2.cell? ⟨Y, 1, none⟩ = some (.int .i64 m) := (H1.out.2.1.next hb3).cell 1) | fail)
    all_goals (go_wp2_with fail; go_ret; exact ⟨rfl, bel H1.out.2.2 hb3⟩)
  | true =>
    have ho : opd true v m g.nv = ((v == -1) || (amg v g.nv && m == 0)) := rfl
    rw [ho]
    clear ho HQ HN
    have HX := Lib.hid H1.out.1
    cases hv : (v == -1) with
    | true =>
      go_enter Tryz.func111, Tryz.ntmps111
      go_upto_region 1 with fail
      simp only [HE.out.1, HE.out.2.1, HE.out.2.2.1]
      go_wp2_with fail
      go_ret
      exact ⟨rfl, H1.out.2.2⟩
    | false =>
      obtain ⟨NV, hNV⟩ : ∃ n, g.nv = n := ⟨_, rfl⟩
      have HA := fun w => among_any v NV w
      rw [hNV] at HV ⊢
      obtain ⟨AM, hAM⟩ : ∃ b, amg v NV = b := ⟨_, rfl⟩
      obtain ⟨M0, hM0⟩ : ∃ b, (m == 0) = b := ⟨_, rfl⟩
      rw [hAM] at HA ⊢
      rw [hM0]
      have x0 := H1.out.1.cell 0
      have x1 := H1.out.1.cell 1
      have x2 := H1.out.1.cell 2
      have x3 := H1.out.1.cell 3
      have x4 := H1.out.1.cell 4
      have x5 := H1.out.1.cell 5
      simp only [grB, List.getElem?_toArray, List.getElem?_cons_zero, List.getElem?_cons_succ] at x0 x1 x2 x3 x4 x5
      have KS := fun w' (hW : Below W1.heap.size W1 w') => (⟨(H1.out.2.1.below hW H1.out.2.1.lt).cell 0, (H1.out.2.1.below hW H1.out.2.1.lt).cell 1, (H1.out.1.below hW H1.out.1.lt).cell 0, (H1.out.1.below hW H1.out.1.lt).cell 1, (H1.out.1.below hW H1.out.1.lt).cell 2, (H1.out.1.below hW H1.out.1.lt).cell 3, (H1.out.1.below hW H1.out.1.lt).cell 4, (H1.out.1.below hW H1.out.1.lt).cell 5, hW⟩ : (fun w' => w'.cell? ⟨Y, 0, none⟩ = some (.int .i64 v) ∧ w'.cell? ⟨Y, 1, none⟩ = some (.int .i64 m) ∧ w'.cell? ⟨X, 0, none⟩ = some (.slice av g.vs.length cv) ∧ w'.cell? ⟨X, 1, none⟩ = some (.int .i64 g.tmp) ∧ w'.cell? ⟨X, 2, none⟩ = some (.slice aa g.ar.length ca) ∧ w'.cell? ⟨X, 3, none⟩ = some (.int .i64 g.pts) ∧ w'.cell? ⟨X, 4, none⟩ = some (.int .i64 g.ext) ∧ w'.cell? ⟨X, 5, none⟩ = some (.slice ae g.es.length ce) ∧ Below W1.heap.size W1 w') w')
      clear hNV hAM
      clear KS x1 x2 x3 x4 x5
      have x1 : W1.cell? ⟨X, 1, none⟩ = some (.int .i64 g.tmp) := H1.out.1.cell 1
      have x2 : W1.cell? ⟨X, 2, none⟩ = some (.slice aa g.ar.length ca) := H1.out.1.cell 2
      have x3 : W1.cell? ⟨X, 3, none⟩ = some (.int .i64 g.pts) := H1.out.1.cell 3
      have x4 : W1.cell? ⟨X, 4, none⟩ = some (.int .i64 g.ext) := H1.out.1.cell 4
      have x5 : W1.cell? ⟨X, 5, none⟩ = some (.slice ae g.es.length ce) := H1.out.1.cell 5
      cases AM <;> cases M0
      all_goals
        go_enter Tryz.func111, Tryz.ntmps111
        go_upto_region 1 with fail
        simp only [HE.out.1, HE.out.2.1, HE.out.2.2.1]
        go_upto_region 5 with fail
        first | (go_region_with (first | (go_at_call 109; (with_reducible refine (HV _).mono ?_); rintro e w2 ⟨rfl, hb2⟩; have hb3 : Below W1.heap.size W1 w2 := (Below.refl W1.heap.size W1).drew.trans hb2; have z0 : w2.cell? ⟨Y, 0, none⟩ = some (.int .i64 v) := (H1.out.2.1.next hb3).cell 0; have z1 : w2.cell? ⟨Y, 1, none⟩ = some (.int .i64 m) := (H1.out.2.1.next hb3).cell 1) | (go_at_call 43; (with_reducible refine (HA _).mono ?_); rintro e w3 ⟨rfl, rfl⟩) | fail)) | fail
        all_goals (go_wp2_with fail; go_ret; exact ⟨rfl, bel H1.out.2.2 hb3⟩)
end Go.Proofs.YtjpopelbdhgidaaGreatDoor

/-
  gnomonhelp.CopyCfg: proved is that it answers the same graph, in rows of its own; and what 'append' of nil and a row is, however long the row.
-/
namespace Go.Proofs.YtjpopelbdhgidaaGreatDoor
open Go Go.RowKit Go.Maps

/-- Cells lie where a slice says. -/
def RowAt (w : World) (m : Nat) (cs : List Value) (v : Value) : Prop := ∃ a c, v = .slice a m c ∧ (m = 0 ∨ ∃ b o, a = some ⟨b, o, none⟩ ∧ ∀ j u, cs[j]? = some u → w.cell? ⟨b, o + j, none⟩ = some u)
theorem RowAt.keep {w w' : World} {m : Nat} {cs : List Value} {v : Value} (h : RowAt w m cs v) (hk : Keeps w w') : RowAt w' m cs v := by
  obtain ⟨a, c, h1, h2⟩ := h
  exact ⟨a, c, h1, h2.imp id fun ⟨b, o, h3, h4⟩ => ⟨b, o, h3, fun j u hj => hk _ _ _ (h4 j u hj)⟩⟩
section
variable {P : Program} (w : World)
theorem run_append_nil (t ty : TypeId) (e : TypeId) (i : TypeInfo) (z : Value) (size bytes : Nat) (ht : P.underlying t = some (.slice e)) (hi : P.info? e = some i) (hz : i.zero = some z)
    (hsize : i.size = size) (hby : i.bytes = bytes) (hzs : z.cells.size = size) (hsz : 0 < size) (m : Nat) (news : List Value) (v : Value) (hv : RowAt w m news v) (hl : news.length = m * size) (h1 : ∀ u ∈ news, u.oneCell' = true)
    (h63 : m ≤ maxLen) (hbytes : m * bytes ≤ 140737488355328) :
    ∃ ua uc w', (Builtin.append_ #[t, t] ty #[.slice none 0 0, v]).run P w = .ok (.slice ua m uc) w' ∧ w'.ownsRow w.heap.size e size (.slice ua m uc) m news ∧ Below w.heap.size w w' := by
  obtain ⟨a, c, rfl, h2⟩ := hv
  by_cases hm : m = 0
  · subst hm
    have hn : news = [] := List.eq_nil_of_length_eq_zero (by omega)
    subst hn
    refine ⟨none, 0, w, ?_, World.ownsRow_nil _ _ _ _, Below.refl _ _⟩
    cases a with
    | none => simp [Builtin.append_, go_sem, run_underlying ht, run_sizeOf _ hi]
    | some b => simp [Builtin.append_, go_sem, run_underlying ht, run_sizeOf _ hi]
  · obtain ⟨b, o, rfl, h3⟩ := h2.resolve_left hm
    obtain ⟨g, cap, w', hr, h4, h5, h6, h7⟩ := run_append_lies (P := P) w t ty w.heap.size e i z size bytes ht hi hz hsize hby hzs hsz (.slice none 0 0) 0 [] (World.ownsRow_nil _ _ _ _) ⟨b, o, none⟩ m c news hl (fun j u hj => by rw [add_none]; exact h3 j u hj) h1 (by omega) (by omega) (by rw [Nat.zero_add]; exact hbytes) (Nat.le_refl _) _ rfl
    rw [Nat.zero_add] at hr h4
    exact ⟨_, cap, w', hr, h4, (Below.refl _ w).grown h5 (Nat.le_refl _) (fun k hk => by cases hk)⟩
theorem wpList_append_nil {ops : Array Oper} {rest : List Oper} {o : Oper} {a : Act} {Q : Exit → Act → World → Prop} (hgd : o.guard = none) (s x : Operand) (t : TypeId)
    (ho : o.op = .call { callee := .builtin .append, args := #[s, x], argTypes := #[t, t] })
    (e : TypeId) (i : TypeInfo) (z : Value) (size bytes : Nat) (ht : P.underlying t = some (.slice e)) (hi : P.info? e = some i) (hz : i.zero = some z)
    (hsize : i.size = size) (hby : i.bytes = bytes) (hzs : z.cells.size = size) (hsz : 0 < size) (hs : a.eval s = .slice none 0 0) (m : Nat) (news : List Value) (hv : RowAt w m news (a.eval x)) (hl : news.length = m * size) (h1 : ∀ u ∈ news, u.oneCell' = true)
    (h63 : m ≤ maxLen) (hbytes : m * bytes ≤ 140737488355328)
    (h : ∀ ua uc w', w'.ownsRow w.heap.size e size (.slice ua m uc) m news → Below w.heap.size w w' → wpList P ops Q rest (a.put o.dst (.slice ua m uc)) w') : wpList P ops Q (o :: rest) a w :=
  wpList_plain hgd fun _ hK => by
    obtain ⟨ua, uc, w', hr, h2, h3⟩ := run_append_nil (P := P) w t o.type e i z size bytes ht hi hz hsize hby hzs hsz m news _ hv hl h1 h63 hbytes
    unfold Oper.wp execOp
    simp only [ho, resolve, invoke, builtin, Sem.run_bind, Sem.run_pure, Result.andThen_ok, List.map_toArray, List.map_cons, List.map_nil, hs, hr]
    exact hK _ _ (h ua uc w' h2 h3)
end
/-- The cells of a list of declarations. -/
theorem decl_form {w : World} {x : Nd} {vs : List Value} (hty : x.ty = .D) (h : NdIn w x vs) : vs = [.string (dNm x), .int .i64 (dSz x)] ∧ ∀ w' : World, NdIn w' x [.string (dNm x), .int .i64 (dSz x)] := by
  obtain ⟨ty, k, n, nm, xs, cs, ts, es⟩ := x
  simp only [Nd.ty] at hty
  subst hty
  unfold NdIn at h
  obtain ⟨⟨rfl, rfl, rfl, rfl, rfl⟩, h1, h2, h3, vx, vc, vt, ve, h4, -⟩ := h
  refine ⟨h4, fun w' => ?_⟩
  unfold NdIn
  exact ⟨⟨rfl, rfl, rfl, rfl, rfl⟩, h1, h2, h3, .slice none 0 0, .slice none 0 0, .slice none 0 0, .slice none 0 0, rfl, sl0 w' .E, sl0 w' .C, sl0 w' .S, sl0 w' .S⟩
theorem cellsD_len : ∀ l : List Nd, (cellsD l).length = l.length * 2
  | [] => rfl
  | x :: r => by
    have e : cellsD (x :: r) = [.string (dNm x), .int .i64 (dSz x)] ++ cellsD r := rfl
    rw [e, List.length_append, cellsD_len r, List.length_cons]
    simp
    omega
theorem cellsD_one : ∀ (l : List Nd), ∀ u ∈ cellsD l, u.oneCell' = true := by
  intro l u hu
  unfold cellsD at hu
  rw [List.mem_flatMap] at hu
  obtain ⟨x, -, hx⟩ := hu
  exact decl_one _ _ u hx
theorem rowD {w : World} : ∀ (l : List Nd) (b o : Nat), RowIn w .D l b o → (∀ x ∈ l, x.ty = .D ∧ ∀ w' : World, NdIn w' x [.string (dNm x), .int .i64 (dSz x)]) ∧ ∀ j u, (cellsD l)[j]? = some u → w.cell? ⟨b, o + j, none⟩ = some u
  | [], _, _, _ => ⟨fun x h => (by cases h), fun j u h => (by simp [cellsD] at h)⟩
  | x :: r, b, o, h => by
    unfold RowIn at h
    obtain ⟨⟨h1, vs, h2, h3⟩, h4⟩ := h
    obtain ⟨k1, k2⟩ := rowD r b (o + Ty.size .D) h4
    obtain ⟨rfl, h5⟩ := decl_form h1 h3
    refine ⟨fun y hy => ?_, fun j u hj => ?_⟩
    · rcases List.mem_cons.1 hy with rfl | hy
      · exact ⟨h1, h5⟩
      · exact k1 y hy
    · have e : cellsD (x :: r) = [.string (dNm x), .int .i64 (dSz x)] ++ cellsD r := rfl
      rw [e] at hj
      match j with
      | 0 => exact h2 0 u (by simpa using hj)
      | 1 => exact h2 1 u (by simpa using hj)
      | j + 2 =>
        have := k2 j u (by simpa using hj)
        simp only [Ty.size] at this
        rw [show o + (j + 2) = o + 2 + j by omega]
        exact this
/-- Declarations that are: whatever the world. -/
def DeclL (l : List Nd) : Prop := ∀ x ∈ l, x.ty = .D ∧ ∀ w' : World, NdIn w' x [.string (dNm x), .int .i64 (dSz x)]
theorem slD {w : World} {l : List Nd} {v : Value} (h : SlIn w .D l v) : DeclL l ∧ RowAt w l.length (cellsD l) v := by
  obtain ⟨a, c, rfl, h1, h2, h3⟩ := h
  rcases h3 with h3 | ⟨b, o, rfl, h4⟩
  · obtain rfl : l = [] := List.eq_nil_of_length_eq_zero h3
    exact ⟨fun x h => (by cases h), a, c, rfl, .inl rfl⟩
  · obtain ⟨k1, k2⟩ := rowD l b o h4
    exact ⟨k1, _, c, rfl, .inr ⟨b, o, rfl, k2⟩⟩
theorem slD_own {w : World} {base : Nat} {l : List Nd} {v : Value} (hn : DeclL l) (h : w.ownsRow base 96 2 v l.length (cellsD l)) : SlIn w .D l v := by
  obtain ⟨a, c, rfl, h1, h2, h3⟩ := own_len h
  refine ⟨a, c, rfl, h1, h2, h3.imp id ?_⟩
  rintro ⟨g, rfl, -, -, h4⟩
  refine ⟨g, 0, rfl, RowIn.of _ _ _ fun i hi => ?_⟩
  obtain ⟨k1, k2⟩ := hn _ (List.getElem_mem hi)
  obtain ⟨q0, q1⟩ := cellsD_at l i hi
  refine ⟨k1, _, fun j u hj => ?_, k2 w⟩
  match j with
  | 0 => simp only [Ty.size]; rw [show 0 + i * 2 + 0 = i * 2 by omega]; exact h4 _ _ (by rw [q0]; simpa using hj)
  | 1 => simp only [Ty.size]; rw [show 0 + i * 2 + 1 = i * 2 + 1 by omega]; exact h4 _ _ (by rw [q1]; simpa using hj)
  | j + 2 => simp at hj
theorem cellsE_len : ∀ l : List Ed, (cellsE l).length = l.length * 10
  | [] => rfl
  | x :: r => by
    have e : cellsE (x :: r) = edV x ++ cellsE r := rfl
    rw [e, List.length_append, cellsE_len r, List.length_cons, edV_len]
    omega
theorem cellsE_one : ∀ (l : List Ed), ∀ u ∈ cellsE l, u.oneCell' = true := by
  intro l u hu
  unfold cellsE at hu
  rw [List.mem_flatMap] at hu
  obtain ⟨x, -, hx⟩ := hu
  simp only [edV, List.mem_cons, List.not_mem_nil, or_false] at hx
  rcases hx with rfl | rfl | rfl | rfl | rfl | rfl | rfl | rfl | rfl | rfl <;> rfl
theorem cellsE_of : ∀ (l : List Ed) (j : Nat) (u : Value), (cellsE l)[j]? = some u → ∃ i k, ∃ hi : i < l.length, j = i * 10 + k ∧ (edV l[i])[k]? = some u
  | [], j, u, h => by simp [cellsE] at h
  | x :: r, j, u, h => by
    have e : cellsE (x :: r) = edV x ++ cellsE r := rfl
    rw [e] at h
    by_cases hj : j < 10
    · rw [List.getElem?_append_left (by rw [edV_len]; exact hj)] at h
      exact ⟨0, j, by simp, by omega, h⟩
    · rw [List.getElem?_append_right (by rw [edV_len]; omega), edV_len] at h
      obtain ⟨i, k, hi, h1, h2⟩ := cellsE_of r (j - 10) u h
      exact ⟨i + 1, k, by simpa using hi, by omega, h2⟩
theorem EdsAt.row2 {w : World} {l : List Ed} {v : Value} (h : EdsAt w l v) : RowAt w l.length (cellsE l) v := by
  obtain ⟨a, c, rfl, h1, h2, h3⟩ := h
  refine ⟨a, c, rfl, h3.imp id ?_⟩
  rintro ⟨b, o, rfl, h4⟩
  refine ⟨b, o, rfl, fun j u hj => ?_⟩
  obtain ⟨i, k, hi, rfl, h5⟩ := cellsE_of l j u hj
  exact h4 i hi k u h5
theorem StrsIn.row2 {w : World} {l : List ByteArray} {v : Value} (h : StrsIn w l v) : RowAt w l.length (cellsT l) v := by
  obtain ⟨a, c, rfl, h1, h3⟩ := h
  refine ⟨a, c, rfl, h3.imp id ?_⟩
  rintro ⟨b, o, rfl, h4⟩
  refine ⟨b, o, rfl, fun j u hj => ?_⟩
  have hj2 := (List.getElem?_eq_some_iff.1 hj).1
  rw [cellsT_len] at hj2
  have := h4 j hj2
  rw [this, ← hj]
  simp [cellsT, hj2]
theorem cellsT_one (l : List ByteArray) : ∀ u ∈ cellsT l, u.oneCell' = true := by
  intro u hu
  obtain ⟨x, -, rfl⟩ := List.mem_map.1 hu
  rfl
def cput6 (w : World) (Y : Nat) (v0 v1 v2 v3 v4 v5 : Value) : World := (((((w.setCell ⟨Y, 0, none⟩ v0).setCell ⟨Y, 1, none⟩ v1).setCell ⟨Y, 2, none⟩ v2).setCell ⟨Y, 3, none⟩ v3).setCell ⟨Y, 4, none⟩ v4).setCell ⟨Y, 5, none⟩ v5
theorem cput6_blk {w : World} {Y : Nat} {a0 a1 a2 a3 a4 a5 : Value} {t : TypeId} (h : Blk w Y #[a0, a1, a2, a3, a4, a5] t) (v0 v1 v2 v3 v4 v5 : Value) : Blk (cput6 w Y v0 v1 v2 v3 v4 v5) Y #[v0, v1, v2, v3, v4, v5] t := by
  have h0 : Blk (w.setCell ⟨Y, 0, none⟩ v0) Y #[v0, a1, a2, a3, a4, a5] t := h.set 0 v0
  have h1 : Blk ((w.setCell ⟨Y, 0, none⟩ v0).setCell ⟨Y, 1, none⟩ v1) Y #[v0, v1, a2, a3, a4, a5] t := h0.set 1 v1
  have h2 : Blk (((w.setCell ⟨Y, 0, none⟩ v0).setCell ⟨Y, 1, none⟩ v1).setCell ⟨Y, 2, none⟩ v2) Y #[v0, v1, v2, a3, a4, a5] t := h1.set 2 v2
  have h3 : Blk ((((w.setCell ⟨Y, 0, none⟩ v0).setCell ⟨Y, 1, none⟩ v1).setCell ⟨Y, 2, none⟩ v2).setCell ⟨Y, 3, none⟩ v3) Y #[v0, v1, v2, v3, a4, a5] t := h2.set 3 v3
  have h4 : Blk (((((w.setCell ⟨Y, 0, none⟩ v0).setCell ⟨Y, 1, none⟩ v1).setCell ⟨Y, 2, none⟩ v2).setCell ⟨Y, 3, none⟩ v3).setCell ⟨Y, 4, none⟩ v4) Y #[v0, v1, v2, v3, v4, a5] t := h3.set 4 v4
  have h5 : Blk ((((((w.setCell ⟨Y, 0, none⟩ v0).setCell ⟨Y, 1, none⟩ v1).setCell ⟨Y, 2, none⟩ v2).setCell ⟨Y, 3, none⟩ v3).setCell ⟨Y, 4, none⟩ v4).setCell ⟨Y, 5, none⟩ v5) Y #[v0, v1, v2, v3, v4, v5] t := h4.set 5 v5
  exact h5
theorem cput6_only (w : World) (Y : Nat) (v0 v1 v2 v3 v4 v5 : Value) : Only Y w (cput6 w Y v0 v1 v2 v3 v4 v5) := ((((((Only.refl Y w).setCell (p := ⟨Y, 0, none⟩) rfl _).setCell (p := ⟨Y, 1, none⟩) rfl _).setCell (p := ⟨Y, 2, none⟩) rfl _).setCell (p := ⟨Y, 3, none⟩) rfl _).setCell (p := ⟨Y, 4, none⟩) rfl _).setCell (p := ⟨Y, 5, none⟩) rfl _
/-- What CopyCfg answers. -/
def CpTo (w : World) (g : Gf) : Ending → World → Prop := fun e w' => ∃ av cv aa ca ae ce, e = .returned (grS g av cv aa ca ae ce) ∧ GrIn w' g (.slice av g.vs.length cv) (.slice aa g.ar.length ca) (.slice ae g.es.length ce) ∧ Below w.heap.size w w'
set_option maxRecDepth 100000 in
set_option maxHeartbeats 8000000 in
theorem copycfg_any (g : Gf) (av aa ae : Option Addr) (cv ca ce : Nat) (w : World) (hg : GrIn w g (.slice av g.vs.length cv) (.slice aa g.ar.length ca) (.slice ae g.es.length ce)) (z0 : g.vs.length * 16 ≤ reachBytes) (z1 : g.ar.length * 24 ≤ reachBytes) (z2 : g.es.length * 80 ≤ reachBytes) :
    Calls Tryz.prog 11 #[grS g av cv aa ca ae ce] w (CpTo w g) := by
  have hrb : reachBytes ≤ 140737488355328 := by decide
  have hr0 := hg.vs.row2
  obtain ⟨hdl, hr1⟩ := slD hg.ar
  have hr2 := hg.es.row2
  obtain ⟨X, hX⟩ : ∃ X, w.heap.size = X := ⟨_, rfl⟩
  obtain ⟨W1, hW1⟩ : ∃ W1, w.alloc (.cells (grB g av cv aa ca ae ce) 30) = W1 := ⟨_, rfl⟩
  obtain ⟨R, hR⟩ : ∃ R, W1.heap.size = R := ⟨_, rfl⟩
  obtain ⟨W2, hW2⟩ : ∃ W2, W1.alloc (.cells #[.slice none 0 0, .int .i64 0, .slice none 0 0, .int .i64 0, .int .i64 0, .slice none 0 0] 30) = W2 := ⟨_, rfl⟩
  have hx1 : Blk W1 X (grB g av cv aa ca ae ce) 30 := by rw [← hW1, ← hX]; exact Blk.new w _ _
  have hx2 : Blk W2 X (grB g av cv aa ca ae ce) 30 := by rw [← hW2]; exact hx1.alloc _
  have hr2' : Blk W2 R #[.slice none 0 0, .int .i64 0, .slice none 0 0, .int .i64 0, .int .i64 0, .slice none 0 0] 30 := by rw [← hW2, ← hR]; exact Blk.new W1 _ _
  have hb1 : Below w.heap.size w W1 := by rw [← hW1]; exact (Below.refl _ w).alloc (Nat.le_refl _) _
  have hb2 : Below w.heap.size w W2 := by rw [← hW2]; exact hb1.alloc hb1.size _
  have hXR : X < R := by rw [← hR]; exact hx1.lt
  have hsz : W2.heap.size = R + 1 := by rw [← hW2, World.size_alloc, hR]
  have hwX : w.heap.size ≤ X := Nat.le_of_eq hX
  obtain ⟨i0, hi0, p0, p1, p2⟩ := info_parts info_str
  obtain ⟨i1, hi1, q0, q1, q2⟩ := info_parts info_decl
  obtain ⟨i2, hi2, s0, s1, s2⟩ := info_parts info_edge
  have x0 : W2.cell? ⟨X, 0, none⟩ = some (.slice av g.vs.length cv) := hx2.cell 0
  have HA0 := Lib.hid (fun (ops : Array Oper) (rest : List Oper) (o : Oper) (a : Act) (Q : Exit → Act → World → Prop) (hgd : o.guard = none) (ho : o.op = .call { callee := .builtin .append, args := #[(.const (.slice none 0 0)), (.tmp 4)], argTypes := #[27, 27] }) (hs : a.eval (.const (.slice none 0 0)) = .slice none 0 0) (hx : a.eval (.tmp 4) = .slice av g.vs.length cv) => @wpList_append_nil Tryz.prog W2 ops rest o a Q hgd _ _ _ ho 9 i0 _ 1 16 Tryz.underlying27 hi0 p0 p1 p2 rfl (by omega) hs g.vs.length (cellsT g.vs) (by rw [hx]; exact hr0.keep (keeps_below hb2)) (by rw [cellsT_len, Nat.mul_one]) (cellsT_one _) (by unfold maxLen; omega) (by omega))
  have HA1 := Lib.hid (fun (W : World) (hb : Below w.heap.size w W) (ops : Array Oper) (rest : List Oper) (o : Oper) (a : Act) (Q : Exit → Act → World → Prop) (hgd : o.guard = none) (ho : o.op = .call { callee := .builtin .append, args := #[(.const (.slice none 0 0)), (.tmp 8)], argTypes := #[22, 22] }) (hs : a.eval (.const (.slice none 0 0)) = .slice none 0 0) (hx : a.eval (.tmp 8) = .slice aa g.ar.length ca) => @wpList_append_nil Tryz.prog W ops rest o a Q hgd _ _ _ ho 96 i1 _ 2 24 Tryz.underlying22 hi1 q0 q1 q2 rfl (by omega) hs g.ar.length (cellsD g.ar) (by rw [hx]; exact hr1.keep (keeps_below hb)) (cellsD_len _) (cellsD_one _) (by unfold maxLen; omega) (by omega))
  have HA2 := Lib.hid (fun (W : World) (hb : Below w.heap.size w W) (ops : Array Oper) (rest : List Oper) (o : Oper) (a : Act) (Q : Exit → Act → World → Prop) (hgd : o.guard = none) (ho : o.op = .call { callee := .builtin .append, args := #[(.const (.slice none 0 0)), (.tmp 12)], argTypes := #[28, 28] }) (hs : a.eval (.const (.slice none 0 0)) = .slice none 0 0) (hx : a.eval (.tmp 12) = .slice ae g.es.length ce) => @wpList_append_nil Tryz.prog W ops rest o a Q hgd _ _ _ ho 40 i2 _ 10 80 Tryz.underlying28 hi2 s0 s1 s2 rfl (by omega) hs g.es.length (cellsE g.es) (by rw [hx]; exact hr2.keep (keeps_below hb)) (cellsE_len _) (cellsE_one _) (by unfold maxLen; omega) (by omega))
  have H2 := Lib.hid (And.intro hx2 (And.intro hr2' (And.intro hb2 (And.intro hXR (And.intro hsz (And.intro hwX (And.intro hdl hg.nv)))))))
  have HE := Lib.hid (And.intro hW1 (And.intro hX (And.intro hW2 (show X + 1 = R by rw [← hR, ← hW1, World.size_alloc, hX]))))
  clear hx1 hx2 hr2' hb1 hb2 hXR hsz hwX hW1 hX hW2 hR hi0 hi1 hi2 p0 p1 p2 q0 q1 q2 s0 s1 s2 hr0 hr1 hr2 hdl hg hrb z0 z1 z2
  go_enter Tryz.func11, Tryz.ntmps11
  go_upto_region 1 with fail
  rw [HE.out.1, HE.out.2.1]
  rw [HE.out.2.2.1, HE.out.2.2.2]
  go_upto_region 2 with (first | (at_builtin; (refine HA0.out _ _ _ _ _ rfl rfl rfl rfl ?_); (intro ua uc w3 hown hb3; have e0 : w3.cell? ⟨X, 0, none⟩ = some (.slice av g.vs.length cv) := (H2.out.1.next hb3).cell 0; have f0 : w3.frozen? ⟨X, 0, none⟩ = false := (H2.out.1.next hb3).free 0)) | fail)
  obtain ⟨W4, hW4⟩ : ∃ W, w3.setCell ⟨X, 0, none⟩ (.slice ua g.vs.length uc) = W := ⟨_, rfl⟩
  have hx4 : Blk W4 X #[.slice ua g.vs.length uc, .int .i64 g.tmp, .slice aa g.ar.length ca, .int .i64 g.pts, .int .i64 g.ext, .slice ae g.es.length ce] 30 := by rw [← hW4]; exact (H2.out.1.next hb3).set 0 _
  have hr4 : Blk W4 R #[.slice none 0 0, .int .i64 0, .slice none 0 0, .int .i64 0, .int .i64 0, .slice none 0 0] 30 := by rw [← hW4]; exact (H2.out.2.1.next hb3).other (by show R ≠ X; have := H2.out.2.2.2.1; omega) _
  have hb4 : Below w.heap.size w W4 := by rw [← hW4]; exact (H2.out.2.2.1.trans (hb3.mono H2.out.2.2.1.size)).setCell H2.out.2.2.2.2.2.1 _
  have hs4 : R + 1 ≤ W4.heap.size := by rw [← hW4, World.size_setCell]; have := hb3.size; have := H2.out.2.2.2.2.1; omega
  have ho4 : W4.ownsRow (R + 1) 9 1 (.slice ua g.vs.length uc) g.vs.length (cellsT g.vs) := by rw [← hW4]; rw [H2.out.2.2.2.2.1] at hown; exact ownsRow_setCell_below hown (a := ⟨X, 0, none⟩) (by show X < R + 1; have := H2.out.2.2.2.1; omega) _
  rw [hW4]
  have y2 : W4.cell? ⟨X, 2, none⟩ = some (.slice aa g.ar.length ca) := hx4.cell 2
  have H4 := Lib.hid (And.intro hx4 (And.intro hr4 (And.intro hb4 (And.intro hs4 ho4))))
  clear hx4 hr4 hb4 hs4 ho4 hW4 hown hb3 e0 f0 x0
  go_upto_region 3 with (first | (at_builtin; (refine HA1.out W4 H4.out.2.2.1 _ _ _ _ _ rfl rfl rfl rfl ?_); (intro ua2 uc2 w5 hown hb5; have e0 : w5.cell? ⟨X, 2, none⟩ = some (.slice aa g.ar.length ca) := (H4.out.1.next hb5).cell 2; have f0 : w5.frozen? ⟨X, 2, none⟩ = false := (H4.out.1.next hb5).free 2)) | fail)
  obtain ⟨W6, hW6⟩ : ∃ W, w5.setCell ⟨X, 2, none⟩ (.slice ua2 g.ar.length uc2) = W := ⟨_, rfl⟩
  have hx6 : Blk W6 X #[.slice ua g.vs.length uc, .int .i64 g.tmp, .slice ua2 g.ar.length uc2, .int .i64 g.pts, .int .i64 g.ext, .slice ae g.es.length ce] 30 := by rw [← hW6]; exact (H4.out.1.next hb5).set 2 _
  have hXR := H2.out.2.2.2.1
  have hr6 : Blk W6 R #[.slice none 0 0, .int .i64 0, .slice none 0 0, .int .i64 0, .int .i64 0, .slice none 0 0] 30 := by rw [← hW6]; exact (H4.out.2.1.next hb5).other (by show R ≠ X; omega) _
  have hb6 : Below w.heap.size w W6 := by rw [← hW6]; exact (H4.out.2.2.1.trans (hb5.mono H4.out.2.2.1.size)).setCell H2.out.2.2.2.2.2.1 _
  have hs6 : R + 1 ≤ W6.heap.size := by rw [← hW6, World.size_setCell]; have := hb5.size; have := H4.out.2.2.2.1; omega
  have ho6 : W6.ownsRow (R + 1) 9 1 (.slice ua g.vs.length uc) g.vs.length (cellsT g.vs) := by rw [← hW6]; exact ownsRow_setCell_below (ownsRow_below H4.out.2.2.2.2 hb5) (a := ⟨X, 2, none⟩) (by show X < R + 1; omega) _
  have hd6 : W6.ownsRow (R + 1) 96 2 (.slice ua2 g.ar.length uc2) g.ar.length (cellsD g.ar) := by rw [← hW6]; exact ownsRow_setCell_below (hown.mono H4.out.2.2.2.1) (a := ⟨X, 2, none⟩) (by show X < R + 1; omega) _
  rw [hW6]
  have y5 : W6.cell? ⟨X, 5, none⟩ = some (.slice ae g.es.length ce) := hx6.cell 5
  have H6 := Lib.hid (And.intro hx6 (And.intro hr6 (And.intro hb6 (And.intro hs6 (And.intro ho6 hd6)))))
  clear hx6 hr6 hb6 hs6 ho6 hd6 hW6 hown hb5 e0 f0 y2 hXR
  go_upto_region 4 with (first | (at_builtin; (refine HA2.out W6 H6.out.2.2.1 _ _ _ _ _ rfl rfl rfl rfl ?_); (intro ua3 uc3 w7 hown hb7; have e0 : w7.cell? ⟨X, 5, none⟩ = some (.slice ae g.es.length ce) := (H6.out.1.next hb7).cell 5; have f0 : w7.frozen? ⟨X, 5, none⟩ = false := (H6.out.1.next hb7).free 5)) | fail)
  obtain ⟨W8, hW8⟩ : ∃ W, w7.setCell ⟨X, 5, none⟩ (.slice ua3 g.es.length uc3) = W := ⟨_, rfl⟩
  have hx8 : Blk W8 X #[.slice ua g.vs.length uc, .int .i64 g.tmp, .slice ua2 g.ar.length uc2, .int .i64 g.pts, .int .i64 g.ext, .slice ua3 g.es.length uc3] 30 := by rw [← hW8]; exact (H6.out.1.next hb7).set 5 _
  have hXR := H2.out.2.2.2.1
  have hr8 : Blk W8 R #[.slice none 0 0, .int .i64 0, .slice none 0 0, .int .i64 0, .int .i64 0, .slice none 0 0] 30 := by rw [← hW8]; exact (H6.out.2.1.next hb7).other (by show R ≠ X; omega) _
  have hb8 : Below w.heap.size w W8 := by rw [← hW8]; exact (H6.out.2.2.1.trans (hb7.mono H6.out.2.2.1.size)).setCell H2.out.2.2.2.2.2.1 _
  have hs8 : R + 1 ≤ W8.heap.size := by rw [← hW8, World.size_setCell]; have := hb7.size; have := H6.out.2.2.2.1; omega
  have ho8 : W8.ownsRow (R + 1) 9 1 (.slice ua g.vs.length uc) g.vs.length (cellsT g.vs) := by rw [← hW8]; exact ownsRow_setCell_below (ownsRow_below H6.out.2.2.2.2.1 hb7) (a := ⟨X, 5, none⟩) (by show X < R + 1; omega) _
  have hd8 : W8.ownsRow (R + 1) 96 2 (.slice ua2 g.ar.length uc2) g.ar.length (cellsD g.ar) := by rw [← hW8]; exact ownsRow_setCell_below (ownsRow_below H6.out.2.2.2.2.2 hb7) (a := ⟨X, 5, none⟩) (by show X < R + 1; omega) _
  have he8 : W8.ownsRow (R + 1) 40 10 (.slice ua3 g.es.length uc3) g.es.length (cellsE g.es) := by rw [← hW8]; exact ownsRow_setCell_below (hown.mono H6.out.2.2.2.1) (a := ⟨X, 5, none⟩) (by show X < R + 1; omega) _
  rw [hW8]
  have xc := hx8.cell
  have rc := hr8.cell
  have rf := hr8.free
  have H8 := Lib.hid (And.intro hr8 (And.intro hb8 (And.intro ho8 (And.intro hd8 (And.intro he8 (And.intro hXR (Nat.le_trans H2.out.2.2.2.2.2.1 (Nat.le_of_lt hXR))))))))
  clear hx8 hr8 hb8 hs8 ho8 hd8 he8 hW8 hown hb7 e0 f0 y5 hXR
  go_wp2_with fail
  refine bodyPost_ret (results_cell_row rfl _ _ R _ #[.slice ua g.vs.length uc, .int .i64 g.tmp, .slice ua2 g.ar.length uc2, .int .i64 g.pts, .int .i64 g.ext, .slice ua3 g.es.length uc3] _ _ rfl (cput6_blk H8.out.1 _ _ _ _ _ _) rfl rfl (by kernel_rfl)) rfl ?_
  have up : ∀ {e : TypeId} {size n : Nat} {v : Value} {xs : List Value}, W8.ownsRow (R + 1) e size v n xs → (cput6 W8 R (.slice ua g.vs.length uc) (.int .i64 g.tmp) (.slice ua2 g.ar.length uc2) (.int .i64 g.pts) (.int .i64 g.ext) (.slice ua3 g.es.length uc3)).ownsRow (R + 1) e size v n xs := fun h => by
    have hlt : R < R + 1 := Nat.lt_succ_self R
    exact ownsRow_setCell_below (a := ⟨R, 5, none⟩) (ownsRow_setCell_below (a := ⟨R, 4, none⟩) (ownsRow_setCell_below (a := ⟨R, 3, none⟩) (ownsRow_setCell_below (a := ⟨R, 2, none⟩) (ownsRow_setCell_below (a := ⟨R, 1, none⟩) (ownsRow_setCell_below (a := ⟨R, 0, none⟩) h hlt _) hlt _) hlt _) hlt _) hlt _) hlt _
  refine ⟨ua, uc, ua2, uc2, ua3, uc3, rfl, ⟨strs_own (up H8.out.2.2.1), slD_own H2.out.2.2.2.2.2.2.1 (up H8.out.2.2.2.1), EdsAt.own (up H8.out.2.2.2.2.1), H2.out.2.2.2.2.2.2.2⟩, ?_⟩
  exact H8.out.2.1.trans ((cput6_only W8 R _ _ _ _ _ _).old H8.out.2.2.2.2.2.2 H8.out.2.1.size)
end Go.Proofs.YtjpopelbdhgidaaGreatDoor

/-
  gnomonhelp's Decls and Cfg: proved is that they answer true for two lists that say the same, for two graphs that say the same.
-/
namespace Go.Proofs.YtjpopelbdhgidaaGreatDoor
open Go Go.RowKit Go.Maps

set_option maxRecDepth 100000 in
set_option maxHeartbeats 4000000 in
theorem decls_any (l : List Nd) (v u : Value) (w : World) (h1 : SlIn w .D l v) (h2 : SlIn w .D l u) :
    Calls Tryz.prog 39 #[v, u] w (fun e w' => e = .returned (.bool true) ∧ Below w.heap.size w w') := by
  have hr1 := (slD h1).2
  have hr2 := (slD h2).2
  obtain ⟨a, c, rfl, hl1, hl2, -⟩ := h1
  obtain ⟨a', c', rfl, -⟩ := h2
  obtain ⟨_, _, e1, hr1⟩ := hr1
  obtain ⟨_, _, e2, hr2⟩ := hr2
  obtain ⟨rfl, -, rfl⟩ := Value.slice.inj e1
  obtain ⟨rfl, -, rfl⟩ := Value.slice.inj e2
  have HC1 := Lib.hid hr1
  have HC2 := Lib.hid hr2
  have HF := Lib.hid (show l.length ≤ maxLen from Nat.le_trans hl1 hl2)
  clear hr1 hr2 hl1 hl2 e1 e2
  go_enter Tryz.func39, Tryz.ntmps39
  go_wp2_with fail
  go_loopw [5] (fun x wr => ∃ i : Nat, x = .int .i64 i ∧ i ≤ l.length ∧ Below w.heap.size w wr) (fun x _ => l.length - (intOf x).toNat)
  case atStart => exact ⟨0, rfl, by omega, Below.refl _ _⟩
  case round =>
    obtain ⟨i, rfl, hi, hbr⟩ := hrel
    by_cases hlt : i < l.length
    · have hbi : (i : Int) + 1 ≤ 9223372036854775807 := by have := HF.out; unfold maxLen at this; omega
      obtain ⟨b, o, rfl, hc1⟩ := HC1.out.resolve_left (by omega)
      obtain ⟨b', o', rfl, hc2⟩ := HC2.out.resolve_left (by omega)
      obtain ⟨q0, q1⟩ := cellsD_at l i hlt
      have m0 := keeps_below hbr _ _ _ (hc1 _ _ q0)
      have m1 := keeps_below hbr _ _ _ (hc1 _ _ q1)
      have n0 := keeps_below hbr _ _ _ (hc2 _ _ q0)
      have n1 := keeps_below hbr _ _ _ (hc2 _ _ q1)
      obtain ⟨X, hX⟩ : ∃ X, dNm l[i] = X := ⟨_, rfl⟩
      obtain ⟨Y, hY⟩ : ∃ Y, dSz l[i] = Y := ⟨_, rfl⟩
      rw [hX] at m0 n0
      rw [hY] at m1 n1
      rw [← Nat.add_assoc] at m1 n1
      clear hX hY q0 q1 hc1 hc2
      have HBR := Lib.hid hbr; clear hbr
      go_upto_region 6 with fail
      go_cut [25] (fun s wx => s = .bool false ∧ Below w.heap.size w wx)
      case first =>
        go_region
        go_wp2_with fail
        go_meet
        exact ⟨by simp, HBR.out.drew⟩
      case rest =>
        obtain ⟨rfl, hb⟩ := hcut
        clear m0 n0 m1 n1 HBR
        go_wp2_with fail
        go_roundw
        case rel => exact ⟨i + 1, by go_num, by omega, hb⟩
        case measure => simp [intOf]; omega
    · obtain rfl : i = l.length := by omega
      go_wp2_with fail
      go_ret
      exact ⟨rfl, hbr⟩
set_option maxRecDepth 100000 in
set_option maxHeartbeats 8000000 in
theorem gcfg_any (g : Gf) (av aa ae bv ba be : Option Addr) (cv ca ce dv da de : Nat) (w : World) (h1 : GrIn w g (.slice av g.vs.length cv) (.slice aa g.ar.length ca) (.slice ae g.es.length ce)) (h2 : GrIn w g (.slice bv g.vs.length dv) (.slice ba g.ar.length da) (.slice be g.es.length de)) :
    Calls Tryz.prog 9 #[grS g av cv aa ca ae ce, grS g bv dv ba da be de] w (fun e w' => e = .returned (.bool true) ∧ Below w.heap.size w w') := by
  obtain ⟨X, hX⟩ : ∃ X, w.heap.size = X := ⟨_, rfl⟩
  obtain ⟨W1, hW1⟩ : ∃ W1, w.alloc (.cells (grB g av cv aa ca ae ce) 30) = W1 := ⟨_, rfl⟩
  obtain ⟨Y, hY⟩ : ∃ Y, W1.heap.size = Y := ⟨_, rfl⟩
  obtain ⟨W2, hW2⟩ : ∃ W2, W1.alloc (.cells (grB g bv dv ba da be de) 30) = W2 := ⟨_, rfl⟩
  have hx2 : Blk W2 X (grB g av cv aa ca ae ce) 30 := by rw [← hW2]; exact (show Blk W1 X _ _ by rw [← hW1, ← hX]; exact Blk.new w _ _).alloc _
  have hy2 : Blk W2 Y (grB g bv dv ba da be de) 30 := by rw [← hW2, ← hY]; exact Blk.new W1 _ _
  have hb1 : Below w.heap.size w W1 := by rw [← hW1]; exact (Below.refl _ w).alloc (Nat.le_refl _) _
  have hb2 : Below w.heap.size w W2 := by rw [← hW2]; exact hb1.alloc hb1.size _
  have ht := texts_any g.vs g.vs _ _ W2 (h1.vs.keep hb2) (h2.vs.keep hb2) (by have := h1.nv; unfold maxLen at this; omega)
  rw [sameT_refl] at ht
  have HT := Lib.hid ht
  have HD := Lib.hid (fun W (hb : Below w.heap.size w W) => decls_any g.ar _ _ W (h1.ar.keep (keeps_below hb)) (h2.ar.keep (keeps_below hb)))
  have HG := Lib.hid (And.intro h1.es h2.es)
  have H2 := Lib.hid (And.intro hx2 (And.intro hy2 hb2))
  have HE := Lib.hid (And.intro hW1 (And.intro hX (And.intro hW2 (show X + 1 = Y by rw [← hY, ← hW1, World.size_alloc, hX]))))
  have xc := hx2.cell
  have yc := hy2.cell
  clear hx2 hy2 hb1 hb2 hW1 hX hW2 hY ht h1 h2
  go_enter Tryz.func9, Tryz.ntmps9
  go_upto_region 1 with fail
  rw [HE.out.1, HE.out.2.1]
  rw [HE.out.2.2.1, HE.out.2.2.2]
  go_wp2_with (first | (go_at_call 38; (with_reducible refine HT.out.mono ?_); rintro e w3 ⟨rfl, hb3⟩; have HB3 := Lib.hid hb3; have xc3 := (H2.out.1.next hb3).cell; have yc3 := (H2.out.2.1.next hb3).cell; clear hb3 xc yc) | (go_at_call 39; (with_reducible refine (HD.out _ (bel H2.out.2.2 HB3.out)).mono ?_); rintro e w4 ⟨rfl, hb4⟩; have HB4 := Lib.hid (HB3.out.trans (hb4.mono HB3.out.size)); have xc4 := (H2.out.1.next HB4.out).cell; have yc4 := (H2.out.2.1.next HB4.out).cell; clear hb4 xc3 yc3) | fail)
  go_loopw [5] (fun x wr => ∃ i : Nat, x = .int .i64 i ∧ i ≤ g.es.length ∧ Below w4.heap.size w4 wr) (fun x _ => g.es.length - (intOf x).toNat)
  case atStart => exact ⟨0, rfl, by omega, Below.refl _ _⟩
  case round =>
    obtain ⟨i, rfl, hi, hbr⟩ := hrel
    have hbw : Below W2.heap.size W2 wr := HB4.out.trans (hbr.mono HB4.out.size)
    have x5 : wr.cell? ⟨X, 5, none⟩ = some (.slice ae g.es.length ce) := (H2.out.1.next hbw).cell 5
    have y5 : wr.cell? ⟨Y, 5, none⟩ = some (.slice be g.es.length de) := (H2.out.2.1.next hbw).cell 5
    have hbW : Below w.heap.size w wr := bel H2.out.2.2 hbw
    clear xc4 yc4
    by_cases hlt : i < g.es.length
    · obtain ⟨_, _, e1, hl1, hl2, hr1⟩ := HG.out.1.keep (keeps_below hbW)
      obtain ⟨_, _, e2, -, -, hr2⟩ := HG.out.2.keep (keeps_below hbW)
      have hbi : (i : Int) + 1 ≤ 9223372036854775807 := by unfold maxLen at hl2; omega
      obtain ⟨rfl, -, rfl⟩ := Value.slice.inj e1
      obtain ⟨rfl, -, rfl⟩ := Value.slice.inj e2
      obtain ⟨b, o, rfl, hc1⟩ := hr1.resolve_left (by omega)
      obtain ⟨b', o', rfl, hc2⟩ := hr2.resolve_left (by omega)
      obtain ⟨m0, m1, m2, m3, m4, m5, m6, m7, m8, m9⟩ := eds_at hc1 i hlt
      obtain ⟨n0, n1, n2, n3, n4, n5, n6, n7, n8, n9⟩ := eds_at hc2 i hlt
      obtain ⟨E, hE⟩ : ∃ E, g.es[i] = E := ⟨_, rfl⟩
      rw [hE] at m0 m1 m2 m3 m4 m5 m6 m7 m8 m9 n0 n1 n2 n3 n4 n5 n6 n7 n8 n9
      clear hE hc1 hc2 hl1 hl2 e1 e2 hbw hbW
      have HBR := Lib.hid hbr; clear hbr
      obtain ⟨f, d, k, ds, ar, op, va, na, vb, nb⟩ := E
      go_upto_region 6 with fail
      go_cut [67] (fun s wx => s = .bool false ∧ Below w4.heap.size w4 wx)
      case first =>
        go_region
        go_wp2_with fail
        go_meet
        exact ⟨by simp, HBR.out.drew⟩
      case rest =>
        obtain ⟨rfl, hb⟩ := hcut
        clear m0 m1 m2 m3 m4 m5 m6 m7 m8 m9 n0 n1 n2 n3 n4 n5 n6 n7 n8 n9 HBR x5 y5
        go_wp2_with fail
        go_roundw
        case rel => exact ⟨i + 1, by go_num, by omega, hb⟩
        case measure => simp [intOf]; omega
    · obtain rfl : i = g.es.length := by omega
      have HBW := Lib.hid hbW
      clear hbr hbw hbW
      go_wp2_with fail
      go_ret
      exact ⟨rfl, HBW.out⟩
end Go.Proofs.YtjpopelbdhgidaaGreatDoor

/-
  The end of a law's proof, for arguments of whatever shape that the call leaves alone: proved is that what read as data before reads so behind, and so that a call that answers true and turns nothing that lay meets its row.
-/
namespace Go.Proofs.YtjpopelbdhgidaaGreatDoor
open Go Go.RowKit Go.ChangeShapes

/-- A type of plain parts: numbers, strings, structs, and slices whose elements have cells. -/
def GoodT (P : Program) (G : TypeId → Prop) (t : TypeId) : Prop := match P.underlying t with
  | some .bool => True
  | some (.int _) => True
  | some .string => True
  | some (.slice e) => G e ∧ 0 < P.cellsOf e
  | some (.struct fs) => ∀ f ∈ fs.toList, G f.type
  | _ => False
/-- All types of G are so, and so are their parts'. -/
def PlainAll (P : Program) (G : TypeId → Prop) : Prop := ∀ t, G t → GoodT P G t

section
variable {H : Type} {enc : TypeId × Value → H} {P : Program} {G : TypeId → Prop} {w : World} {base : Nat} {held : Bool}

theorem trodStep_spareT (hp : PlainAll P G) {sp : Nat → Bool} {r r' : TypeId → List Value → Option (DataW H × List MemPlace)}
    (hr : ∀ t, G t → ∀ cs x, r t cs = some x → (∀ p ∈ x.2, sp p.block = true) → r' t cs = some x) {t : TypeId} (ht : G t) {cs : List Value} {x : DataW H × List MemPlace}
    (h : DataW.trodStep enc P w base (fun _ => true) held r t cs = some x) (hs : ∀ p ∈ x.2, sp p.block = true) : DataW.trodStep enc P w base sp held r' t cs = some x := by
  have hg := hp t ht
  unfold GoodT at hg
  unfold DataW.trodStep at h ⊢
  split at h
  case h_1 => exact h
  case h_2 => exact h
  case h_3 => exact h
  case h_4 => exact h
  case h_5 => exact h
  case h_6 e a hu =>
    rw [hu] at hg
    exact hg.elim
  case h_7 => exact h
  case h_8 e a len cap hu =>
    rw [hu] at hg
    obtain ⟨hge, hpos⟩ := hg
    simp only at h ⊢
    split at h
    · rename_i hc
      rw [if_pos hc]
      simp only [Option.map_eq_some_iff, Option.bind_eq_some_iff] at h ⊢
      obtain ⟨elems, he, rest, hrest, rfl⟩ := h
      have hlen : elems.length = len := by simpa using mapM_some_length he
      simp only [if_true] at hrest
      have hrl : rest.length = cap - len := by simpa using mapM_some_length hrest
      have one : ∀ (i : Nat) (y : DataW H × List MemPlace), y ∈ elems ++ rest →
          (w.cells? base (a.add (i * P.cellsOf e)) (P.cellsOf e)).bind (r e) = some y → (w.cells? base (a.add (i * P.cellsOf e)) (P.cellsOf e)).bind (r' e) = some y := by
        intro i y hy hv
        simp only [Option.bind_eq_some_iff] at hv ⊢
        obtain ⟨cs', hc', hy'⟩ := hv
        refine ⟨cs', hc', hr _ hge _ _ hy' (fun p hp => hs p ?_)⟩
        simp only [List.mem_append, List.mem_flatMap]
        right
        exact ⟨y, by simpa using hy, hp⟩
      refine ⟨elems, mapM_carry he (fun i y _ hy => one i y (by simp [hy])), rest, ?_, rfl⟩
      by_cases hz : cap - len = 0
      · have hr0 : rest = [] := List.eq_nil_of_length_eq_zero (by omega)
        subst hr0
        rw [hz]
        split <;> rfl
      · have hb : sp a.block = true := by
          refine hs (.cell a.block a.off) ?_
          simp only [List.mem_append]
          left
          refine MemPlace.mem_row.2 ⟨0, ?_, by simp⟩
          rw [hlen, hrl]
          exact Nat.mul_pos (by omega) hpos
        rw [if_pos hb]
        exact mapM_carry hrest (fun j y _ hy => one (len + j) y (by simp [hy]))
    · cases h
  case h_9 hu =>
    rw [hu] at hg
    split at h
    · rename_i hc
      rw [if_pos hc]
      simp only [Option.map_eq_some_iff] at h ⊢
      obtain ⟨xs, hx, rfl⟩ := h
      exact ⟨xs, mapM_carry hx (fun f y hm hy hv => hr _ (hg f hm) _ _ hv (fun p hp => hs p (List.mem_flatMap.2 ⟨y, hy, hp⟩))), rfl⟩
    · cases h
  case h_10 hu =>
    rw [hu] at hg
    exact hg.elim
  case h_11 => exact h
  case h_12 hu =>
    rw [hu] at hg
    exact hg.elim
  case h_13 => exact h
  case h_14 k e b hu =>
    rw [hu] at hg
    exact hg.elim
  case h_15 => exact h
  case h_16 => exact h
  case h_17 => exact h
  case h_18 => exact h
  case h_19 => exact h
  case h_20 => exact h
  case h_21 => cases h
theorem trod_spareT (hp : PlainAll P G) {sp : Nat → Bool} : ∀ (n : Nat) (t : TypeId), G t → ∀ (cs : List Value) (x : DataW H × List MemPlace),
    DataW.trod enc P w base (fun _ => true) held n t cs = some x → (∀ p ∈ x.2, sp p.block = true) → DataW.trod enc P w base sp held n t cs = some x
  | 0, _, _, _, _, h, _ => by simp [DataW.trod] at h
  | n + 1, t, ht, cs, x, h, hs => by
    rw [DataW.trod_step] at h ⊢
    exact trodStep_spareT hp (trod_spareT hp n) ht h hs

theorem trodAll_againT {w' : World} (hp : PlainAll P G) (hb : Below w.heap.size w w') : ∀ {ts : List TypeId} {vs : List Value} {ds : List (DataW H)} {ps : List MemPlace}, (∀ t ∈ ts, G t) → DataW.TrodAll enc P w base (fun _ => true) held ts vs ds ps →
    DataW.TrodAll enc P w' base (fun b => decide (b < w.heap.size)) held ts vs ds ps
  | [], [], [], ps, _, h => h
  | t :: ts, v :: vs, d :: ds, ps, hG, h => by
    obtain ⟨p, q, ⟨fuel, h1⟩, h2, h3⟩ := h
    have hlt := DataW.trod_lt _ _ _ _ h1
    have h4 := trod_spareT (sp := fun b => decide (b < w.heap.size)) hp _ _ (hG t (List.mem_cons_self ..)) _ _ h1 (fun p hp => by simpa using hlt p hp)
    exact ⟨p, q, ⟨fuel, DataW.trod_carry _ _ _ _ h4 (fun p hp => hb.same (hlt p hp))⟩, trodAll_againT hp hb (fun u hu => hG u (List.mem_cons_of_mem _ hu)) h2, h3⟩
  | [], [], _ :: _, ps, _, h => h.elim
  | [], _ :: _, _, ps, _, h => h.elim
  | _ :: _, [], _, ps, _, h => h.elim
  | _ :: _, _ :: _, [], ps, _, h => h.elim

/-- A call that answers true and turns nothing that lay meets a law's row. -/
theorem post_trueT {f : Func} {s : ChangeSpec} {W W' : World} {args : Array Value} {ds gs : List (DataW H)} {before : List MemPlace} {tb : TypeId} (hp : PlainAll P G) (hG : ∀ t ∈ f.params.toList, G t) (hv : s.vars = []) (hr : f.resultTypes.toList = [tb]) (hrs : f.resultTypes.size = 1) (htb : P.underlying tb = some .bool)
    (hfn : s.fn H (ds ++ gs) = { results := [.lit (.bool true)], args := ds }) (hW : DataW.Whole enc P f.params.toList s.vars false W args.toList ds gs before) (hb : Below W.heap.size W W') : s.post enc P f false true false false W args (.bool true) W' := by
  have hW' := hW
  obtain ⟨p, q, hA, hV, rfl, hfz, hnd⟩ := hW
  refine ⟨ds, gs, _, [], p, q, hW', ?_, ?_, ?_, hb.frame _, fun h => by cases h⟩
  · rw [hr, hrs, hfn]
    exact trodAll_mk1 (shut_bool htb true)
  · rw [hfn]
    exact trodAll_againT hp hb hG hA
  · rw [hv] at hV ⊢
    rw [hfn]
    cases gs with
    | nil => exact hV
    | cons g r => exact hV.elim
end
end Go.Proofs.YtjpopelbdhgidaaGreatDoor

/-
  Arguments that are graphs, or rows: proved is that what reads as a slice of whatever items is a row of them, that what reads as a graph lies in memory as one, and how long its rows may be.
-/
namespace Go.Proofs.YtjpopelbdhgidaaGreatDoor
open Go Go.RowKit Go.ChangeShapes Go.WideShapes Go.Deep

theorem weightsAll_mem {H : Type} {P : Program} {e : TypeId} : ∀ {l : List (DataW H)} {d : DataW H}, d ∈ l → ∀ m ∈ d.weights P e, m ∈ DataW.weightsAll P e l
  | x :: r, d, h, m, hm => by
    rw [DataW.weightsAll, List.mem_append]
    rcases List.mem_cons.1 h with rfl | h
    · exact .inl hm
    · exact .inr (weightsAll_mem h m hm)
section
variable {H : Type} {enc : TypeId × Value → H} {w : World} {base : Nat} {sp : Nat → Bool} {held : Bool}
/-- How long a slice may be. -/
theorem slice_size {t e : TypeId} {bytes : Nat} (ht : Tryz.prog.underlying t = some (.slice e)) (hb : Tryz.prog.bytesOf e = bytes) {fuel : Nat} {a : Option Addr} {n c : Nat} {x : DataW H × List MemPlace}
    (h : DataW.trod enc Tryz.prog w base sp held fuel t [.slice a n c] = some x) (hz : ∀ m ∈ x.1.weights Tryz.prog t, m ≤ reachBytes) : n * bytes ≤ reachBytes := by
  rcases DataW.trod_slice ht h with ⟨h1, _⟩ | ⟨b, len, cap, elems, rest, m, hf, h1, hx, hb2, hl, hc, hlen, hel, _⟩
  · obtain ⟨-, rfl, -⟩ : a = none ∧ n = 0 ∧ c = 0 := by simpa using h1
    simp
  · obtain ⟨-, rfl, -⟩ : a = some b ∧ n = len ∧ c = cap := by simpa using h1
    subst hx
    have h2 := hz ((elems.length + rest.length) * bytes) (by simp [DataW.weights, ht, hb])
    rw [hlen] at h2
    exact Nat.le_trans (Nat.mul_le_mul_right _ (by omega)) h2
/-- What reads as a slice, of whatever items. -/
theorem open_any {α : Type} [Inhabited α] {t e : TypeId} {size : Nat} (ht : Tryz.prog.underlying t = some (.slice e)) (hk : Tryz.prog.cellsOf e = size) (hpos : 0 < size) {R : α → List Value → Prop} {fuel : Nat} {v : Value} {x : DataW H × List MemPlace}
    (hn : ∀ n cs y, DataW.trod enc Tryz.prog w base sp held n e cs = some y → (∀ m ∈ y.1.weights Tryz.prog e, m ≤ reachBytes) → cs.length = size → ∃ d : α, R d cs)
    (h : DataW.trod enc Tryz.prog w base sp held fuel t [v] = some x) (hz : ∀ m ∈ x.1.weights Tryz.prog t, m ≤ reachBytes) :
    ∃ l : List α, SlOf l.length (fun b o => ∀ i (hi : i < l.length), ∃ cs, (∀ j u, cs[j]? = some u → w.cell? ⟨b, o + (i * size + j), none⟩ = some u) ∧ R l[i] cs) v ∧ ∀ x ∈ l, ∃ cs, R x cs := by
  rcases DataW.trod_slice ht h with ⟨h1, _⟩ | ⟨a, len, cap, elems, rest, n, hf, h1, hx, hb, hl, hc, hlen, hel, _⟩
  · obtain rfl : v = .slice none 0 0 := by simpa using h1
    exact ⟨[], ⟨none, 0, rfl, Nat.le_refl _, Nat.zero_le _, .inl rfl⟩, fun x h => by cases h⟩
  · obtain rfl : v = .slice (some a) len cap := by simpa using h1
    subst hx
    rw [hk] at hel
    have hex : ∀ i, i < len → ∃ d : α, ∃ cs, w.cells? base (a.add (i * size)) size = some cs ∧ R d cs := fun i hi => by
      have := hel i hi
      rw [List.getElem?_eq_getElem (by omega)] at this
      simp only [Option.bind_eq_some_iff] at this
      obtain ⟨cs, hcs, hy⟩ := this
      obtain ⟨d, hd⟩ := hn n cs _ hy (fun m hm => hz m (by
        simp only [DataW.weights, ht]
        refine List.mem_cons_of_mem _ (List.mem_append_left _ (weightsAll_mem ?_ m hm))
        exact List.mem_map_of_mem (List.getElem_mem _))) (by obtain ⟨_, h, _⟩ := World.cells?_some hcs; exact h)
      exact ⟨d, cs, hcs, hd⟩
    obtain ⟨f, hfn⟩ := choose_lt hex
    refine ⟨(List.range len).map f, ⟨some a, cap, by simp, by simpa using hl, hc, ?_⟩, ?_⟩
    · by_cases h0 : len = 0
      · exact .inl (by simpa using h0)
      · right
        have hsp : a = ⟨a.block, a.off, none⟩ := by
          obtain ⟨cs, hcs, _⟩ := hfn 0 (by omega)
          rw [Nat.zero_mul] at hcs
          obtain ⟨_, _, hat⟩ := World.cells?_some hcs
          have h2 := hat 0 hpos
          have hl2 : cs.length = size := by obtain ⟨_, h, _⟩ := World.cells?_some hcs; exact h
          rw [List.getElem?_eq_getElem (by omega)] at h2
          simp only [Addr.add, if_true] at h2
          exact spot_none h2
        refine ⟨a.block, a.off, by rw [← hsp], fun i hi => ?_⟩
        simp only [List.length_map, List.length_range] at hi
        obtain ⟨cs, hcs, hin⟩ := hfn i hi
        simp only [List.getElem_map, List.getElem_range]
        refine ⟨cs, fun j u hj => ?_, hin⟩
        obtain ⟨_, hcl, hat⟩ := World.cells?_some hcs
        have hj2 : j < size := by
          have := (List.getElem?_eq_some_iff.1 hj).1
          omega
        have h3 := hat j hj2
        rw [hj] at h3
        rw [hsp, add_none, add_none, Nat.add_assoc] at h3
        exact h3
    · intro x hx
      obtain ⟨i, hi, rfl⟩ := List.mem_map.1 hx
      obtain ⟨cs, _, hin⟩ := hfn i (List.mem_range.1 hi)
      exact ⟨cs, hin⟩
/-- Each number of an edge is an int. -/
def edFit (e : Ed) : Prop := fitsI e.fr ∧ fitsI e.dt ∧ fitsI e.kd ∧ fitsI e.dst ∧ fitsI e.arr ∧ fitsI e.op ∧ fitsI e.av ∧ fitsI e.an ∧ fitsI e.bv ∧ fitsI e.bn
set_option maxRecDepth 100000 in
theorem open_opnd {n : Nat} {cs : List Value} {y : DataW H × List MemPlace} (h : DataW.trod enc Tryz.prog w base sp held n 38 cs = some y) : ∃ v m : Int, cs = [.int .i64 v, .int .i64 m] ∧ fitsI v ∧ fitsI m := by
  obtain ⟨xs, n, rfl, _, hl, hxs, hf⟩ := DataW.trod_struct Tryz.underlying38 h
  have hl2 : cs.length = 2 := hl.trans (by kernel_rfl)
  obtain ⟨c0, c1, rfl⟩ := len2 hl2
  obtain ⟨y0, y1, rfl⟩ := len2 (hxs.trans (by rfl))
  obtain ⟨k, rfl, hk⟩ := i64_of (by kernel_rfl) (one_cell (c := c0) (by kernel_rfl) rfl rfl (hf 0 _ rfl))
  obtain ⟨m, rfl, hm⟩ := i64_of (by kernel_rfl) (one_cell (c := c1) (by kernel_rfl) rfl rfl (hf 1 _ rfl))
  exact ⟨k, m, rfl, fits_wf hk, fits_wf hm⟩
theorem two_cell {n : Nat} {cs : List Value} {t : TypeId} {off : Nat} {r : Option (DataW H × List MemPlace)} {y : DataW H × List MemPlace} {c c' : Value} (hk : Tryz.prog.cellsOf t = 2) (hc : cs[off]? = some c) (hc' : cs[off + 1]? = some c') (hr : r = some y)
    (h : DataW.trod enc Tryz.prog w base sp held n t ((cs.drop off).take (Tryz.prog.cellsOf t)) = r) : DataW.trod enc Tryz.prog w base sp held n t [c, c'] = some y := by
  rw [hk, hr] at h
  have e : (cs.drop off).take 2 = [c, c'] := by
    obtain ⟨hl, he⟩ := List.getElem?_eq_some_iff.1 hc
    obtain ⟨hl', he'⟩ := List.getElem?_eq_some_iff.1 hc'
    rw [List.drop_eq_getElem_cons hl, List.drop_eq_getElem_cons hl', he, he']
    rfl
  rwa [e] at h
theorem len8 {α : Type} {l : List α} (h : l.length = 8) : ∃ a b c d e f g i, l = [a, b, c, d, e, f, g, i] := by
  match l, h with
  | [a, b, c, d, e, f, g, i], _ => exact ⟨a, b, c, d, e, f, g, i, rfl⟩
theorem len10 {α : Type} {l : List α} (h : l.length = 10) : ∃ a b c d e f g i j k, l = [a, b, c, d, e, f, g, i, j, k] := by
  match l, h with
  | [a, b, c, d, e, f, g, i, j, k], _ => exact ⟨a, b, c, d, e, f, g, i, j, k, rfl⟩
set_option maxRecDepth 100000 in
theorem open_edge {n : Nat} {cs : List Value} {y : DataW H × List MemPlace} (h : DataW.trod enc Tryz.prog w base sp held n 40 cs = some y) : ∃ e : Ed, cs = edV e ∧ edFit e := by
  obtain ⟨xs, n, rfl, _, hl, hxs, hf⟩ := DataW.trod_struct Tryz.underlying40 h
  have hl2 : cs.length = 10 := hl.trans (by kernel_rfl)
  obtain ⟨c0, c1, c2, c3, c4, c5, c6, c7, c8, c9, rfl⟩ := len10 hl2
  obtain ⟨y0, y1, y2, y3, y4, y5, y6, y7, rfl⟩ := len8 (hxs.trans (by rfl))
  obtain ⟨k0, rfl, h0⟩ := i64_of (by kernel_rfl) (one_cell (c := c0) (by kernel_rfl) rfl rfl (hf 0 _ rfl))
  obtain ⟨k1, rfl, h1⟩ := i64_of (by kernel_rfl) (one_cell (c := c1) (by kernel_rfl) rfl rfl (hf 1 _ rfl))
  obtain ⟨k2, rfl, h2⟩ := i64_of (by kernel_rfl) (one_cell (c := c2) (by kernel_rfl) rfl rfl (hf 2 _ rfl))
  obtain ⟨k3, rfl, h3⟩ := i64_of (by kernel_rfl) (one_cell (c := c3) (by kernel_rfl) rfl rfl (hf 3 _ rfl))
  obtain ⟨k4, rfl, h4⟩ := i64_of (by kernel_rfl) (one_cell (c := c4) (by kernel_rfl) rfl rfl (hf 4 _ rfl))
  obtain ⟨k5, rfl, h5⟩ := i64_of (by kernel_rfl) (one_cell (c := c5) (by kernel_rfl) rfl rfl (hf 5 _ rfl))
  obtain ⟨v, m, e1, f1, f2⟩ := open_opnd (two_cell (c := c6) (c' := c7) (by kernel_rfl) rfl rfl rfl (hf 6 _ rfl))
  obtain ⟨v', m', e2, f3, f4⟩ := open_opnd (two_cell (c := c8) (c' := c9) (by kernel_rfl) rfl rfl rfl (hf 7 _ rfl))
  obtain ⟨rfl, rfl⟩ : c6 = .int .i64 v ∧ c7 = .int .i64 m := by simpa using e1
  obtain ⟨rfl, rfl⟩ : c8 = .int .i64 v' ∧ c9 = .int .i64 m' := by simpa using e2
  exact ⟨⟨k0, k1, k2, k3, k4, k5, v, m, v', m'⟩, rfl, fits_wf h0, fits_wf h1, fits_wf h2, fits_wf h3, fits_wf h4, fits_wf h5, f1, f2, f3, f4⟩
set_option maxRecDepth 100000 in
theorem open_decl {n : Nat} {cs : List Value} {y : DataW H × List MemPlace} (h : DataW.trod enc Tryz.prog w base sp held n 96 cs = some y) : ∃ d : Nd, d.ty = .D ∧ NdIn w d cs := by
  obtain ⟨xs, n, rfl, _, hl, hxs, hf⟩ := DataW.trod_struct Tryz.underlying96 h
  have hl2 : cs.length = 2 := hl.trans (by kernel_rfl)
  obtain ⟨c0, c1, rfl⟩ := len2 hl2
  obtain ⟨y0, y1, rfl⟩ := len2 (hxs.trans (by rfl))
  obtain ⟨s, rfl, hs⟩ := str_of (one_cell (c := c0) (by kernel_rfl) rfl rfl (hf 0 _ rfl))
  obtain ⟨k, rfl, hk⟩ := i64_of (by kernel_rfl) (one_cell (c := c1) (by kernel_rfl) rfl rfl (hf 1 _ rfl))
  refine ⟨.mk .D 0 k s [] [] [] [], rfl, ?_⟩
  unfold NdIn
  exact ⟨⟨rfl, rfl, rfl, rfl, rfl⟩, ok0, hk, hs, .slice none 0 0, .slice none 0 0, .slice none 0 0, .slice none 0 0, rfl, sl0 w .E, sl0 w .C, sl0 w .S, sl0 w .S⟩
/-- How long a graph's rows may be, and that its numbers are ints. -/
structure GrZ (g : Gf) : Prop where
  v : g.vs.length * 16 ≤ reachBytes
  a : g.ar.length * 24 ≤ reachBytes
  e : g.es.length * 80 ≤ reachBytes
  tmp : fitsI g.tmp
  pts : fitsI g.pts
  ext : fitsI g.ext
  ed : ∀ x ∈ g.es, edFit x
variable {r : Reach} {b0 : Nat}
set_option maxRecDepth 100000 in
theorem arg_cfg {v : Value} {d : DataW H} {p : List MemPlace} (hval : Value.okWide Tryz.prog w r b0 30 v) (h : DataW.Trod enc Tryz.prog w base sp held 30 v d p) (hz : ∀ m ∈ d.weights Tryz.prog 30, m ≤ reachBytes) :
    ∃ (g : Gf) (av aa ae : Option Addr) (cv ca ce : Nat), v = grS g av cv aa ca ae ce ∧ GrIn w g (.slice av g.vs.length cv) (.slice aa g.ar.length ca) (.slice ae g.es.length ce) ∧ GrZ g := by
  obtain ⟨cs, rfl, _⟩ := okWide_struct Tryz.underlying30 hval
  obtain ⟨fuel, hf⟩ := h
  obtain ⟨xs, n, rfl, hx, hl, hxs, hff⟩ := DataW.trod_struct Tryz.underlying30 hf
  obtain rfl : d = .agg (xs.map (·.1)) := congrArg Prod.fst hx
  have hl6 : cs.toList.length = 6 := hl.trans (by kernel_rfl)
  obtain ⟨c0, c1, c2, c3, c4, c5, hcs⟩ := len6 hl6
  simp only [Value.cells] at hff
  rw [hcs] at hff
  obtain ⟨y0, y1, y2, y3, y4, y5, rfl⟩ := len6 (hxs.trans (by rfl))
  have hzz : ∀ (j : Nat) (t : TypeId) (y : DataW H), ([27, 3, 22, 3, 3, 28] : List TypeId)[j]? = some t → ([y0.1, y1.1, y2.1, y3.1, y4.1, y5.1] : List (DataW H))[j]? = some y → ∀ m ∈ y.weights Tryz.prog t, m ≤ reachBytes := fun j t y ht hy m hm => by
    refine hz m ?_
    simp only [DataW.weights, Tryz.underlying30]
    exact DataW.weights_mem_each (ts := [27, 3, 22, 3, 3, 28]) ht hy m hm
  have k0 := one_cell (c := c0) (by kernel_rfl) rfl rfl (hff 0 _ rfl)
  have k2 := one_cell (c := c2) (by kernel_rfl) rfl rfl (hff 2 _ rfl)
  have k5 := one_cell (c := c5) (by kernel_rfl) rfl rfl (hff 5 _ rfl)
  have z0 := hzz 0 _ _ rfl rfl
  have z2 := hzz 2 _ _ rfl rfl
  have z5 := hzz 5 _ _ rfl rfl
  obtain ⟨tmp, rfl, h1⟩ := i64_of (by kernel_rfl) (one_cell (c := c1) (by kernel_rfl) rfl rfl (hff 1 _ rfl))
  obtain ⟨pts, rfl, h3⟩ := i64_of (by kernel_rfl) (one_cell (c := c3) (by kernel_rfl) rfl rfl (hff 3 _ rfl))
  obtain ⟨ext, rfl, h4⟩ := i64_of (by kernel_rfl) (one_cell (c := c4) (by kernel_rfl) rfl rfl (hff 4 _ rfl))
  haveI : Inhabited ByteArray := ⟨⟨#[]⟩⟩
  haveI : Inhabited Ed := ⟨noE⟩
  obtain ⟨vs, hvs, -⟩ := open_any (α := ByteArray) (size := 1) (R := fun s cs => cs = [.string s]) Tryz.underlying27 (by kernel_rfl) (by decide) (fun n cs y hy _ hlen => by
    obtain ⟨c, rfl⟩ : ∃ c, cs = [c] := by
      match cs, hlen with
      | [c], _ => exact ⟨c, rfl⟩
    obtain ⟨s, rfl, -⟩ := str_of hy
    exact ⟨s, rfl⟩) k0 z0
  haveI : Inhabited Nd := ⟨.mk .E 0 0 ⟨#[]⟩ [] [] [] []⟩
  obtain ⟨ar, har0, -⟩ := open_any (α := Nd) (size := 2) (R := fun d cs => d.ty = .D ∧ NdIn w d cs) Tryz.underlying22 (by kernel_rfl) (by decide) (fun n cs y hy _ _ => open_decl hy) k2 z2
  have har : SlIn w .D ar c2 := SlOf.mono har0 fun b o hr => RowIn.of _ _ _ fun i hi => by
    obtain ⟨cs, h1, h2, h3⟩ := hr i hi
    exact ⟨h2, cs, fun j u hj => by have := h1 j u hj; rwa [← Nat.add_assoc] at this, h3⟩
  obtain ⟨es, hes, hfit⟩ := open_any (α := Ed) (size := 10) (R := fun e cs => cs = edV e ∧ edFit e) Tryz.underlying28 (by kernel_rfl) (by decide) (fun n cs y hy _ _ => open_edge hy) k5 z5
  obtain ⟨av, cv, rfl, hv1, hv2, hv3⟩ := hvs
  obtain ⟨ae, ce, rfl, he1, he2, he3⟩ := hes
  have har' := har
  obtain ⟨aa, ca, rfl, -⟩ := har'
  have s0 := slice_size Tryz.underlying27 (bytes := 16) (by kernel_rfl) k0 z0
  have s2 := slice_size Tryz.underlying22 (bytes := 24) (by kernel_rfl) k2 z2
  have s5 := slice_size Tryz.underlying28 (bytes := 80) (by kernel_rfl) k5 z5
  refine ⟨⟨vs, tmp, ar, pts, ext, es⟩, av, aa, ae, cv, ca, ce, congrArg Value.agg (Array.ext' hcs), ⟨⟨av, cv, rfl, hv1, hv3.imp id ?_⟩, har, ⟨ae, ce, rfl, he1, he2, he3.imp id ?_⟩, Nat.le_trans hv1 hv2⟩, ⟨s0, s2, s5, fits_wf h1, fits_wf h3, fits_wf h4, fun x hx => ?_⟩⟩
  · rintro ⟨b, o, h5, h6⟩
    refine ⟨b, o, h5, fun i hi => ?_⟩
    obtain ⟨cs, h7, h8⟩ := h6 i hi
    subst h8
    have := h7 0 _ rfl
    rwa [Nat.mul_one, Nat.add_zero] at this
  · rintro ⟨b, o, h5, h6⟩
    refine ⟨b, o, h5, fun i hi j u hu => ?_⟩
    obtain ⟨cs, h7, rfl, -⟩ := h6 i hi
    exact h7 j u hu
  · obtain ⟨cs, -, h⟩ := hfit x hx
    exact h
end
/-- The types of graphs, and their parts'. -/
def grT : List TypeId := [30, 27, 9, 3, 2, 22, 96, 28, 40, 38]
set_option maxRecDepth 100000 in
theorem plainGr : PlainAll Tryz.prog (fun t => t ∈ grT) := by
  have h : (grT.all fun t => match Tryz.prog.underlying t with
    | some .bool => true
    | some (.int _) => true
    | some .string => true
    | some (.slice e) => grT.contains e && decide (0 < Tryz.prog.cellsOf e)
    | some (.struct fs) => fs.toList.all fun f => grT.contains f.type
    | _ => false) = true := by kernel_rfl
  intro t ht
  have h2 := List.all_eq_true.1 h t ht
  unfold GoodT
  clear h
  split at h2
  case h_5 fs heq =>
    try rw [heq]
    intro f hf
    have := List.all_eq_true.1 h2 f hf
    simpa using this
  all_goals simp_all
end Go.Proofs.YtjpopelbdhgidaaGreatDoor
