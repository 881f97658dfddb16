/-
  WellParts (P6.3): proved is that gnomonlaw6.WellParts answers true for every program and every two numbers, and all three read as they did.
  Conditions: none but the row's own.
-/
import Derived.Test.YtofbocmbgadfnaaWellJ2
import Derived.Deep.RegionWith
import Derived.Test.YtofbocmbgadfnaaTreeArg
import Derived.Test.YtofbocmbgadfnaaRows
import Derived.ProofKit
import Derived.OpenShut
import Derived.Deep.DeepHandedRow
import Derived.Deep.DeepWitnessRowRef
import Derived.SizedLaws
import Derived.LaidMore
/-
  WellParts' own walk: proved is that it answers true for every program that lies in memory and every two numbers, and that it turns nothing that lay.
-/
namespace Go.Proofs.Ytofbocmbgadfnaa
open Go Go.RowKit Go.Maps

/-- A part of a list that lies at a slice. -/
theorem SlIn.part {w : World} {ty : Ty} {l : List Nd} {b o c F G : Nat} (hr : RowIn w ty l b o) (hF : F + G ≤ l.length) (hc : F + G ≤ c) (hm : c ≤ maxLen) : SlIn w ty ((l.drop F).take G) (.slice (some ⟨b, o + F * ty.size, none⟩) G (c - F)) := by
  have hl : ((l.drop F).take G).length = G := by rw [List.length_take, List.length_drop]; omega
  refine ⟨some ⟨b, o + F * ty.size, none⟩, c - F, by rw [hl], by omega, by omega, .inr ⟨b, _, rfl, ?_⟩⟩
  refine RowIn.of _ b _ (fun j hj => ?_)
  have hj2 : F + j < l.length := by omega
  have h := RowIn.at l b o (F + j) hj2 hr
  have e : ((l.drop F).take G)[j] = l[F + j] := by rw [List.getElem_take, List.getElem_drop]
  rw [e]
  obtain ⟨h1, vs, h2, h3⟩ := h
  refine ⟨h1, vs, fun q u hq => ?_, h3⟩
  have := h2 q u hq
  rwa [show o + (F + j) * ty.size + q = o + F * ty.size + j * ty.size + q by rw [Nat.add_mul]; omega] at this
theorem SlIn.empty (w : World) (ty : Ty) (a : Option Addr) (c : Nat) (hc : c ≤ maxLen) : SlIn w ty [] (.slice a 0 c) := ⟨a, c, rfl, Nat.zero_le _, hc, .inl rfl⟩
theorem size_stmt (w : World) : (sizeOf (Try.prog.elem 23)).run Try.prog w = .ok 6 w := by kernel_rfl
theorem slice_part {w : World} {l : List Nd} {a : Option Addr} {c F T : Nat} (hs : SlIn w .S l (.slice a l.length c)) (hFT : F ≤ T) (hT : T ≤ l.length) : ∃ SV, (∀ wx, (Instr.sliceAt 23 (.slice a l.length c) (some (.int .i64 (F : Int))) (some (.int .i64 (T : Int))) none).run Try.prog wx = .ok SV wx) ∧ SlIn w .S ((l.drop F).take (T - F)) SV := by
  obtain ⟨a', c', he, hlc, hcm, hr⟩ := hs
  simp only [Value.slice.injEq, true_and] at he
  obtain ⟨rfl, rfl⟩ := he
  refine ⟨sliced a F T c 6, fun wx => ?_, ?_⟩
  · have hund : Try.prog.underlying 23 = some (.slice (Try.prog.elem 23)) := by kernel_rfl
    rw [run_sliceAt_slice wx _ _ _ _ _ hund, run_slice_lh wx _ _ _ _ hund _ _ _ _ (by omega) (by omega) (by omega), size_stmt]
    rfl
  · unfold sliced
    have hl : ((l.drop F).take (T - F)).length = T - F := by rw [List.length_take, List.length_drop]; omega
    by_cases h0 : T - F = 0
    · exact ⟨_, c - F, by rw [hl], by omega, by omega, .inl (by rw [hl]; exact h0)⟩
    · obtain ⟨b, o, rfl, hrow⟩ := hr.resolve_left (by omega)
      rw [if_neg (by omega)]
      simp only [Option.map_some, add_none]
      exact SlIn.part (ty := .S) hrow (by omega) (by omega) hcm

set_option maxRecDepth 100000 in
set_option maxHeartbeats 8000000 in
theorem wparts_any (ds ss : List Nd) (v0 v1 : Value) (f t : Int) (w : World) (hd : SlIn w .D ds v0) (hs : SlIn w .S ss v1) :
    Calls Try.prog 4 #[.agg #[v0, v1], .int .i64 f, .int .i64 t] w (fun e w' => e = .returned (.bool true) ∧ Below w.heap.size w w') := by
  have HK := Lib.hid wknown_any
  have hc := fun w1 (hb : Below w.heap.size w w1) => wcheck_any ds ss v0 v1 w1 (hd.keep (keeps_below hb)) (hs.keep (keeps_below hb))
  have hv := fun w1 (hb : Below w.heap.size w w1) => wvars_any ds ss v0 v1 w1 (hd.keep (keeps_below hb)) (hs.keep (keeps_below hb))
  have ha := fun w1 (hb : Below w.heap.size w w1) => warrs_any ds ss v0 v1 w1 (hd.keep (keeps_below hb)) (hs.keep (keeps_below hb))
  have hfd := fit_list hd
  have hnd := noD_list hs
  have hfew := fun h => names_few hfd hnd (fault_lim (wellP_ok (ds := ds) (ss := ss) h).1)
  have hpart := fun (a b c : List Nd) (e : ss = a ++ (b ++ c)) (h : (wellP ds ss).2 = 0) => well_part (ds := ds) (a := a) (b := b) (c := c) (by rw [← e]; exact h)
  unfold ListTo at hv ha
  obtain ⟨⟨WN, WE⟩, hW⟩ : ∃ p, wellP ds ss = p := ⟨_, rfl⟩
  simp only [hW] at hc hv ha hfew hpart
  clear hW hnd hfd
  have HD := Lib.hid hd
  have HS := Lib.hid hs
  obtain ⟨a0, c0, rfl, -⟩ := hd
  obtain ⟨a1, c1, rfl, hlc1, hcm1, hrow1⟩ := hs
  have HROW := Lib.hid hrow1; clear hrow1
  obtain ⟨W1, hW1⟩ : ∃ W1, w.alloc (.cells #[.slice a0 ds.length c0, .slice a1 ss.length c1] 25) = W1 := ⟨_, rfl⟩
  have hal : Below w.heap.size w W1 := by rw [← hW1]; exact (Below.refl _ w).alloc (Nat.le_refl _) _
  have hX1 : Blk W1 w.heap.size #[.slice a0 ds.length c0, .slice a1 ss.length c1] 25 := by rw [← hW1]; exact Blk.new w _ _
  have x0 : W1.cell? ⟨w.heap.size, 0, none⟩ = some (.slice a0 ds.length c0) := hX1.cell 0
  have y0 : W1.cell? ⟨w.heap.size, 1, none⟩ = some (.slice a1 ss.length c1) := hX1.cell 1
  have HX1 := Lib.hid hX1; clear hX1
  have HAL := Lib.hid hal; clear hal
  have HW1 := Lib.hid hW1; clear hW1
  have HC := Lib.hid hc; clear hc
  have HV0 := Lib.hid hv; clear hv
  have HA0 := Lib.hid ha; clear ha
  have HFEW := Lib.hid hfew; clear hfew
  have HPART := Lib.hid hpart; clear hpart
  go_enter Try.func4, Try.ntmps4
  go_upto_region 1 with fail
  rw [HW1.out]
  clear HW1
  by_cases hz : WE = 0
  · subst hz
    by_cases hf : f < 0
    · have hf1 : decide (f < 0) = true := by simpa using hf
      clear hf
      go_wp2_with (first | (go_at_call 6; (with_reducible refine (HK.out _).mono ?_); rintro e w1 ⟨rfl, hb1⟩; have HA1 := Lib.hid (hb1); have x1 := (HX1.out.below HA1.out HX1.out.lt).cell 0; have y1 := (HX1.out.below HA1.out HX1.out.lt).cell 1; simp at x1 y1; clear hb1) | (go_at_call 7; (with_reducible refine (HC.out _ (below_next HAL.out HA1.out)).mono ?_); rintro e w2 ⟨rfl, hb2⟩; have HA2 := Lib.hid (below_next HA1.out hb2); have x2 := (HX1.out.below HA2.out HX1.out.lt).cell 0; have y2 := (HX1.out.below HA2.out HX1.out.lt).cell 1; simp at x2 y2; clear hb2) | fail)
      go_ret
      exact ⟨rfl, below_next HAL.out HA2.out⟩
    · have hf1 : decide (f < 0) = false := by simpa using hf
      obtain ⟨F, rfl⟩ : ∃ F : Nat, f = (F : Int) := ⟨f.toNat, by omega⟩
      clear hf hf1
      by_cases ht : t < (F : Int)
      · have ht1 : decide (t < (F : Int)) = true := by simpa using ht
        clear ht
        go_wp2_with (first | (go_at_call 6; (with_reducible refine (HK.out _).mono ?_); rintro e w1 ⟨rfl, hb1⟩; have HA1 := Lib.hid (hb1); have x1 := (HX1.out.below HA1.out HX1.out.lt).cell 0; have y1 := (HX1.out.below HA1.out HX1.out.lt).cell 1; simp at x1 y1; clear hb1) | (go_at_call 7; (with_reducible refine (HC.out _ (below_next HAL.out HA1.out)).mono ?_); rintro e w2 ⟨rfl, hb2⟩; have HA2 := Lib.hid (below_next HA1.out hb2); have x2 := (HX1.out.below HA2.out HX1.out.lt).cell 0; have y2 := (HX1.out.below HA2.out HX1.out.lt).cell 1; simp at x2 y2; clear hb2) | fail)
        go_ret
        exact ⟨rfl, below_next HAL.out HA2.out⟩
      · obtain ⟨G, rfl⟩ : ∃ G : Nat, t = (G : Int) := ⟨t.toNat, by omega⟩
        have hFG : F ≤ G := by omega
        clear ht
        have ht1 : decide (G < F) = false := decide_eq_false (by omega)
        by_cases hg : ss.length < G
        · have hg2 : decide (ss.length < G) = true := by simpa using hg
          clear hg
          go_wp2_with (first | (go_at_call 6; (with_reducible refine (HK.out _).mono ?_); rintro e w1 ⟨rfl, hb1⟩; have HA1 := Lib.hid (hb1); have x1 := (HX1.out.below HA1.out HX1.out.lt).cell 0; have y1 := (HX1.out.below HA1.out HX1.out.lt).cell 1; simp at x1 y1; clear hb1) | (go_at_call 7; (with_reducible refine (HC.out _ (below_next HAL.out HA1.out)).mono ?_); rintro e w2 ⟨rfl, hb2⟩; have HA2 := Lib.hid (below_next HA1.out hb2); have x2 := (HX1.out.below HA2.out HX1.out.lt).cell 0; have y2 := (HX1.out.below HA2.out HX1.out.lt).cell 1; simp at x2 y2; clear hb2) | fail)
          go_ret
          exact ⟨rfl, below_next HAL.out HA2.out⟩
        · have hg2 : decide (ss.length < G) = false := by simpa using hg
          have hg3 : G ≤ ss.length := by omega
          clear hg
          have hfew := HFEW.out (by simp)
          have hdl : ds.length ≤ 4096 := by omega
          have hv := HV0.out
          have ha := HA0.out
          simp only [if_true] at hv ha
          have hva := vars_arrs ds
          obtain ⟨VL, hVL⟩ : ∃ l, varsL ds = l := ⟨_, rfl⟩
          obtain ⟨AL, hAL⟩ : ∃ l, arrsL ds = l := ⟨_, rfl⟩
          rw [hVL] at hv hva
          rw [hAL] at ha hva
          clear hVL hAL hfew
          have HV := Lib.hid hv; clear hv
          have HA := Lib.hid ha; clear ha HV0 HA0
          have hvl : VL.length ≤ 4096 := by omega
          have hal : AL.length ≤ 4096 := by omega
          have hsum : ((VL.length : Int) + (AL.length : Int) == (ds.length : Int)) = true := by simp; omega
          clear hva
          have hsub := HPART.out (ss.take F) ((ss.drop F).take (G - F)) (ss.drop G) (by rw [show G = F + (G - F) by omega, ← List.drop_drop, show F + (G - F) - F = G - F by omega, List.take_append_drop, List.take_append_drop]) (by simp)
          obtain ⟨SUB, hSUB⟩ : ∃ l, (ss.drop F).take (G - F) = l := ⟨_, rfl⟩
          rw [hSUB] at hsub
          have hcs := fun (v : Value) w1 (hb : Below w.heap.size w w1) (hsl : SlIn w .S SUB v) => wcheck_any ds SUB _ v w1 (HD.out.keep (keeps_below hb)) (hsl.keep (keeps_below hb))
          obtain ⟨⟨SN, SE⟩, hSW⟩ : ∃ p, wellP ds SUB = p := ⟨_, rfl⟩
          simp only [hSW] at hsub hcs
          subst hsub
          have HCS := Lib.hid hcs; clear hcs hSW
          have HSUB := Lib.hid hSUB; clear hSUB
          have hic : (F : Int) ≤ c1 := by omega
          go_upto_region 8 with (first | (go_at_call 6; (with_reducible refine (HK.out _).mono ?_); rintro e w1 ⟨rfl, hb1⟩; have HA1 := Lib.hid (hb1); have x1 := (HX1.out.below HA1.out HX1.out.lt).cell 0; have y1 := (HX1.out.below HA1.out HX1.out.lt).cell 1; simp at x1 y1; clear hb1) | (go_at_call 7; (with_reducible refine (HC.out _ (below_next HAL.out HA1.out)).mono ?_); rintro e w2 ⟨rfl, hb2⟩; have HA2 := Lib.hid (below_next HA1.out hb2); have x2 := (HX1.out.below HA2.out HX1.out.lt).cell 0; have y2 := (HX1.out.below HA2.out HX1.out.lt).cell 1; simp at x2 y2; clear hb2) | (go_at_call 9; (with_reducible refine (HV.out _ (below_next HAL.out HA2.out)).mono ?_); rintro e w3 ⟨vv, rfl, hOv, hb3⟩; have HA3 := Lib.hid (below_next HA2.out hb3); have x3 := (HX1.out.below HA3.out HX1.out.lt).cell 0; have y3 := (HX1.out.below HA3.out HX1.out.lt).cell 1; simp at x3 y3; obtain ⟨av, cv, rfl, -⟩ := own_cells hOv; clear hOv; clear hb3) | (go_at_call 10; (with_reducible refine (HA.out _ (below_next HAL.out HA3.out)).mono ?_); rintro e w4 ⟨va, rfl, hOa, hb4⟩; have HA4 := Lib.hid (below_next HA3.out hb4); have x4 := (HX1.out.below HA4.out HX1.out.lt).cell 0; have y4 := (HX1.out.below HA4.out HX1.out.lt).cell 1; simp at x4 y4; obtain ⟨aa, ca, rfl, -⟩ := own_cells hOa; clear hOa; clear hb4) | fail)
          have hX4 := HX1.out.below HA4.out HX1.out.lt
          have HX4 := Lib.hid (show Blk w4.drew w.heap.size _ _ from hX4); clear hX4
          have HBW := Lib.hid ((below_next HAL.out HA4.out).drew)
          by_cases hcf : c1 = F
          · have hGF : G = F := by omega
            subst hGF
            subst hcf
            have hsl : SlIn w .S SUB (.slice a1 0 0) := by rw [← HSUB.out, Nat.sub_self, List.take_zero]; exact SlIn.empty w .S a1 0 (Nat.zero_le _)
            have HC8 := Lib.hid (HCS.out _ w4.drew HBW.out hsl); clear hsl
            clear HV HA HCS
            go_region_with (go_at_call 7; (with_reducible refine HC8.out.mono ?_); rintro e w8 ⟨rfl, hb8⟩)
            all_goals
              have x8 := (HX4.out.below hb8 HX4.out.lt).cell 0
              simp at x8
              go_wp2_with fail
              go_ret
              exact ⟨rfl, below_next (below_next HAL.out HA4.out).drew hb8⟩
          · by_cases hGF : G = F
            · subst hGF
              have hsl : SlIn w .S SUB (.slice (a1.map (fun x => x.add (G * 6))) 0 (c1 - G)) := by rw [← HSUB.out, Nat.sub_self, List.take_zero]; exact SlIn.empty w .S _ _ (by omega)
              have HC8 := Lib.hid (HCS.out _ w4.drew HBW.out hsl); clear hsl
              clear HV HA HCS
              go_region_with (go_at_call 7; (with_reducible refine HC8.out.mono ?_); rintro e w8 ⟨rfl, hb8⟩)
              all_goals
                have x8 := (HX4.out.below hb8 HX4.out.lt).cell 0
                simp at x8
                go_wp2_with fail
                go_ret
                exact ⟨rfl, below_next (below_next HAL.out HA4.out).drew hb8⟩
            · have hxl : ¬ ss.length = 0 := by omega
              obtain ⟨b, o, rfl, hrow⟩ := HROW.out.resolve_left hxl
              have hsl : SlIn w .S SUB (.slice (some ⟨b, o + F * 6, none⟩) (G - F) (c1 - F)) := by rw [← HSUB.out]; exact SlIn.part (ty := .S) hrow (by omega) (by omega) hcm1
              have HC8 := Lib.hid (HCS.out _ w4.drew HBW.out hsl); clear hsl hrow
              clear HV HA HCS
              go_region_with (go_at_call 7; (with_reducible refine HC8.out.mono ?_); rintro e w8 ⟨rfl, hb8⟩)
              all_goals
                have x8 := (HX4.out.below hb8 HX4.out.lt).cell 0
                simp at x8
                go_wp2_with fail
                go_ret
                exact ⟨rfl, below_next (below_next HAL.out HA4.out).drew hb8⟩
  · have hz1 : (WE != 0) = true := by simpa using hz
    clear hz
    go_wp2_with (first | (go_at_call 6; (with_reducible refine (HK.out _).mono ?_); rintro e w1 ⟨rfl, hb1⟩; have HA1 := Lib.hid (hb1); have x1 := (HX1.out.below HA1.out HX1.out.lt).cell 0; have y1 := (HX1.out.below HA1.out HX1.out.lt).cell 1; simp at x1 y1; clear hb1) | (go_at_call 7; (with_reducible refine (HC.out _ (below_next HAL.out HA1.out)).mono ?_); rintro e w2 ⟨rfl, hb2⟩; have HA2 := Lib.hid (below_next HA1.out hb2); have x2 := (HX1.out.below HA2.out HX1.out.lt).cell 0; have y2 := (HX1.out.below HA2.out HX1.out.lt).cell 1; simp at x2 y2; clear hb2) | fail)
    go_ret
    exact ⟨rfl, below_next HAL.out HA2.out⟩
end Go.Proofs.Ytofbocmbgadfnaa

/-
  WellParts (P6.3): proved is that gnomonlaw6.WellParts answers true for every program and every two numbers, and all three read as they did.
  Conditions: none but the row's own.
-/
namespace Go.Proofs.Ytofbocmbgadfnaa.wellParts
open Go Go.ChangeShapes Go.WideShapes Go.ChangeAt Go.RowKit Go.Lib

theorem own : ownKnob Try.prog.godebug = none := by kernel_rfl

set_option maxRecDepth 100000 in
/-- What the walk gives, for every argument and every world. -/
theorem contract (H : Type) (enc : TypeId × Value → H) (W : World) (base : Nat) (args : Array Value) (ds gs : List (DataW H)) (before : List MemPlace)
    (hval : ∀ (j : Nat) t v, Try.f4.params[j]? = some t → args[j]? = some v → Value.okWide Try.prog W .any base t v)
    (hW : DataW.Whole enc Try.prog Try.f4.params.toList Rows.wellPartsSpec.vars false W args.toList ds gs before) :
    Calls Try.prog 4 args W fun e W' => ∃ v, e = .returned v ∧ Rows.wellPartsSpec.post enc Try.prog Try.f4 false true false false W args v W' := by
  have hW' := hW
  obtain ⟨p, q, hA0, hV, rfl, hfz, hnd⟩ := hW
  have hA : DataW.TrodAll enc Try.prog W 0 (fun _ => true) true Try.f4.params.toList args.toList ds p := hA0
  rw [Try.params4] at hA hval
  obtain ⟨v0, vs0, d0, ds0, p0, q0, hargs, rfl, rfl, h0, r0⟩ := trodAll_cons hA
  obtain ⟨v1, vs1, d1, ds1, p1, q1, rfl, rfl, rfl, h1, r1⟩ := trodAll_cons r0
  obtain ⟨v2, vs2, d2, ds2, p2, q2, rfl, rfl, rfl, h2, r2⟩ := trodAll_cons r1
  obtain ⟨rfl, rfl, rfl⟩ := trodAll_nil r2
  obtain rfl : args = #[v0, v1, v2] := by cases args; simp_all
  obtain ⟨rfl, rfl⟩ := trodVars_none hV
  obtain ⟨x0, y0, a0, b0, rfl, hd0, hs0⟩ := arg_prog (hval 0 _ v0 rfl rfl) h0
  obtain ⟨n1, rfl, rfl, rfl, -⟩ := open_int Try.underlying3 (hval 1 3 v1 rfl rfl) h1
  obtain ⟨n2, rfl, rfl, rfl, -⟩ := open_int Try.underlying3 (hval 2 3 v2 rfl rfl) h2
  clear hA0
  refine (wparts_any x0 y0 a0 b0 n1 n2 W hd0 hs0).mono fun e W' ⟨he, hb⟩ => ?_
  subst he
  refine ⟨_, rfl, post_trueT (tb := 4) plainAll ?_ rfl (by kernel_rfl) (by kernel_rfl) Try.underlying4 rfl hW' hb⟩
  rw [Try.params4]
  intro t ht
  have hall : ([25, 3, 3].all fun u => treeT.contains u) = true := by kernel_rfl
  simpa using List.all_eq_true.1 hall t (by simpa using ht)

theorem reads (os : Os) {H : Type} (enc : TypeId × Value → H) : ∃ ds places, DataW.whole enc Try.prog ((World.holding Try.prog os ⟨#[], #[], []⟩).forCall (fun _ _ => 0) ⟨#[], #[.agg #[.slice none 0 0, .slice none 0 0], .int .i64 0, .int .i64 0], []⟩).memory Try.f4.params.toList Rows.wellPartsSpec.vars false #[.agg #[.slice none 0 0, .slice none 0 0], .int .i64 0, .int .i64 0].toList 8 = some (ds, [], places) :=
  ⟨[.agg [.nil, .nil], .lit (.int .i64 0), .lit (.int .i64 0)], [], by kernel_rfl⟩

theorem laid_nil (os : Os) (args : Array Value) : laidMetH Try.prog [] ((World.holding Try.prog os ⟨#[], #[], []⟩).forCall (fun _ _ => 0) ⟨#[], args, []⟩).memory := by
  change laidMet _ [] _
  exact ⟨[], rfl, List.nodup_nil, fun b off h => by cases h⟩

set_option maxRecDepth 100000 in
theorem lifted (os : Os) (started : os.Started) (H : Type) (enc : TypeId × Value → H) (F : Stop.Interp) :
    ReturnsInHanded {} Try.checked os 4 .any ((OpenSpec.ofChange Rows.wellPartsSpec).preRow enc Try.prog Try.f4 Rows.wellPartsRow.domain false Rows.wellPartsRow.laid) (((OpenSpec.ofChange Rows.wellPartsSpec).at F).post enc Try.prog Try.f4 false true false false) := by
  obtain ⟨ds, places, hx⟩ := reads os enc
  refine returnsInHanded_of_row (C := Try.checked) (s := OpenSpec.ofChange Rows.wellPartsSpec) own started (by kernel_rfl) Try.func4
    (witness_row_atRef (enc := enc) (C := Try.checked) false (World.holding Try.prog os ⟨#[], #[], []⟩) #[.agg #[.slice none 0 0, .slice none 0 0], .int .i64 0, .int .i64 0] rfl (by kernel_rfl) (by kernel_rfl) (by kernel_rfl)
      (OpenSpec.preRow_of_cond 8 hx (by kernel_rfl) (fun k hk => by cases hk) (by kernel_rfl) (laid_nil os _))) ?_
  intro W base args ds gs before hval hW _ _ hsz hL _ _
  exact contract H enc W base args ds gs before hval hW

theorem said : Rows.WellPartsSaid :=
  OpenClaim.holds_of_cond 4 Try.f4 rfl rfl rfl rfl rfl rfl rfl ⟨rfl, rfl, rfl, rfl, rfl⟩ rfl rfl rfl rfl rfl (by kernel_rfl) Try.func4 (by kernel_rfl)
    (of_decide_eq_true (by kernel_rfl)) (by unfold Func.isWrapper; first | (rw [if_pos (by decide +kernel)]; kernel_rfl) | (rw [if_neg (by decide +kernel)]; exact ⟨rfl, rfl⟩))
    (fun os started H enc _ F => by rw [OpenClaim.pre_eq_preRow]; exact lifted os started H enc F)
#print axioms said
end Go.Proofs.Ytofbocmbgadfnaa.wellParts
