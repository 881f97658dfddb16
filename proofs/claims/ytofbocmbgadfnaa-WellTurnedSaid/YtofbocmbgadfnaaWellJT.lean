/-
  WellTurned (P6.1): proved is that gnomonlaw6.WellTurned answers true for every program, and the program reads as it did.
  Conditions: none but the row's own.
-/
import Derived.Test.YtofbocmbgadfnaaWellJ2
import Derived.Deep.RegionLaw
import Derived.Test.YtofbocmbgadfnaaTreeArg
import Derived.Test.YtofbocmbgadfnaaRows
import Derived.ProofKit
import Derived.OpenShut
import Derived.Deep.DeepHandedRow
import Derived.Deep.DeepWitnessRowRef
import Derived.SizedLaws
import Derived.LaidMore
/-
  Plain: a program is well just if it is with its declarations the other way round.
-/
namespace Go.Proofs.Ytofbocmbgadfnaa
open Go Go.RowKit Go.Maps

theorem dF_zero (p : List Nd) (x : Nd) : dF p x = 0 ↔ lookL p (dNm x) = 0 ∧ ¬ 1024 < dSz x ∧ ¬ mostK (kD (dSz x)) < (cntK p (kD (dSz x)) : Int) + 1 := by
  unfold dF
  by_cases h1 : lookL p (dNm x) = 0
  · rw [if_neg (by simpa using h1)]
    by_cases h2 : 1024 < dSz x
    · simp [h2]
    · rw [if_neg h2]
      by_cases h3 : mostK (kD (dSz x)) < (cntK p (kD (dSz x)) : Int) + 1
      · simp [h3]
      · simp [h1, h2, h3]
  · simp [h1]
theorem cntK_app (l m : List Nd) (k : Int) : cntK (l ++ m) k = cntK l k + cntK m k := by unfold cntK; rw [List.filter_append, List.length_append]
def Within (l : List Nd) : Prop := cntK l 1 ≤ 32 ∧ cntK l 2 ≤ 16
def Apart (x y : Nd) : Prop := (dNm x).toList ≠ (dNm y).toList
theorem look_zero (p : List Nd) (x : Nd) (s : ByteArray) : lookL (p ++ [x]) s = 0 ↔ (dNm x).toList ≠ s.toList ∧ lookL p s = 0 := by
  rw [lookL_snoc]
  by_cases h : (dNm x).toList = s.toList
  · rw [if_pos (by simpa using h)]
    exact ⟨fun e => absurd e (kD_ne _), fun e => absurd h e.1⟩
  · rw [if_neg (by simpa using h)]
    exact ⟨fun e => ⟨h, e⟩, fun e => e.2⟩
theorem decl_iff : ∀ (r p : List Nd), Within p → ((declW p r).2 = 0 ↔ (∀ x ∈ r, lookL p (dNm x) = 0) ∧ r.Pairwise Apart ∧ (∀ x ∈ r, ¬ 1024 < dSz x) ∧ Within (p ++ r))
  | [], p, hp => by simp [declW, hp]
  | x :: r, p, hp => by
    have hx : (declW p (x :: r)).2 = 0 ↔ dF p x = 0 ∧ (declW (p ++ [x]) r).2 = 0 := by
      rw [declW]
      by_cases h : dF p x = 0
      · rw [if_neg (by simpa using h)]; exact ⟨fun e => ⟨h, e⟩, fun e => e.2⟩
      · rw [if_pos h]; exact ⟨fun e => absurd e h, fun e => absurd e.1 h⟩
    rw [hx, dF_zero]
    have happ : p ++ [x] ++ r = p ++ (x :: r) := by simp
    have hc1 := cntK_snoc p x 1
    have hc2 := cntK_snoc p x 2
    constructor
    · rintro ⟨⟨h1, h2, h3⟩, h4⟩
      have hw : Within (p ++ [x]) := by
        obtain ⟨q1, q2⟩ := hp
        rcases kD_cases (dSz x) with e | e
        · rw [e] at h3 hc1 hc2
          rw [show mostK 1 = 32 from rfl] at h3
          simp at hc1 hc2
          exact ⟨by omega, by omega⟩
        · rw [e] at h3 hc1 hc2
          rw [show mostK 2 = 16 from rfl] at h3
          simp at hc1 hc2
          exact ⟨by omega, by omega⟩
      obtain ⟨g1, g2, g3, g4⟩ := (decl_iff r (p ++ [x]) hw).1 h4
      refine ⟨fun y hy => ?_, List.pairwise_cons.2 ⟨fun y hy => ((look_zero p x _).1 (g1 y hy)).1, g2⟩, fun y hy => ?_, by rw [happ] at g4; exact g4⟩
      · rcases List.mem_cons.1 hy with rfl | hy
        · exact h1
        · exact ((look_zero p x _).1 (g1 y hy)).2
      · rcases List.mem_cons.1 hy with rfl | hy
        · exact h2
        · exact g3 y hy
    · rintro ⟨h1, h2, h3, h4⟩
      obtain ⟨k1, k2⟩ := List.pairwise_cons.1 h2
      have hw : Within (p ++ [x]) := by
        rw [← happ] at h4
        obtain ⟨q1, q2⟩ := h4
        rw [cntK_app] at q1 q2
        exact ⟨by omega, by omega⟩
      refine ⟨⟨h1 x List.mem_cons_self, h3 x List.mem_cons_self, ?_⟩, (decl_iff r (p ++ [x]) hw).2 ⟨fun y hy => (look_zero p x _).2 ⟨k1 y hy, h1 y (List.mem_cons_of_mem _ hy)⟩, k2, fun y hy => h3 y (List.mem_cons_of_mem _ hy), by rw [happ]; exact h4⟩⟩
      obtain ⟨q1, q2⟩ := hw
      rcases kD_cases (dSz x) with e | e
      · rw [e] at hc1 ⊢
        rw [show mostK 1 = 32 from rfl]
        simp at hc1
        omega
      · rw [e] at hc2 ⊢
        rw [show mostK 2 = 16 from rfl]
        simp at hc2
        omega
theorem cntK_rev (l : List Nd) (k : Int) : cntK l.reverse k = cntK l k := by unfold cntK; rw [List.filter_reverse, List.length_reverse]
theorem decl_rev (ds : List Nd) : (declW [] ds.reverse).2 = 0 ↔ (declW [] ds).2 = 0 := by
  have h0 : Within [] := ⟨by simp [cntK], by simp [cntK]⟩
  rw [decl_iff _ _ h0, decl_iff _ _ h0]
  simp only [List.nil_append, List.mem_reverse, List.pairwise_reverse]
  have e1 : Within ds.reverse ↔ Within ds := by unfold Within; rw [cntK_rev, cntK_rev]
  have e2 : ds.Pairwise (fun a b => Apart b a) ↔ ds.Pairwise Apart := by
    constructor <;> intro h <;> exact h.imp (fun hab => fun e => hab e.symm)
  rw [e1, e2]
theorem first_rev (s : ByteArray) : ∀ l : List Nd, firstK l s = lookL l.reverse s
  | [] => rfl
  | x :: r => by
    rw [firstK, List.reverse_cons, lookL_snoc, first_rev s r]
theorem look_rev {ds : List Nd} (h : (declW [] ds).2 = 0) : lookL ds.reverse = lookL ds := by
  funext s
  have hs := look_step s ds [] h
  rw [List.nil_append, if_neg (by simp [lookL])] at hs
  rw [hs, first_rev]
theorem allL_flat : ∀ l : List Nd, allL l = l.flatMap allN
  | [] => by unfold allL; rfl
  | x :: r => by unfold allL; rw [allL_flat r]; rfl
theorem deepL_all (d : Int) : ∀ l : List Nd, deepL l d = l.all (fun x => deepN x d)
  | [] => by unfold deepL; rfl
  | x :: r => by unfold deepL; rw [deepL_all d r]; rfl
theorem allL_rev_len (l : List Nd) : (allL l.reverse).length = (allL l).length := by
  induction l with
  | nil => rfl
  | cons x r ih =>
    rw [List.reverse_cons, allL_app, List.length_append, ih]
    have e : allL [x] = allN x := by simp [allL]
    rw [e]
    have e2 : allL (x :: r) = allN x ++ allL r := by rw [allL]
    rw [e2, List.length_append]
    omega
theorem fault_rev (ds ss : List Nd) : faultT (progT ds.reverse ss) = 0 ↔ faultT (progT ds ss) = 0 := by
  rw [fault_zero, fault_zero, allL_rev_len, show deepL ds.reverse 1 = deepL ds 1 by rw [deepL_all, deepL_all, List.all_reverse]]
  have e : (∀ x ∈ allL ds.reverse, goodN x) ↔ ∀ x ∈ allL ds, goodN x := by
    rw [allL_flat, allL_flat]
    simp only [List.mem_flatMap, List.mem_reverse]
  rw [e]
/-- P6.1: the declarations the other way round. -/
theorem well_turned (ds ss : List Nd) : (wellP ds.reverse ss).2 = 0 ↔ (wellP ds ss).2 = 0 := by
  rw [wellP_iff, wellP_iff, fault_rev, decl_rev]
  constructor
  · rintro ⟨h1, h2, h3⟩
    rw [look_rev h2] at h3
    exact ⟨h1, h2, h3⟩
  · rintro ⟨h1, h2, h3⟩
    rw [look_rev h2]
    exact ⟨h1, h2, h3⟩
end Go.Proofs.Ytofbocmbgadfnaa

/-
  WellTurned's own walk: proved is that it answers true for every program that lies in memory, and that it turns nothing that lay.
-/
namespace Go.Proofs.Ytofbocmbgadfnaa
open Go Go.RowKit Go.Maps

theorem decls_sl {w : World} {base : Nat} {l : List Nd} {v : Value} (h : w.ownsRow base 44 2 v l.length (cellsD l)) (hn : ∀ x ∈ l, x.ty = .D ∧ NdIn w x [.string (dNm x), .int .i64 (dSz x)]) : SlIn w .D l v := by
  have hoc := own_cells h
  by_cases h0 : l.length = 0
  · rcases h.2 with ⟨rfl, _⟩ | ⟨g, cap, cur, rfl, _, _, hn, hcm, _⟩
    · exact ⟨none, 0, by rw [h0], by omega, Nat.zero_le _, .inl h0⟩
    · exact ⟨_, cap, rfl, hn, hcm, .inl h0⟩
  · rcases h.2 with ⟨_, h1⟩ | ⟨g, cap, cur, rfl, _, _, hn2, hcm, _⟩
    · exact absurd h1 h0
    · obtain ⟨a, c, he, _, hc⟩ := hoc
      obtain ⟨g', rfl, hcell⟩ := hc.resolve_left h0
      simp only [Value.slice.injEq, Option.some.injEq, Addr.mk.injEq, and_true, true_and] at he
      obtain ⟨rfl, rfl⟩ := he
      refine ⟨_, cap, rfl, hn2, hcm, .inr ⟨g, 0, rfl, RowIn.of l g 0 (fun i hi => ?_)⟩⟩
      obtain ⟨h1, h2⟩ := hn l[i] (List.getElem_mem hi)
      refine ⟨h1, _, fun j u hj => ?_, h2⟩
      obtain ⟨m0, m1⟩ := cellsD_at l i hi
      match j, hj with
      | 0, hj => obtain rfl : Value.string (dNm l[i]) = u := by simpa using hj
                 have := hcell _ _ m0
                 rwa [show 0 + i * Ty.D.size + 0 = i * 2 by simp [Ty.size]]
      | 1, hj => obtain rfl : Value.int .i64 (dSz l[i]) = u := by simpa using hj
                 have := hcell _ _ m1
                 rwa [show 0 + i * Ty.D.size + 1 = i * 2 + 1 by simp [Ty.size]]
theorem nd_decl {w w' : World} {x : Nd} {vs : List Value} (h : NdIn w x vs) (hty : x.ty = .D) : NdIn w' x [.string (dNm x), .int .i64 (dSz x)] := by
  obtain ⟨ty, k, n, nm, xs, cs, ts, es⟩ := x
  simp only [Nd.ty] at hty
  subst hty
  unfold NdIn at h ⊢
  obtain ⟨hf, h2, h3, h4, _⟩ := h
  simp only [fits] at hf
  obtain ⟨rfl, rfl, rfl, rfl, rfl⟩ := hf
  exact ⟨⟨rfl, rfl, rfl, rfl, rfl⟩, h2, h3, h4, .slice none 0 0, .slice none 0 0, .slice none 0 0, .slice none 0 0, rfl, slIn_nil w' .E, slIn_nil w' .C, slIn_nil w' .S, slIn_nil w' .S⟩
theorem sl_nds {w w' : World} {l : List Nd} {v : Value} (h : SlIn w .D l v) : ∀ x ∈ l, x.ty = .D ∧ NdIn w' x [.string (dNm x), .int .i64 (dSz x)] := by
  intro x hx
  obtain ⟨i, hi, rfl⟩ := List.getElem_of_mem hx
  obtain ⟨a, c, _, _, _, hr⟩ := h
  obtain ⟨b, o, _, hrow⟩ := hr.resolve_left (by omega)
  obtain ⟨h1, vs, _, h3⟩ := RowIn.at l b o i hi hrow
  exact ⟨h1, nd_decl h3 h1⟩

set_option maxRecDepth 100000 in
set_option maxHeartbeats 8000000 in
theorem wturned_any (ds ss : List Nd) (v0 v1 : Value) (w : World) (hd : SlIn w .D ds v0) (hs : SlIn w .S ss v1) :
    Calls Try.prog 5 #[.agg #[v0, v1]] w (fun e w' => e = .returned (.bool true) ∧ Below w.heap.size w w') := by
  have HK := Lib.hid wknown_any
  have hc := fun w1 (hb : Below w.heap.size w w1) => wcheck_any ds ss v0 v1 w1 (hd.keep (keeps_below hb)) (hs.keep (keeps_below hb))
  have hcr := fun (v : Value) w1 (hb : Below w.heap.size w w1) (hsl : SlIn w1 .D ds.reverse v) => wcheck_any ds.reverse ss v v1 w1 hsl (hs.keep (keeps_below hb))
  have htn := well_turned ds ss
  obtain ⟨⟨WN, WE⟩, hW⟩ : ∃ p, wellP ds ss = p := ⟨_, rfl⟩
  obtain ⟨⟨TN, TE⟩, hT⟩ : ∃ p, wellP ds.reverse ss = p := ⟨_, rfl⟩
  simp only [hW, hT] at hc hcr htn
  clear hW hT
  have hnds := fun (w' : World) => sl_nds (w' := w') hd
  obtain ⟨a0, c0, rfl, hlc0, hcm0, hrow0⟩ := hd
  obtain ⟨a1, c1, rfl, -⟩ := hs
  have HROW := Lib.hid hrow0; clear hrow0
  obtain ⟨W1, hW1⟩ : ∃ W1, w.alloc (.cells #[.slice a0 ds.length c0, .slice a1 ss.length c1] 25) = W1 := ⟨_, rfl⟩
  obtain ⟨P0, hP0⟩ : ∃ p, w.heap.size = p := ⟨_, rfl⟩
  have hal : Below w.heap.size w W1 := by rw [← hW1]; exact (Below.refl _ w).alloc (Nat.le_refl _) _
  have hX1 : Blk W1 P0 #[.slice a0 ds.length c0, .slice a1 ss.length c1] 25 := by rw [← hW1, ← hP0]; exact Blk.new w _ _
  have x0 : W1.cell? ⟨P0, 0, none⟩ = some (.slice a0 ds.length c0) := hX1.cell 0
  have y0 : W1.cell? ⟨P0, 1, none⟩ = some (.slice a1 ss.length c1) := hX1.cell 1
  have HX1 := Lib.hid hX1; clear hX1
  have HAL := Lib.hid hal; clear hal
  have HW1 := Lib.hid hW1; clear hW1
  have HP0 := Lib.hid hP0; clear hP0
  have HC := Lib.hid hc; clear hc
  have HCR := Lib.hid hcr; clear hcr
  have HND := Lib.hid hnds; clear hnds
  have HTN := Lib.hid htn; clear htn
  go_enter Try.func5, Try.ntmps5
  go_upto_region 1 with fail
  rw [HW1.out, HP0.out]
  clear HW1
  by_cases hl : 100 < ds.length
  · have hl1 : decide (100 < ds.length) = true := by simpa using hl
    have hl2 : decide (100 < (ds.length : Int)) = true := by simp; omega
    clear hl
    go_wp2_with (first | (go_at_call 6; (with_reducible refine (HK.out _).mono ?_); rintro e w1 ⟨rfl, hb1⟩; have HA1 := Lib.hid (hb1); have x1 := (HX1.out.below HA1.out HX1.out.lt).cell 0; have y1 := (HX1.out.below HA1.out HX1.out.lt).cell 1; simp at x1 y1; clear hb1) | (go_at_call 7; (with_reducible refine (HC.out _ (below_next HAL.out HA1.out)).mono ?_); rintro e w2 ⟨rfl, hb2⟩; have HA2 := Lib.hid (below_next HA1.out hb2); have x2 := (HX1.out.below HA2.out HX1.out.lt).cell 0; have y2 := (HX1.out.below HA2.out HX1.out.lt).cell 1; simp at x2 y2; clear hb2) | fail)
    go_ret
    exact ⟨rfl, below_next HAL.out HA2.out⟩
  · have hl1 : decide (100 < ds.length) = false := by simpa using hl
    have hl2 : decide (100 < (ds.length : Int)) = false := by simp; omega
    have hdl : ds.length ≤ 100 := by omega
    clear hl
    obtain ⟨i0, hi0, hz0, hz1, hz2⟩ := info_parts info_decl
    have HI0 := Lib.hid hi0; clear hi0
    have HZ0 := Lib.hid hz0; clear hz0
    have HZ1 := Lib.hid hz1; clear hz1
    have HZ2 := Lib.hid hz2; clear hz2
    go_upto_region 7 with (first | (go_at_call 6; (with_reducible refine (HK.out _).mono ?_); rintro e w1 ⟨rfl, hb1⟩; have HA1 := Lib.hid (hb1); have x1 := (HX1.out.below HA1.out HX1.out.lt).cell 0; have y1 := (HX1.out.below HA1.out HX1.out.lt).cell 1; simp at x1 y1; clear hb1) | (go_at_call 7; (with_reducible refine (HC.out _ (below_next HAL.out HA1.out)).mono ?_); rintro e w2 ⟨rfl, hb2⟩; have HA2 := Lib.hid (below_next HA1.out hb2); have x2 := (HX1.out.below HA2.out HX1.out.lt).cell 0; have y2 := (HX1.out.below HA2.out HX1.out.lt).cell 1; simp at x2 y2; clear hb2) | fail)
    obtain ⟨Q, hQ⟩ : ∃ q, w2.heap.size = q := ⟨_, rfl⟩
    obtain ⟨W3, hW3⟩ : ∃ W, w2.alloc (.cells #[.slice none 0 0, .slice a1 ss.length c1] 25) = W := ⟨_, rfl⟩
    have hQ3 : Blk W3 Q #[.slice none 0 0, .slice a1 ss.length c1] 25 := by rw [← hW3, ← hQ]; exact Blk.new w2 _ _
    have hP2 := HX1.out.below HA2.out HX1.out.lt
    have hP3 : Blk W3 P0 #[.slice a0 ds.length c0, .slice a1 ss.length c1] 25 := by rw [← hW3]; exact hP2.alloc _
    have hb2 := below_next HAL.out HA2.out
    have hb3 : Below w.heap.size w W3 := by rw [← hW3]; exact hb2.alloc hb2.size _
    have hPQ : P0 < Q := by rw [← hQ]; exact hP2.lt
    have hwQ : w.heap.size ≤ Q := by rw [← hQ]; exact hb2.size
    have hS3 : Q + 1 ≤ W3.heap.size := by rw [← hW3, World.size_alloc, hQ]; omega
    rw [hW3, hQ]
    have p0 : W3.cell? ⟨P0, 0, none⟩ = some (.slice a0 ds.length c0) := hP3.cell 0
    have HQ3 := Lib.hid hQ3; clear hQ3
    have HP3 := Lib.hid hP3; clear hP3 hP2
    have HB3 := Lib.hid hb3; clear hb3 hb2 hQ hW3
    have HS3 := Lib.hid hS3; clear hS3
    clear HC HA2 HX1 HAL x0 y0
    have hn1 : (1 : Int) ≤ 9223372036854775807 := by decide
    go_wp2_with fail
    go_loopw [6] (fun x wr => ∃ (m : Nat) (v : Value), x = .int .i64 ((m : Int) - 1) ∧ m ≤ ds.length ∧ wr.ownsRow (Q + 1) 44 2 v ((ds.drop m).reverse).length (cellsD (ds.drop m).reverse) ∧ Blk wr Q #[v, .slice a1 ss.length c1] 25 ∧ Blk wr P0 #[.slice a0 ds.length c0, .slice a1 ss.length c1] 25 ∧ Below w.heap.size w wr ∧ Q + 1 ≤ wr.heap.size) (fun x _ => (intOf x + 1).toNat)
    case atStart => exact ⟨ds.length, .slice none 0 0, rfl, by omega, by rw [List.drop_length]; exact World.ownsRow_nil _ _ _ _, HQ3.out, HP3.out, HB3.out, HS3.out⟩
    case round =>
      obtain ⟨m, v, rfl, hm, hO, hQb, hPb, hB, hS⟩ := hrel
      clear HQ3 HP3 HB3 HS3 p0
      cases m with
      | zero =>
        rw [show (((0 : Nat) : Int) - 1) = -1 by decide]
        rw [List.drop_zero] at hO
        have hsl := decls_sl hO (fun x hx => HND.out wr x (List.mem_reverse.1 hx))
        have q0 : wr.cell? ⟨Q, 0, none⟩ = some v := hQb.cell 0
        have q1 : wr.cell? ⟨Q, 1, none⟩ = some (.slice a1 ss.length c1) := hQb.cell 1
        have HC := Lib.hid (HCR.out v wr hB hsl)
        have HB := Lib.hid hB; clear hB hQb hPb hO hsl hS
        obtain ⟨be, hbe⟩ : ∃ b, (WE == 0) = b := ⟨_, rfl⟩
        have hte : (TE == 0) = be := by
          have h := HTN.out
          rw [← hbe]
          by_cases hz : WE = 0
          · rw [hz, h.2 hz]
          · have hz2 : ¬ TE = 0 := fun e => hz (h.1 e)
            rw [beq_eq_false_iff_ne.2 hz, beq_eq_false_iff_ne.2 hz2]
        cases be with
        | true =>
          go_wp2_with (first | (go_at_call 7; (with_reducible refine HC.out.mono ?_); rintro e w9 ⟨rfl, hb9⟩; have HB9 := Lib.hid (below_next HB.out hb9); clear hb9) | fail)
          go_ret
          exact ⟨rfl, HB9.out⟩
        | false =>
          go_wp2_with (first | (go_at_call 7; (with_reducible refine HC.out.mono ?_); rintro e w9 ⟨rfl, hb9⟩; have HB9 := Lib.hid (below_next HB.out hb9); clear hb9) | fail)
          go_ret
          exact ⟨rfl, HB9.out⟩
      | succ k =>
        rw [show (((k + 1 : Nat) : Int) - 1) = (k : Int) by omega]
        have hlt : k < ds.length := by omega
        have hkn : (0 : Int) ≤ (k : Int) := by omega
        have hxl : ¬ ds.length = 0 := by omega
        obtain ⟨b, o, rfl, hrow⟩ := HROW.out.resolve_left hxl
        obtain ⟨hty, u0, u1, m0, m1, hnd⟩ := SlIn.item2 rfl hrow k hlt
        have kk := keeps_below hB
        have g0 := kk _ _ _ m0
        have g1 := kk _ _ _ m1
        have hrv : (ds.drop k).reverse = (ds.drop (k + 1)).reverse ++ [ds[k]] := by rw [List.drop_eq_getElem_cons hlt, List.reverse_cons]
        have hln : ((ds.drop (k + 1)).reverse).length ≤ 100 := by rw [List.length_reverse, List.length_drop]; omega
        clear m0 m1 kk hrow
        obtain ⟨X, hX⟩ : ∃ X, ds[k] = X := ⟨_, rfl⟩
        rw [hX] at hnd hty hrv
        clear hX
        obtain ⟨ty, kd, n, nm, xs, cs, ts, es⟩ := X
        simp only [Nd.ty] at hty
        subst hty
        unfold NdIn at hnd
        obtain ⟨-, -, -, -, vx, vc, vt, ve, hvs, -⟩ := hnd
        simp only [lay, List.cons.injEq, and_true] at hvs
        obtain ⟨rfl, rfl⟩ := hvs
        have hdn : ∀ _ : Nat, dNm (.mk .D kd n nm xs cs ts es) = nm := fun _ => rfl
        have hds : ∀ _ : Nat, dSz (.mk .D kd n nm xs cs ts es) = n := fun _ => rfl
        obtain ⟨L, hL⟩ : ∃ l, (ds.drop (k + 1)).reverse = l := ⟨_, rfl⟩
        rw [hL] at hO hrv hln
        clear hL
        have HRV := Lib.hid (congrArg List.length hrv)
        have HRC := Lib.hid (congrArg cellsD hrv)
        clear hrv
        obtain ⟨av, cv, rfl, -⟩ := own_cells hO
        have hvQ : (Value.slice av L.length cv).ownBlock ≠ some Q := fun e => by have := (hO.lt _ e).1; omega
        have hvP : (Value.slice av L.length cv).ownBlock ≠ some P0 := fun e => by have := (hO.lt _ e).1; omega
        have e0 : wr.cell? ⟨Q, 0, none⟩ = some (.slice av L.length cv) := hQb.cell 0
        have f0 := hQb.free 0
        have p0 : wr.cell? ⟨P0, 0, none⟩ = some (.slice (some ⟨b, o, none⟩) ds.length c0) := hPb.cell 0
        have HO := Lib.hid hO; clear hO
        have HQB := Lib.hid hQb; clear hQb
        have HPB := Lib.hid hPb; clear hPb
        have HB := Lib.hid hB; clear hB
        have hQlt := HQB.out.lt
        have hmx : 101 ≤ maxLen := by unfold maxLen; omega
        go_upto_region 10 with fail
        go_region_law
          (refine step_append_lies _ (by rfl) _ _ _ (by rfl) (Q + 1) 44 i0 _ 2 24 Try.underlying22 HI0.out HZ0.out HZ1.out HZ2.out rfl (by omega) _ L.length (cellsD L) (by rfl) (HO.out.drew.alloc _) ⟨wr.heap.size, 0, none⟩ 1 1 [.string nm, .int .i64 n] (by rfl) (by rfl) (World.news_of_block (cs := #[.string nm, .int .i64 n]) (t := 44) (fr := (0, 0)) (heap_alloc_new wr.drew _)) (decl_one _ _) (by omega) (by omega) (by omega) (by simp; omega) (wr.heap.size + 1) (by simp) ?_
           intro gg cap w7 hown7 hgrow7 hat hlt7
           have q4 := (blk_grown ((show Blk wr.drew Q _ _ from HQB.out).alloc _) hgrow7 hvQ).cell 0
           have q5 := (blk_grown ((show Blk wr.drew Q _ _ from HQB.out).alloc _) hgrow7 hvQ).free 0)
        all_goals
          have hQ7 := (blk_grown ((show Blk wr.drew Q _ _ from HQB.out).alloc (.cells #[.string nm, .int .i64 n] 44)) hgrow7 hvQ).set 0 (.slice (some ⟨gg, 0, none⟩) (L.length + 1) cap)
          have hP7 := (blk_grown ((show Blk wr.drew P0 _ _ from HPB.out).alloc (.cells #[.string nm, .int .i64 n] 44)) hgrow7 hvP).other (a := ⟨Q, 0, none⟩) (by simp only; omega) (.slice (some ⟨gg, 0, none⟩) (L.length + 1) cap)
          have hO7 := ownsRow_setCell_below hown7 (a := ⟨Q, 0, none⟩) (by simp) (.slice (some ⟨gg, 0, none⟩) (L.length + 1) cap)
          have hB7 := (below_grown (HB.out.drew.alloc HB.out.size (.cells #[.string nm, .int .i64 n] 44)) (by simp; omega) hgrow7 (fun r hr => by have := (HO.out.lt r hr).1; omega)).setCell (p := ⟨Q, 0, none⟩) hwQ (.slice (some ⟨gg, 0, none⟩) (L.length + 1) cap)
          have hS7 : Q + 1 ≤ (w7.setCell ⟨Q, 0, none⟩ (.slice (some ⟨gg, 0, none⟩) (L.length + 1) cap)).heap.size := by rw [World.size_setCell]; have := hgrow7.size; simp at this; omega
          have HQ7 := Lib.hid hQ7; clear hQ7
          have HP7 := Lib.hid hP7; clear hP7
          have HO7 := Lib.hid hO7; clear hO7 hown7
          have HB7 := Lib.hid hB7; clear hB7 hgrow7 hat
          have HS7 := Lib.hid hS7; clear hS7 q4 q5
          go_wp2_with fail
          go_roundw
          case rel => exact ⟨k, _, rfl, by omega, by rw [HRV.out, HRC.out, cellsD_snoc, hdn 0, hds 0, List.length_append]; exact HO7.out, HQ7.out, HP7.out, HB7.out, HS7.out⟩
          case measure => simp [intOf]
end Go.Proofs.Ytofbocmbgadfnaa

/-
  WellTurned (P6.1): proved is that gnomonlaw6.WellTurned answers true for every program, and the program reads as it did.
  Conditions: none but the row's own.
-/
namespace Go.Proofs.Ytofbocmbgadfnaa.wellTurned
open Go Go.ChangeShapes Go.WideShapes Go.ChangeAt Go.RowKit Go.Lib

theorem own : ownKnob Try.prog.godebug = none := by kernel_rfl

set_option maxRecDepth 100000 in
/-- What the walk gives, for every argument and every world. -/
theorem contract (H : Type) (enc : TypeId × Value → H) (W : World) (base : Nat) (args : Array Value) (ds gs : List (DataW H)) (before : List MemPlace)
    (hval : ∀ (j : Nat) t v, Try.f5.params[j]? = some t → args[j]? = some v → Value.okWide Try.prog W .any base t v)
    (hW : DataW.Whole enc Try.prog Try.f5.params.toList Rows.wellTurnedSpec.vars false W args.toList ds gs before) :
    Calls Try.prog 5 args W fun e W' => ∃ v, e = .returned v ∧ Rows.wellTurnedSpec.post enc Try.prog Try.f5 false true false false W args v W' := by
  have hW' := hW
  obtain ⟨p, q, hA0, hV, rfl, hfz, hnd⟩ := hW
  have hA : DataW.TrodAll enc Try.prog W 0 (fun _ => true) true Try.f5.params.toList args.toList ds p := hA0
  rw [Try.params5] at hA hval
  obtain ⟨v0, vs0, d0, ds0, p0, q0, hargs, rfl, rfl, h0, r0⟩ := trodAll_cons hA
  obtain ⟨rfl, rfl, rfl⟩ := trodAll_nil r0
  obtain rfl : args = #[v0] := by cases args; simp_all
  obtain ⟨rfl, rfl⟩ := trodVars_none hV
  obtain ⟨x0, y0, a0, b0, rfl, hd0, hs0⟩ := arg_prog (hval 0 _ v0 rfl rfl) h0
  clear hA0
  refine (wturned_any x0 y0 a0 b0 W hd0 hs0).mono fun e W' ⟨he, hb⟩ => ?_
  subst he
  refine ⟨_, rfl, post_trueT (tb := 4) plainAll ?_ rfl (by kernel_rfl) (by kernel_rfl) Try.underlying4 rfl hW' hb⟩
  rw [Try.params5]
  intro t ht
  have hall : ([25].all fun u => treeT.contains u) = true := by kernel_rfl
  simpa using List.all_eq_true.1 hall t (by simpa using ht)

theorem reads (os : Os) {H : Type} (enc : TypeId × Value → H) : ∃ ds places, DataW.whole enc Try.prog ((World.holding Try.prog os ⟨#[], #[], []⟩).forCall (fun _ _ => 0) ⟨#[], #[.agg #[.slice none 0 0, .slice none 0 0]], []⟩).memory Try.f5.params.toList Rows.wellTurnedSpec.vars false #[.agg #[.slice none 0 0, .slice none 0 0]].toList 8 = some (ds, [], places) :=
  ⟨[.agg [.nil, .nil]], [], by kernel_rfl⟩

theorem laid_nil (os : Os) (args : Array Value) : laidMetH Try.prog [] ((World.holding Try.prog os ⟨#[], #[], []⟩).forCall (fun _ _ => 0) ⟨#[], args, []⟩).memory := by
  change laidMet _ [] _
  exact ⟨[], rfl, List.nodup_nil, fun b off h => by cases h⟩

set_option maxRecDepth 100000 in
theorem lifted (os : Os) (started : os.Started) (H : Type) (enc : TypeId × Value → H) (F : Stop.Interp) :
    ReturnsInHanded {} Try.checked os 5 .any ((OpenSpec.ofChange Rows.wellTurnedSpec).preRow enc Try.prog Try.f5 Rows.wellTurnedRow.domain false Rows.wellTurnedRow.laid) (((OpenSpec.ofChange Rows.wellTurnedSpec).at F).post enc Try.prog Try.f5 false true false false) := by
  obtain ⟨ds, places, hx⟩ := reads os enc
  refine returnsInHanded_of_row (C := Try.checked) (s := OpenSpec.ofChange Rows.wellTurnedSpec) own started (by kernel_rfl) Try.func5
    (witness_row_atRef (enc := enc) (C := Try.checked) false (World.holding Try.prog os ⟨#[], #[], []⟩) #[.agg #[.slice none 0 0, .slice none 0 0]] rfl (by kernel_rfl) (by kernel_rfl) (by kernel_rfl)
      (OpenSpec.preRow_of_cond 8 hx (by kernel_rfl) (fun k hk => by cases hk) (by kernel_rfl) (laid_nil os _))) ?_
  intro W base args ds gs before hval hW _ _ hsz hL _ _
  exact contract H enc W base args ds gs before hval hW

theorem said : Rows.WellTurnedSaid :=
  OpenClaim.holds_of_cond 5 Try.f5 rfl rfl rfl rfl rfl rfl rfl ⟨rfl, rfl, rfl, rfl, rfl⟩ rfl rfl rfl rfl rfl (by kernel_rfl) Try.func5 (by kernel_rfl)
    (of_decide_eq_true (by kernel_rfl)) (by unfold Func.isWrapper; first | (rw [if_pos (by decide +kernel)]; kernel_rfl) | (rw [if_neg (by decide +kernel)]; exact ⟨rfl, rfl⟩))
    (fun os started H enc _ F => by rw [OpenClaim.pre_eq_preRow]; exact lifted os started H enc F)
#print axioms said
end Go.Proofs.Ytofbocmbgadfnaa.wellTurned
