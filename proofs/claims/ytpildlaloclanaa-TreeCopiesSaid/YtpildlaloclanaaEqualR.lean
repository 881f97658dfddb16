/-
  The document's Equal of two programs (gnomonref3's): proved is that it answers whether both can be walked and are the same, and that it turns nothing that lay.
-/
import Derived.Test.YtpildlaloclanaaSameS
import Derived.Test.YtpildlaloclanaaWalked
import Derived.Test.YtpildlaloclanaaPlainE
import Derived.Test.YtpildlaloclanaaEqualP
import Derived.Test.YtpildlaloclanaaEqLab
namespace Go.Proofs.Ytpildlaloclanaa
open Go Go.RowKit

/-- What the document answers for two programs. -/
def equalR (d1 s1 d2 s2 : List Nd) : Bool := ((progW d1 s1).bad == 0) && ((progW d2 s2).bad == 0) && sameL d1 d2 && sameL s1 s2
theorem progW_T (ds ss : List Nd) : (progW ds ss).bad = (progT ds ss).lim := by
  have h1 := match_L ds 1 ⟨0, 0, 0⟩ ⟨[], 0, 0⟩ ⟨rfl, rfl, rfl⟩ rfl
  have h2 := match_if (F := fun s => walkL ss 1 s) (fun s hs => walkL_bad ss 1 s hs) h1 (fun hz => match_L ss 1 _ _ h1 hz)
  exact h2.2.2
theorem fitA_app {l m : List Nd} (hl : fitA l) (hm : fitA m) : fitA (l ++ m) := fun x hx => (List.mem_append.1 hx).elim (hl x) (hm x)
/-- The document's answer is the project's. -/
theorem equal_same {d1 s1 d2 s2 : List Nd} (hd1 : fitL .D d1) (hs1 : fitL .S s1) (hd2 : fitL .D d2) (hs2 : fitL .S s2) : equalR d1 s1 d2 s2 = equalP d1 s1 d2 s2 := by
  unfold equalR equalP
  rw [progW_T, progW_T]
  by_cases z1 : (progT d1 s1).lim = 0
  · by_cases z2 : (progT d2 s2).lim = 0
    · rw [progT_list z1, progT_list z2, eq_all _ _ (fitA_app (fitA_of hd1) (fitA_of hs1)) (fitA_app (fitA_of hd2) (fitA_of hs2)), same_app d1 s1 d2 s2 (ty_of hd1) (ty_of hd2) (ty_of hs1) (ty_of hs2)]
      simp [z1, z2]
    · simp [z2]
  · simp [z1]
mutual
theorem sameN_comm : ∀ (x y : Nd), sameN x y = sameN y x
  | .mk ty k n nm xs cs ts es, .mk ty2 k2 n2 nm2 xs2 cs2 ts2 es2 => by
    unfold sameN
    rw [sameL_comm xs xs2, sameL_comm cs cs2, sameL_comm ts ts2, sameL_comm es es2, (BEq.comm : (k == k2) = (k2 == k)), (BEq.comm : (n == n2) = (n2 == n)), (BEq.comm : (nm.toList == nm2.toList) = (nm2.toList == nm.toList)), show decide (ty = ty2) = decide (ty2 = ty) from decide_eq_decide.2 eq_comm]
theorem sameL_comm : ∀ (l m : List Nd), sameL l m = sameL m l
  | [], [] => rfl
  | x :: l, y :: m => by unfold sameL; rw [sameN_comm x y, sameL_comm l m]
  | [], _ :: _ => by unfold sameL; rfl
  | _ :: _, [] => by unfold sameL; rfl
end
theorem equalR_comm (d1 s1 d2 s2 : List Nd) : equalR d1 s1 d2 s2 = equalR d2 s2 d1 s1 := by
  unfold equalR
  rw [sameL_comm d1 d2, sameL_comm s1 s2, Bool.and_comm ((progW d1 s1).bad == 0)]

theorem neq_decl (n n' : Int) (s s' : ByteArray) (w : World) :
    (binOp .neq 63 (.agg #[.string s, .int .i64 n]) (.agg #[.string s', .int .i64 n'])).run Try.prog w = .ok (.bool (!((s.toList == s'.toList) && (n == n')))) w := by
  have h5 : Try.prog.underlying 3 = some (.int .i64) := by kernel_rfl
  have h8 : Try.prog.underlying 9 = some .string := by kernel_rfl
  have hst : Try.prog.stoodInHeld 63 = false := by kernel_rfl
  have hft : Try.prog.underlying 63 = some (.struct (Try.prog.fieldsOf 63)) := by kernel_rfl
  have hfs : (Try.prog.fieldsOf 63).toList.map (fun f => (f.name, f.type, f.offset)) = [("Name", 9, 0), ("Size", 3, 1)] := by kernel_rfl
  simp only [binOp, Op.equal, Op.maxDepth, Sem.run_bind]
  rw [show (10000 : Nat) = 9999 + 1 from rfl, run_equalIn_struct _ _ _ _ _ hft hst]
  obtain ⟨fs, hfs0⟩ : ∃ fs, (Try.prog.fieldsOf 63).toList = fs := ⟨_, rfl⟩
  rw [hfs0] at hfs ⊢
  clear hfs0 hft hst
  obtain ⟨f0, fs, rfl, hf0, hfs⟩ := List.map_eq_cons_iff.1 hfs
  obtain ⟨f1, fs, rfl, hf1, hfs⟩ := List.map_eq_cons_iff.1 hfs
  obtain rfl := List.map_eq_nil_iff.1 hfs
  simp only [Prod.mk.injEq] at hf0 hf1
  obtain ⟨n0, t0, o0⟩ := hf0
  obtain ⟨n1, t1, o1⟩ := hf1
  have m0 : ("Name" : String) ≠ "_" := by decide
  have m1 : ("Size" : String) ≠ "_" := by decide
  have q0 : ∀ w, (part 9 #[Value.string s, .int .i64 n] 0).run Try.prog w = .ok (.string s) w := fun w => by simp [part, isAgg, run_underlying h8]
  have q1 : ∀ w, (part 3 #[Value.string s, .int .i64 n] 1).run Try.prog w = .ok (.int .i64 n) w := fun w => by simp [part, isAgg, run_underlying h5]
  have r0 : ∀ w, (part 9 #[Value.string s', .int .i64 n'] 0).run Try.prog w = .ok (.string s') w := fun w => by simp [part, isAgg, run_underlying h8]
  have r1 : ∀ w, (part 3 #[Value.string s', .int .i64 n'] 1).run Try.prog w = .ok (.int .i64 n') w := fun w => by simp [part, isAgg, run_underlying h5]
  have e0 : ∀ w, (Op.equalIn 9999 9 (.string s) (.string s')).run Try.prog w = .ok (s.toList == s'.toList) w := fun w => eq_strK h8 9998 s s' w
  have e1 : ∀ w, (Op.equalIn 9999 3 (.int .i64 n) (.int .i64 n')).run Try.prog w = .ok (n == n') w := fun w => eq_intK h5 9998 n n' w
  clear h5 h8
  simp only [Op.eqFields, n0, t0, o0, n1, t1, o1, m0, m1, ne_eq, not_false_eq_true, if_true, Sem.run_bind, q0, r0, e0, Result.andThen_ok]
  cases (s.toList == s'.toList) with
  | false => simp
  | true =>
    simp only [Bool.not_true, Bool.false_eq_true, if_false, Sem.run_bind, q1, r1, e1, Result.andThen_ok]
    cases (n == n') <;> simp
set_option maxRecDepth 100000 in
set_option maxHeartbeats 8000000 in
theorem equalR_any (d1 s1 d2 s2 : List Nd) (v0 v1 u0 u1 : Value) (w : World) (hd : SlIn w .D d1 v0) (hs : SlIn w .S s1 v1) (hd2 : SlIn w .D d2 u0) (hs2 : SlIn w .S s2 u1) :
    Calls Try.prog 21 #[.agg #[v0, v1], .agg #[u0, u1]] w (fun e w' => e = .returned (.bool (equalR d1 s1 d2 s2)) ∧ Below w.heap.size w w') := by
  have HF1 := Lib.hid (fun w1 (hb : Below w.heap.size w w1) => few_any d1 s1 v0 v1 w1 (hd.keep (keeps_below hb)) (hs.keep (keeps_below hb)))
  have HF2 := Lib.hid (fun w1 (hb : Below w.heap.size w w1) => few_any d2 s2 u0 u1 w1 (hd2.keep (keeps_below hb)) (hs2.keep (keeps_below hb)))
  have HSS := Lib.hid (fun w1 (hb : Below w.heap.size w w1) => sameS_any w _ s1 s2 v1 u1 w1 (Nat.le_refl _) hs hs2 hb)
  obtain ⟨Q, hQ⟩ : ∃ Q, equalR d1 s1 d2 s2 = Q := ⟨_, rfl⟩
  have hres : Q = (((progW d1 s1).bad == 0) && ((progW d2 s2).bad == 0) && sameL d1 d2 && sameL s1 s2) := hQ.symm
  rw [hQ]
  clear hQ
  obtain ⟨p, hp⟩ : ∃ b, ((progW d1 s1).bad == 0) = b := ⟨_, rfl⟩
  obtain ⟨q, hq⟩ : ∃ b, ((progW d2 s2).bad == 0) = b := ⟨_, rfl⟩
  obtain ⟨r, hr⟩ : ∃ b, sameL s1 s2 = b := ⟨_, rfl⟩
  rw [hp] at HF1 hres
  rw [hq] at HF2 hres
  rw [hr] at HSS hres
  clear hp hq hr
  have HQ := Lib.hid hres; clear hres
  obtain ⟨a0, c0, rfl, hlc1, hcm1, hrow1⟩ := hd
  obtain ⟨a1, c1, rfl, -⟩ := hs
  obtain ⟨e0, f0, rfl, -, -, hrow1'⟩ := hd2
  obtain ⟨e1, f1, rfl, -⟩ := hs2
  have HROW1 := Lib.hid hrow1; clear hrow1
  have HROW1' := Lib.hid hrow1'; clear hrow1'
  have hal : Below w.heap.size w ((w.alloc (.cells #[.slice a0 d1.length c0, .slice a1 s1.length c1] 25)).alloc (.cells #[.slice e0 d2.length f0, .slice e1 s2.length f1] 25)) := ((Below.refl _ w).alloc (Nat.le_refl _) _).alloc (by simp) _
  obtain ⟨W1, hW1⟩ : ∃ W1, (w.alloc (.cells #[.slice a0 d1.length c0, .slice a1 s1.length c1] 25)).alloc (.cells #[.slice e0 d2.length f0, .slice e1 s2.length f1] 25) = W1 := ⟨_, rfl⟩
  rw [hW1] at hal
  have hX1 : Blk W1 w.heap.size #[.slice a0 d1.length c0, .slice a1 s1.length c1] 25 := by rw [← hW1]; exact (Blk.new w _ _).alloc _
  have hX2 : Blk W1 (w.heap.size + 1) #[.slice e0 d2.length f0, .slice e1 s2.length f1] 25 := by
    have h := Blk.new (w.alloc (.cells #[.slice a0 d1.length c0, .slice a1 s1.length c1] 25)) #[.slice e0 d2.length f0, .slice e1 s2.length f1] 25
    rw [hW1, World.size_alloc] at h
    exact h
  have x0 : W1.cell? ⟨w.heap.size, 0, none⟩ = some (.slice a0 d1.length c0) := hX1.cell 0
  have x1 : W1.cell? ⟨w.heap.size, 1, none⟩ = some (.slice a1 s1.length c1) := hX1.cell 1
  have y0 : W1.cell? ⟨w.heap.size + 1, 0, none⟩ = some (.slice e0 d2.length f0) := hX2.cell 0
  have y1 : W1.cell? ⟨w.heap.size + 1, 1, none⟩ = some (.slice e1 s2.length f1) := hX2.cell 1
  have HX1 := Lib.hid hX1; clear hX1
  have HX2 := Lib.hid hX2; clear hX2
  have HAL := Lib.hid hal; clear hal
  have HW1 := Lib.hid hW1; clear hW1
  go_enter Try.func21, Try.ntmps21
  go_upto_region 1 with fail
  rw [HW1.out]
  clear HW1
  cases p with
  | false =>
    have e : Q = false := by rw [HQ.out]; rfl
    clear HQ HROW1 HROW1'
    subst e
    go_wp2_with (first | (go_at_call_of 43 (Value.agg #[.slice a0 d1.length c0, .slice a1 s1.length c1]); (with_reducible refine (HF1.out _ HAL.out).mono ?_); rintro e w1 ⟨rfl, hb1⟩; have j0 := (HX2.out.below hb1 HX2.out.lt).cell 0; have j1 := (HX2.out.below hb1 HX2.out.lt).cell 1; have i0 := (HX1.out.below hb1 HX1.out.lt).cell 0; have i1 := (HX1.out.below hb1 HX1.out.lt).cell 1; simp at j0 j1 i0 i1) | fail)
    go_ret
    exact ⟨rfl, below_next HAL.out hb1⟩
  | true =>
  cases q with
  | false =>
    have e : Q = false := by rw [HQ.out]; rfl
    clear HQ HROW1 HROW1'
    subst e
    go_wp2_with (first | (go_at_call_of 43 (Value.agg #[.slice a0 d1.length c0, .slice a1 s1.length c1]); (with_reducible refine (HF1.out _ HAL.out).mono ?_); rintro e w1 ⟨rfl, hb1⟩; have j0 := (HX2.out.below hb1 HX2.out.lt).cell 0; have j1 := (HX2.out.below hb1 HX2.out.lt).cell 1; have i0 := (HX1.out.below hb1 HX1.out.lt).cell 0; have i1 := (HX1.out.below hb1 HX1.out.lt).cell 1; simp at j0 j1 i0 i1) | (go_at_call_of 43 (Value.agg #[.slice e0 d2.length f0, .slice e1 s2.length f1]); (with_reducible refine (HF2.out _ (below_next HAL.out hb1)).mono ?_); rintro e w2 ⟨rfl, hb2⟩; have k0 := ((HX2.out.below hb1 HX2.out.lt).next hb2).cell 0; have k1 := ((HX2.out.below hb1 HX2.out.lt).next hb2).cell 1; have l0 := ((HX1.out.below hb1 HX1.out.lt).next hb2).cell 0; have l1 := ((HX1.out.below hb1 HX1.out.lt).next hb2).cell 1; simp at k0 k1 l0 l1) | fail)
    go_ret
    exact ⟨rfl, below_next (below_next HAL.out hb1) hb2⟩
  | true =>
  cases hne : ((d1.length : Int) != (d2.length : Int)) with
  | true =>
    have e : Q = false := by
      rw [HQ.out]
      cases hs : sameL d1 d2 with
      | false => rfl
      | true =>
        have := sameL_len hs
        simp [this] at hne
    clear HQ HROW1 HROW1'
    subst e
    go_wp2_with (first | (go_at_call_of 43 (Value.agg #[.slice a0 d1.length c0, .slice a1 s1.length c1]); (with_reducible refine (HF1.out _ HAL.out).mono ?_); rintro e w1 ⟨rfl, hb1⟩; have j0 := (HX2.out.below hb1 HX2.out.lt).cell 0; have j1 := (HX2.out.below hb1 HX2.out.lt).cell 1; have i0 := (HX1.out.below hb1 HX1.out.lt).cell 0; have i1 := (HX1.out.below hb1 HX1.out.lt).cell 1; simp at j0 j1 i0 i1) | (go_at_call_of 43 (Value.agg #[.slice e0 d2.length f0, .slice e1 s2.length f1]); (with_reducible refine (HF2.out _ (below_next HAL.out hb1)).mono ?_); rintro e w2 ⟨rfl, hb2⟩; have k0 := ((HX2.out.below hb1 HX2.out.lt).next hb2).cell 0; have k1 := ((HX2.out.below hb1 HX2.out.lt).next hb2).cell 1; have l0 := ((HX1.out.below hb1 HX1.out.lt).next hb2).cell 0; have l1 := ((HX1.out.below hb1 HX1.out.lt).next hb2).cell 1; simp at k0 k1 l0 l1) | fail)
    go_ret
    exact ⟨rfl, below_next (below_next HAL.out hb1) hb2⟩
  | false =>
  have HLEN := Lib.hid (show d1.length = d2.length by rw [bne, Bool.not_eq_false', beq_iff_eq] at hne; omega)
  cases r with
  | false =>
    have e : Q = false := by rw [HQ.out]; simp
    clear HQ HROW1 HROW1'
    subst e
    go_wp2_with (first | (go_at_call_of 43 (Value.agg #[.slice a0 d1.length c0, .slice a1 s1.length c1]); (with_reducible refine (HF1.out _ HAL.out).mono ?_); rintro e w1 ⟨rfl, hb1⟩; have j0 := (HX2.out.below hb1 HX2.out.lt).cell 0; have j1 := (HX2.out.below hb1 HX2.out.lt).cell 1; have i0 := (HX1.out.below hb1 HX1.out.lt).cell 0; have i1 := (HX1.out.below hb1 HX1.out.lt).cell 1; simp at j0 j1 i0 i1) | (go_at_call_of 43 (Value.agg #[.slice e0 d2.length f0, .slice e1 s2.length f1]); (with_reducible refine (HF2.out _ (below_next HAL.out hb1)).mono ?_); rintro e w2 ⟨rfl, hb2⟩; have k0 := ((HX2.out.below hb1 HX2.out.lt).next hb2).cell 0; have k1 := ((HX2.out.below hb1 HX2.out.lt).next hb2).cell 1; have l0 := ((HX1.out.below hb1 HX1.out.lt).next hb2).cell 0; have l1 := ((HX1.out.below hb1 HX1.out.lt).next hb2).cell 1; simp at k0 k1 l0 l1) | (go_at_call 44; (with_reducible refine (HSS.out _ (below_next (below_next HAL.out hb1) hb2)).mono ?_); rintro e w3 ⟨rfl, hb3⟩) | fail)
    go_ret
    exact ⟨rfl, below_next (below_next (below_next HAL.out hb1) hb2) hb3⟩
  | true =>
  have e : Q = sameL d1 d2 := by rw [HQ.out]; simp
  have HE := Lib.hid e; clear e HQ
  go_upto_region 3 with (first | (go_at_call_of 43 (Value.agg #[.slice a0 d1.length c0, .slice a1 s1.length c1]); (with_reducible refine (HF1.out _ HAL.out).mono ?_); rintro e w1 ⟨rfl, hb1⟩; have j0 := (HX2.out.below hb1 HX2.out.lt).cell 0; have j1 := (HX2.out.below hb1 HX2.out.lt).cell 1; have i0 := (HX1.out.below hb1 HX1.out.lt).cell 0; have i1 := (HX1.out.below hb1 HX1.out.lt).cell 1; simp at j0 j1 i0 i1) | (go_at_call_of 43 (Value.agg #[.slice e0 d2.length f0, .slice e1 s2.length f1]); (with_reducible refine (HF2.out _ (below_next HAL.out hb1)).mono ?_); rintro e w2 ⟨rfl, hb2⟩; have k0 := ((HX2.out.below hb1 HX2.out.lt).next hb2).cell 0; have k1 := ((HX2.out.below hb1 HX2.out.lt).next hb2).cell 1; have l0 := ((HX1.out.below hb1 HX1.out.lt).next hb2).cell 0; have l1 := ((HX1.out.below hb1 HX1.out.lt).next hb2).cell 1; simp at k0 k1 l0 l1) | (go_at_call 44; (with_reducible refine (HSS.out _ (below_next (below_next HAL.out hb1) hb2)).mono ?_); rintro e w3 ⟨rfl, hb3⟩) | fail)
  have hal3 := below_next (below_next (below_next HAL.out hb1) hb2) hb3
  have hZ1 := ((HX1.out.below hb1 HX1.out.lt).next hb2).next hb3
  have hZ2 := ((HX2.out.below hb1 HX2.out.lt).next hb2).next hb3
  clear x0 x1 y0 y1 j0 j1 i0 i1 k0 k1 l0 l1 HX1 HX2 HAL HF1 HF2 HSS hb1 hb2 hb3
  have HX1 := Lib.hid hZ1; clear hZ1
  have HX2 := Lib.hid hZ2; clear hZ2
  have HAL := Lib.hid hal3; clear hal3
  have ND := neq_decl
  go_wp2_with fail
  go_loopw [5] (fun x wr => ∃ i : Nat, x = .int .i64 i ∧ i ≤ d1.length ∧ Hid (Q = sameL (d1.drop i) (d2.drop i)) ∧ Below w3.heap.size w3 wr) (fun x _ => d1.length - (intOf x).toNat)
  case atStart => exact ⟨0, rfl, by omega, HE, Below.refl _ _⟩
  case round =>
    obtain ⟨i, rfl, hi, heq, hbr⟩ := hrel
    have hY1 := HX1.out.below hbr HX1.out.lt
    have hY2 := HX2.out.below hbr HX2.out.lt
    have e1 : wr.cell? ⟨w.heap.size, 0, none⟩ = some (.slice a0 d1.length c0) := hY1.cell 0
    have e2 : wr.cell? ⟨w.heap.size + 1, 0, none⟩ = some (.slice e0 d2.length f0) := hY2.cell 0
    have HBR := Lib.hid hbr; clear hbr hY1 hY2
    by_cases hlt : i < d1.length
    · have hlt2 : i < d2.length := by have := HLEN.out; omega
      have hbi : (i : Int) + 1 ≤ 9223372036854775807 := by unfold maxLen at hcm1; omega
      have hxl : ¬ d1.length = 0 := by omega
      have hxl2 : ¬ d2.length = 0 := by omega
      obtain ⟨b, o, rfl, hrow⟩ := HROW1.out.resolve_left hxl
      obtain ⟨b2, o2, rfl, hrow2⟩ := HROW1'.out.resolve_left hxl2
      have hold : Below w.heap.size w wr := HAL.out.trans (HBR.out.mono HAL.out.size)
      obtain ⟨hty, u0, u1, m0, m1, hnd⟩ := SlIn.item2 rfl hrow i hlt
      obtain ⟨hty2, t0, t1, p0, p1, hnd2⟩ := SlIn.item2 rfl hrow2 i hlt2
      have kk := keeps_below hold
      have g0 := kk _ _ _ m0
      have g1 := kk _ _ _ m1
      have q0 := kk _ _ _ p0
      have q1 := kk _ _ _ p1
      have HD := heq.out.trans (sameL_drop hlt hlt2)
      obtain ⟨X, hX⟩ : ∃ X, d1[i] = X := ⟨_, rfl⟩
      rw [hX] at hnd hty HD
      obtain ⟨X', hX'⟩ : ∃ X, d2[i] = X := ⟨_, rfl⟩
      rw [hX'] at hnd2 hty2 HD
      clear hX hX' m0 m1 p0 p1 kk hold hrow hrow2 heq
      obtain ⟨ty, k, n, nm, xs, cs, ts, es⟩ := X
      simp only [Nd.ty] at hty
      subst hty
      unfold NdIn at hnd
      obtain ⟨hz, -, -, -, vx, vc, vt, ve, hvs, -⟩ := hnd
      simp only [fits] at hz
      obtain ⟨rfl, rfl, rfl, rfl, rfl⟩ := hz
      simp only [lay, List.cons.injEq, and_true] at hvs
      obtain ⟨rfl, rfl⟩ := hvs
      obtain ⟨ty', k', n', nm', xs', cs', ts', es'⟩ := X'
      simp only [Nd.ty] at hty2
      subst hty2
      unfold NdIn at hnd2
      obtain ⟨hz, -, -, -, vx, vc, vt, ve, hvs, -⟩ := hnd2
      simp only [fits] at hz
      obtain ⟨rfl, rfl, rfl, rfl, rfl⟩ := hz
      simp only [lay, List.cons.injEq, and_true] at hvs
      obtain ⟨rfl, rfl⟩ := hvs
      have hS : sameN (.mk .D 0 n nm [] [] [] []) (.mk .D 0 n' nm' [] [] [] []) = ((nm.toList == nm'.toList) && (n == n')) := by
        unfold sameN
        simp [sameL, Bool.and_comm]
      rw [hS] at HD
      clear hS
      obtain ⟨S, hS⟩ : ∃ S, ((nm.toList == nm'.toList) && (n == n')) = S := ⟨_, rfl⟩
      rw [hS] at HD
      have nd := fun w => ND n n' nm nm' w
      rw [hS] at nd
      clear hS ND
      have HD2 := Lib.hid HD; clear HD
      obtain ⟨T, hT⟩ : ∃ T, (!S) = T := ⟨_, rfl⟩
      rw [hT] at nd
      have HT := Lib.hid hT; clear hT
      go_upto_region 6 with fail
      go_cut [48] (fun s wx => s = .bool T ∧ Below w3.heap.size w3 wx)
      case first =>
        go_region
        go_wp2_with fail
        go_meet
        exact ⟨rfl, HBR.out.drew⟩
      case rest =>
        obtain ⟨rfl, hb⟩ := hcut
        clear nd
        cases T with
        | true =>
          have hS : S = false := by simpa using HT.out
          have e : Q = false := by rw [HD2.out, hS]; rfl
          clear HD2 HE HT hS
          subst e
          go_wp2_with fail
          go_ret
          exact ⟨rfl, HAL.out.trans (hb.mono HAL.out.size)⟩
        | false =>
          have hS : S = true := by simpa using HT.out
          have e : Q = sameL (d1.drop (i + 1)) (d2.drop (i + 1)) := by rw [HD2.out, hS]; rfl
          have HE2 := Lib.hid e; clear e HD2 HE HT hS
          go_wp2_with fail
          go_roundw
          case rel => exact ⟨i + 1, by go_num, by omega, HE2, hb⟩
          case measure => simp [intOf]; omega
    · obtain rfl : i = d1.length := by omega
      have e : Q = true := heq.out.trans (sameL_end HLEN.out)
      clear heq HE
      subst e
      go_wp2_with fail
      go_ret
      exact ⟨rfl, HAL.out.trans (HBR.out.mono HAL.out.size)⟩
end Go.Proofs.Ytpildlaloclanaa
