/-
  gnomonlaw9.asserts: proved is that it counts a block's asserts; a well program's blocks are where they may be.
-/
import Derived.Test.YtgbpobbdijmikaaDoorQAsrP
import Derived.Deep.RegionHeld3

namespace Go.Proofs.YtgbpobbdijmikaaDoor
open Go Go.RowKit Go.Maps

mutual
theorem blN_of : ∀ (x : Nd), x.ty = .S → fitN x → (∀ y ∈ allN x, wellN y = true) → blN x
  | .mk ty k n nm xs cs ts es, hty, hf, hall => by
    simp only [Nd.ty] at hty
    subst hty
    unfold fitN at hf
    obtain ⟨-, -, -, ht, he⟩ := hf
    have e : allN (.mk .S k n nm xs cs ts es) = .mk .S k n nm xs cs ts es :: (allL cs ++ (allL xs ++ (allL ts ++ allL es))) := by unfold allN; rfl
    rw [e] at hall
    have h1 : wellS k nm xs.length cs.length ts.length es.length = true := hall _ (List.mem_cons_self ..)
    unfold wellS kindS ownS at h1
    simp only [Bool.and_eq_true, Bool.or_eq_true, decide_eq_true_eq, beq_iff_eq] at h1
    obtain ⟨-, -, -, hT, hE⟩ := h1
    unfold blN
    refine ⟨⟨fun h3 h4 => ?_, fun h3 => ?_⟩, blL_of ts ht (fun y hy => hall y (List.mem_cons_of_mem _ (List.mem_append_right _ (List.mem_append_right _ (List.mem_append_left _ hy))))), blL_of es he (fun y hy => hall y (List.mem_cons_of_mem _ (List.mem_append_right _ (List.mem_append_right _ (List.mem_append_right _ hy)))))⟩
    · exact List.eq_nil_of_length_eq_zero (by rcases hT with h | h | h <;> omega)
    · exact List.eq_nil_of_length_eq_zero (by rcases hE with h | h <;> omega)
theorem blL_of : ∀ (l : List Nd), fitL .S l → (∀ y ∈ allL l, wellN y = true) → blL l
  | [], _, _ => by unfold blL; trivial
  | x :: r, hf, hall => by
    unfold fitL at hf
    have e : allL (x :: r) = allN x ++ allL r := by rw [allL]
    rw [e] at hall
    unfold blL
    exact ⟨blN_of x hf.1 hf.2.1 (fun y hy => hall y (List.mem_append_left _ hy)), blL_of r hf.2.2 (fun y hy => hall y (List.mem_append_right _ hy))⟩
end
theorem prog_bl {ds ss : List Nd} (hs : fitL .S ss) (hz : (wellP ds ss).2 = 0) : blL ss :=
  blL_of ss hs (fun y hy => prog_all (wellP_ok hz).1 y (List.mem_append_right _ hy))
/-- A program's graph passes and fails as often as it asserts. -/
theorem lowD_ct {ds ss : List Nd} (hs : fitL .S ss) (hz : (wellP ds ss).2 = 0) : cntE 13 (lowD ds ss).eds = asL ss ∧ cntE 14 (lowD ds ss).eds = asL ss := by
  have h1 := (prog_fm hs hz).1
  have h2 := prog_bl hs hz
  unfold lowD lowP lwB blkF
  obtain ⟨P, hP⟩ : ∃ p, begP ss.isEmpty 0 ⟨1, 0, 0, []⟩ = p := ⟨_, rfl⟩
  have hb := beg_ct ss.isEmpty ⟨1, 0, 0, []⟩
  obtain ⟨S1, hS⟩ : ∃ p, begS ss.isEmpty ⟨1, 0, 0, []⟩ = p := ⟨_, rfl⟩
  rw [hP, hS]
  rw [hS] at hb
  have h3 := lwL_ct (lvD ds) ss 0 (({ S1 with ext := P } : Lw)).pts P ((({ S1 with ext := P } : Lw)).more (ss.length - 1)) h1 h2
  have e1 : ((({ S1 with ext := P } : Lw)).more (ss.length - 1)).eds = S1.eds := rfl
  refine ⟨?_, ?_⟩
  · rw [h3.p, e1, hb.p]; simp [cntE]
  · rw [h3.f, e1, hb.f]; simp [cntE]
theorem asL_take : ∀ (l : List Nd) (i : Nat) (h : i < l.length), asL (l.take (i + 1)) = asL (l.take i) + asN l[i]
  | x :: r, 0, _ => by simp [asL]
  | x :: r, i + 1, h => by
    have := asL_take r i (by simpa using h)
    simp only [List.take_succ_cons, asL, List.getElem_cons_succ]
    omega
theorem asL_take_le : ∀ (l : List Nd) (i : Nat), asL (l.take i) ≤ asL l
  | [], i => by simp
  | x :: r, 0 => by simp [asL]
  | x :: r, i + 1 => by
    have := asL_take_le r i
    simp only [List.take_succ_cons, asL]
    omega
theorem asN_parts (x : Nd) : asN x = (if kindN x = 5 then 1 else 0) + (asL (thenN x) + asL (elseN x)) := by
  cases x
  rw [asN]
  rfl
theorem kids_sz (x : Nd) : szL (thenN x) ≤ szN x ∧ szL (elseN x) ≤ szN x := by
  cases x
  rw [szN]
  simp only [thenN, elseN]
  omega
theorem szN_mem (l : List Nd) (i : Nat) (h : i < l.length) : szN l[i] ≤ szL l := by
  have h1 := szL_drop l i
  rw [List.drop_eq_getElem_cons h, szL] at h1
  omega
theorem kidsS_of {w : World} {x : Nd} {k : Int} {s : ByteArray} {v1 v2 v3 v4 : Value} (hty : x.ty = .S) (h : NdIn w x [.int .i64 k, .string s, v1, v2, v3, v4]) : SlIn w .S (thenN x) v3 ∧ SlIn w .S (elseN x) v4 := by
  obtain ⟨ty, k', n', nm', xs', cs', ts', es'⟩ := x
  simp only [Nd.ty] at hty
  subst hty
  unfold NdIn at h
  obtain ⟨-, -, -, -, vx, vc, vt, ve, e, -, -, ht, he⟩ := h
  simp only [lay, List.cons.injEq, and_true] at e
  obtain ⟨-, -, -, -, rfl, rfl⟩ := e
  exact ⟨ht, he⟩
theorem kidL_lt (x : Nd) : SizeOf.sizeOf (thenN x) < SizeOf.sizeOf x ∧ SizeOf.sizeOf (elseN x) < SizeOf.sizeOf x := by
  cases x
  simp only [thenN, elseN, Nd.mk.sizeOf_spec]
  omega
def AsC (l : List Nd) : Prop := ∀ (v : Value) (w0 w : World), SlIn w0 .S l v → Below w0.heap.size w0 w → szL l ≤ 1099511627776 →
  Calls Tryd.prog 7 #[v] w (fun e w' => e = .returned (.int .i64 (asL l : Int)) ∧ Below w.heap.size w w')
set_option maxRecDepth 100000 in
set_option maxHeartbeats 8000000 in
theorem asserts_any : ∀ (N : Nat) (l : List Nd), SizeOf.sizeOf l ≤ N → AsC l := by
  intro N
  induction N with
  | zero =>
    intro l hN
    cases l <;> simp at hN
  | succ N ih =>
    intro l hN v w0 w hin hw hsz
    have hch : ∀ i (hi : i < l.length), AsC (thenN l[i]) ∧ AsC (elseN l[i]) := by
      intro i hi
      have h1 := List.sizeOf_lt_of_mem (List.getElem_mem (l := l) (n := i) hi)
      have h2 := kidL_lt l[i]
      exact ⟨ih _ (by omega), ih _ (by omega)⟩
    clear ih hN
    obtain ⟨a, c, rfl, hlc, hcm, hrow⟩ := hin
    have hle := asL_le l
    have hls := len_sz l
    have HH := Lib.hid (And.intro hw (And.intro hsz (And.intro hch (And.intro hle (And.intro hls hrow)))))
    have hbg : (l.length : Int) ≤ 1099511627776 := by omega
    clear hw hsz hch hle hls hrow hlc hcm
    go_enter Tryd.func7, Tryd.ntmps7
    go_upto_block 0 with fail
    go_wp2_with fail
    go_loopw [3, 4] (fun n x wr => ∃ (i : Nat), n = .int .i64 (asL (l.take i) : Int) ∧ x = .int .i64 i ∧ i ≤ l.length ∧ Below w.heap.size w wr) (fun _ x _ => l.length - (intOf x).toNat)
    case atStart => exact ⟨0, by simp [asL], rfl, by omega, Below.refl _ _⟩
    case round =>
      obtain ⟨i, rfl, rfl, hi, hbr⟩ := hrel
      have HBR := Lib.hid hbr
      clear hbr
      by_cases hlt : i < l.length
      · have hbi : (i : Int) + 1 ≤ 9223372036854775807 := by omega
        have hold : Below w0.heap.size w0 wr := HH.out.1.trans (HBR.out.mono HH.out.1.size)
        obtain ⟨b0, o0, rfl, hrw⟩ := HH.out.2.2.2.2.2.resolve_left (by omega)
        obtain ⟨k, ns, a1, l1, c1, a2, l2, c2, a3, l3, c3, a4, l4, c4, hkd, hnd, k0, k1, k2, k3, k4, k5⟩ := sitem_at hrw hold i hlt
        obtain ⟨hty, -⟩ := RowIn.at l b0 o0 i hlt hrw
        obtain ⟨hT, hE⟩ := kidsS_of hty hnd
        have hss := szN_mem l i hlt
        obtain ⟨hs1, hs2⟩ := kids_sz l[i]
        have hC1 := fun w1 (hb : Below w0.heap.size w0 w1) => (HH.out.2.2.1 i hlt).1 _ w0 w1 hT hb (by have := HH.out.2.1; omega)
        have hC2 := fun w1 (hb : Below w0.heap.size w0 w1) => (HH.out.2.2.1 i hlt).2 _ w0 w1 hE hb (by have := HH.out.2.1; omega)
        have htk := asL_take l i hlt
        have htl := asL_take_le l (i + 1)
        rw [asN_parts, hkd] at htk
        obtain ⟨A, hA⟩ : ∃ n, asL (l.take i) = n := ⟨_, rfl⟩
        obtain ⟨A2, hA2⟩ : ∃ n, asL (l.take (i + 1)) = n := ⟨_, rfl⟩
        obtain ⟨B, hB⟩ : ∃ n, asL (thenN l[i]) = n := ⟨_, rfl⟩
        obtain ⟨C, hC⟩ : ∃ n, asL (elseN l[i]) = n := ⟨_, rfl⟩
        rw [hA, hA2, hB, hC] at htk
        rw [hA2] at htl
        rw [hA]
        simp only [hB] at hC1
        simp only [hC] at hC2
        have htot := HH.out.2.1
        have hle := HH.out.2.2.2.1
        have HC1 := Lib.hid hC1
        have HC2 := Lib.hid hC2
        have HO := Lib.hid hold
        have HA2 := Lib.hid hA2
        clear hC1 hC2 hold hA hB hC hA2 hss hs1 hs2 hT hE hnd hrw hty k1 k2 k3 hkd
        by_cases h5 : k = 5
        · subst h5
          rw [if_pos rfl] at htk
          have w1 : (A : Int) + 1 ≤ 9223372036854775807 := by omega
          have w2 : (A : Int) + 1 + (B : Int) ≤ 9223372036854775807 := by omega
          have w3 : (A : Int) + 1 + (B : Int) + (C : Int) ≤ 9223372036854775807 := by omega
          have HT := Lib.hid (And.intro (show (A2 : Int) = A + 1 + B + C by omega) (And.intro htl hi))
          clear htk htl htot hle hbg
          go_upto_region 7 with fail
          go_region_with (first | (go_at_call 7; first | ((with_reducible refine (HC2.out _ (HO.out.trans (HB2.out.mono HO.out.size))).mono ?_); rintro e w3 ⟨rfl, hb3⟩; have HB3 := Lib.hid (HB2.out.trans (hb3.mono HB2.out.size)); clear hb3) | ((with_reducible refine (HC1.out _ HO.out.drew).mono ?_); rintro e w2 ⟨rfl, hb2⟩; have HB2 := Lib.hid (show Below wr.heap.size wr w2 from (Below.refl _ wr).drew.trans hb2); have j4 := keeps_below HB2.out _ _ _ k4; have j5 := keeps_below HB2.out _ _ _ k5; clear hb2) | fail) | fail)
          all_goals
            go_wp2_with fail
            go_roundw
            case rel => exact ⟨i + 1, by rw [HA2.out, HT.out.1], by go_num, by have := HT.out.2.2; omega, HBR.out.trans (HB3.out.mono HBR.out.size)⟩
            case measure => simp [intOf]; omega
        · have t5 : (k == 5) = false := by simpa using h5
          rw [if_neg h5] at htk
          have w2 : (A : Int) + (B : Int) ≤ 9223372036854775807 := by omega
          have w3 : (A : Int) + (B : Int) + (C : Int) ≤ 9223372036854775807 := by omega
          have HT := Lib.hid (And.intro (show (A2 : Int) = A + B + C by omega) (And.intro htl hi))
          clear htk htl htot hle hbg h5
          go_upto_region 7 with fail
          go_region_with (first | (go_at_call 7; first | ((with_reducible refine (HC2.out _ (HO.out.trans (HB2.out.mono HO.out.size))).mono ?_); rintro e w3 ⟨rfl, hb3⟩; have HB3 := Lib.hid (HB2.out.trans (hb3.mono HB2.out.size)); clear hb3) | ((with_reducible refine (HC1.out _ HO.out.drew).mono ?_); rintro e w2 ⟨rfl, hb2⟩; have HB2 := Lib.hid (show Below wr.heap.size wr w2 from (Below.refl _ wr).drew.trans hb2); have j4 := keeps_below HB2.out _ _ _ k4; have j5 := keeps_below HB2.out _ _ _ k5; clear hb2) | fail) | fail)
          all_goals
            go_wp2_with fail
            go_roundw
            case rel => exact ⟨i + 1, by rw [HA2.out, HT.out.1], by go_num, by have := HT.out.2.2; omega, HBR.out.trans (HB3.out.mono HBR.out.size)⟩
            case measure => simp [intOf]; omega
      · obtain rfl : i = l.length := by omega
        rw [List.take_length]
        go_wp2_with fail
        go_ret
        exact ⟨rfl, HBR.out⟩
end Go.Proofs.YtgbpobbdijmikaaDoor
