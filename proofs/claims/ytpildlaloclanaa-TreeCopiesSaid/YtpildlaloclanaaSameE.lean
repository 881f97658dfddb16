/-
  The document's sameness of expressions (gnomonref3's SameExpr): proved is that it answers whether two trees in memory are the same, and that it turns nothing that lay.
-/
import Derived.Test.YtpildlaloclanaaTourS
import Derived.BigQuiet
import Derived.Outline
import Derived.Deep.DeepCutAuto
import Derived.Deep.CutBlock
namespace Go.Proofs.Ytpildlaloclanaa
open Go Go.RowKit

mutual
/-- Two trees are the same. -/
def sameN : Nd → Nd → Bool
  | .mk ty k n nm xs cs ts es, .mk ty2 k2 n2 nm2 xs2 cs2 ts2 es2 => decide (ty = ty2) && (k == k2) && (n == n2) && (nm.toList == nm2.toList) && sameL xs xs2 && sameL cs cs2 && sameL ts ts2 && sameL es es2
def sameL : List Nd → List Nd → Bool
  | [], [] => true
  | x :: r, y :: s => sameN x y && sameL r s
  | [], _ :: _ => false
  | _ :: _, [] => false
end
theorem sameL_len : ∀ {l m : List Nd}, sameL l m = true → l.length = m.length
  | [], [], _ => rfl
  | x :: r, y :: s, h => by
    unfold sameL at h
    simp only [Bool.and_eq_true] at h
    simpa using sameL_len h.2
  | [], _ :: _, h => by unfold sameL at h; cases h
  | _ :: _, [], h => by unfold sameL at h; cases h
theorem sameL_drop {l m : List Nd} {i : Nat} (h : i < l.length) (h2 : i < m.length) : sameL (l.drop i) (m.drop i) = (sameN l[i] m[i] && sameL (l.drop (i + 1)) (m.drop (i + 1))) := by
  rw [List.drop_eq_getElem_cons h, List.drop_eq_getElem_cons h2, sameL]
theorem sameL_end {l m : List Nd} (h : l.length = m.length) : sameL (l.drop l.length) (m.drop l.length) = true := by
  rw [List.drop_length, h, List.drop_length, sameL]
/-- A call that says whether two nodes are the same. -/
def SameOf (F : FuncId) (w0 : World) (x y : Nd) : Prop := ∀ (us vs : List Value) (w : World), NdIn w0 x us → NdIn w0 y vs → Below w0.heap.size w0 w →
  Calls Try.prog F #[.agg us.toArray, .agg vs.toArray] w (fun e w' => e = .returned (.bool (sameN x y)) ∧ Below w.heap.size w w')

set_option maxRecDepth 100000 in
set_option maxHeartbeats 4000000 in
theorem sameE_any (w0 : World) : ∀ (N : Nat) (x y : Nd), SizeOf.sizeOf x ≤ N → x.ty = .E → y.ty = .E → SameOf 67 w0 x y := by
  intro N
  induction N with
  | zero =>
    intro x y hN
    obtain ⟨ty, k, n, nm, xs, cs, ts, es⟩ := x
    simp only [Nd.mk.sizeOf_spec] at hN
    omega
  | succ N ih =>
    intro x y hN hx hy us vs w hin hjn hw
    have hmem := fun y h => Nd.mem_size (x := x) (y := y) h
    obtain ⟨ty, k, n, nm, xs, cs, ts, es⟩ := x
    obtain ⟨ty2, k2, n2, nm2, xs2, cs2, ts2, es2⟩ := y
    simp only [Nd.ty] at hx hy
    subst hx hy
    simp only [Nd.xs, Nd.cs, Nd.ts, Nd.es] at hmem
    unfold NdIn at hin hjn
    obtain ⟨⟨rfl, rfl, rfl⟩, -, -, -, vx, vc, vt, ve, rfl, hxs, -, -, -⟩ := hin
    obtain ⟨⟨rfl, rfl, rfl⟩, -, -, -, vx2, vc2, vt2, ve2, rfl, hxs2, -, -, -⟩ := hjn
    obtain ⟨a, c, rfl, hlc, hcm, hrow⟩ := hxs
    obtain ⟨a2, c2, rfl, hlc2, hcm2, hrow2⟩ := hxs2
    change Calls _ _ #[.agg #[.int .i64 k, .int .i64 n, .string nm, .slice a xs.length c], .agg #[.int .i64 k2, .int .i64 n2, .string nm2, .slice a2 xs2.length c2]] w _
    have HIH := Lib.hid (fun i (h : i < xs.length) (j) (h2 : j < xs2.length) (h3 : (xs[i]).ty = .E) (h4 : (xs2[j]).ty = .E) => ih xs[i] xs2[j] (by have := hmem _ (.inl (List.getElem_mem h)); omega) h3 h4)
    clear ih hmem hN
    have HROW := Lib.hid hrow; clear hrow
    have HROW2 := Lib.hid hrow2; clear hrow2
    have hres : sameN (.mk .E k n nm xs [] [] []) (.mk .E k2 n2 nm2 xs2 [] [] []) = ((k == k2) && (n == n2) && (nm.toList == nm2.toList) && sameL xs xs2) := by
      unfold sameN
      simp [sameL]
    obtain ⟨Q, hQ⟩ : ∃ Q, sameN (.mk .E k n nm xs [] [] []) (.mk .E k2 n2 nm2 xs2 [] [] []) = Q := ⟨_, rfl⟩
    rw [hQ] at hres ⊢
    clear hQ
    have HQ := Lib.hid hres; clear hres
    have hal : Below w.heap.size w ((w.alloc (.cells #[.int .i64 k, .int .i64 n, .string nm, .slice a xs.length c] 42)).alloc (.cells #[.int .i64 k2, .int .i64 n2, .string nm2, .slice a2 xs2.length c2] 42)) := ((Below.refl _ w).alloc (Nat.le_refl _) _).alloc (by simp) _
    have HAL := Lib.hid hal; clear hal
    cases h1 : (k != k2) with
    | true =>
      have e : Q = false := by rw [HQ.out]; rw [bne, Bool.not_eq_true'] at h1; rw [h1]; simp only [Bool.false_and]
      clear HIH HROW HROW2 HQ
      subst e
      go_enter Try.func67, Try.ntmps67
      go_wp2_with fail
      go_ret
      exact ⟨rfl, HAL.out⟩
    | false =>
    cases h2 : (n != n2) with
    | true =>
      have e : Q = false := by rw [HQ.out]; rw [bne, Bool.not_eq_true'] at h2; rw [h2]; simp only [Bool.and_false, Bool.false_and]
      clear HIH HROW HROW2 HQ
      subst e
      go_enter Try.func67, Try.ntmps67
      go_wp2_with fail
      go_ret
      exact ⟨rfl, HAL.out⟩
    | false =>
    cases h3 : (nm.toList == nm2.toList) with
    | false =>
      have e : Q = false := by rw [HQ.out]; rw [h3]; simp only [Bool.and_false, Bool.false_and]
      clear HIH HROW HROW2 HQ
      subst e
      go_enter Try.func67, Try.ntmps67
      go_wp2_with fail
      go_ret
      exact ⟨rfl, HAL.out⟩
    | true =>
    cases h4 : ((xs.length : Int) != (xs2.length : Int)) with
    | true =>
      have e : Q = false := by
        rw [HQ.out, Bool.and_eq_false_iff]
        right
        cases hs : sameL xs xs2 with
        | false => rfl
        | true =>
          have := sameL_len hs
          simp [this] at h4
      clear HIH HROW HROW2 HQ
      subst e
      go_enter Try.func67, Try.ntmps67
      go_wp2_with fail
      go_ret
      exact ⟨rfl, HAL.out⟩
    | false =>
    have e : Q = sameL xs xs2 := by
      rw [HQ.out]
      rw [bne, Bool.not_eq_false'] at h1 h2
      rw [h1, h2, h3]
      rfl
    have hlen : xs.length = xs2.length := by
      rw [bne, Bool.not_eq_false', beq_iff_eq] at h4
      omega
    have HLEN := Lib.hid hlen; clear hlen
    have HE := Lib.hid e; clear e HQ
    obtain ⟨W1, hW1⟩ : ∃ W1, (w.alloc (.cells #[.int .i64 k, .int .i64 n, .string nm, .slice a xs.length c] 42)).alloc (.cells #[.int .i64 k2, .int .i64 n2, .string nm2, .slice a2 xs2.length c2] 42) = W1 := ⟨_, rfl⟩
    rw [hW1] at HAL
    have hX1 : Blk W1 w.heap.size #[.int .i64 k, .int .i64 n, .string nm, .slice a xs.length c] 42 := by rw [← hW1]; exact (Blk.new w _ _).alloc _
    have hX2 : Blk W1 (w.heap.size + 1) #[.int .i64 k2, .int .i64 n2, .string nm2, .slice a2 xs2.length c2] 42 := by
      have h := Blk.new (w.alloc (.cells #[.int .i64 k, .int .i64 n, .string nm, .slice a xs.length c] 42)) #[.int .i64 k2, .int .i64 n2, .string nm2, .slice a2 xs2.length c2] 42
      rw [hW1, World.size_alloc] at h
      exact h
    have HX1 := Lib.hid hX1; clear hX1
    have HX2 := Lib.hid hX2; clear hX2
    have HW1 := Lib.hid hW1; clear hW1
    go_enter Try.func67, Try.ntmps67
    go_upto_region 3 with fail
    rw [HW1.out]
    clear HW1
    go_wp2_with fail
    go_loopw [5] (fun x wr => ∃ i : Nat, x = .int .i64 i ∧ i ≤ xs.length ∧ Hid (Q = sameL (xs.drop i) (xs2.drop i)) ∧ Below W1.heap.size W1 wr) (fun x _ => xs.length - (intOf x).toNat)
    case atStart => exact ⟨0, rfl, by omega, HE, Below.refl _ _⟩
    case round =>
      obtain ⟨i, rfl, hi, heq, hbr⟩ := hrel
      have hY1 := HX1.out.below hbr HX1.out.lt
      have hY2 := HX2.out.below hbr HX2.out.lt
      have e1 : wr.cell? ⟨w.heap.size, 3, none⟩ = some (.slice a xs.length c) := hY1.cell 3
      have e2 : wr.cell? ⟨w.heap.size + 1, 3, none⟩ = some (.slice a2 xs2.length c2) := hY2.cell 3
      have HBR := Lib.hid hbr; clear hbr hY1 hY2
      by_cases hlt : i < xs.length
      · have hlt2 : i < xs2.length := by have := HLEN.out; omega
        have hbi : (i : Int) + 1 ≤ 9223372036854775807 := by unfold maxLen at hcm; omega
        have hxl : ¬ xs.length = 0 := by omega
        have hxl2 : ¬ xs2.length = 0 := by omega
        obtain ⟨b, o, rfl, hrow⟩ := HROW.out.resolve_left hxl
        obtain ⟨b2, o2, rfl, hrow2⟩ := HROW2.out.resolve_left hxl2
        have hold : Below w0.heap.size w0 wr := hw.trans ((HAL.out.trans (HBR.out.mono HAL.out.size)).mono hw.size)
        obtain ⟨hty, u0, u1, u2, u3, m0, m1, m2, m3, hnd⟩ := SlIn.item4 rfl hrow i hlt
        obtain ⟨hty2, t0, t1, t2, t3, p0, p1, p2, p3, hnd2⟩ := SlIn.item4 rfl hrow2 i hlt2
        obtain ⟨nk, nn, ns, na, nl, nc, rfl, rfl, rfl, rfl⟩ := NdIn.formE hty hnd
        obtain ⟨nk', nn', ns', na', nl', nc', rfl, rfl, rfl, rfl⟩ := NdIn.formE hty2 hnd2
        have kk := keeps_below hold
        have g0 := kk _ _ _ m0
        have g1 := kk _ _ _ m1
        have g2 := kk _ _ _ m2
        have g3 := kk _ _ _ m3
        have q0 := kk _ _ _ p0
        have q1 := kk _ _ _ p1
        have q2 := kk _ _ _ p2
        have q3 := kk _ _ _ p3
        have HC := Lib.hid (HIH.out i hlt i hlt2 hty hty2 _ _ wr.drew hnd hnd2 hold.drew)
        have HD := Lib.hid (heq.out.trans (sameL_drop hlt hlt2))
        obtain ⟨S, hS⟩ : ∃ S, sameN xs[i] xs2[i] = S := ⟨_, rfl⟩
        rw [hS] at HC HD
        clear hS m0 m1 m2 m3 p0 p1 p2 p3 kk hnd hnd2 hty hty2 hold hrow hrow2 heq
        obtain ⟨T, hT⟩ : ∃ T, (!S) = T := ⟨_, rfl⟩
        have HT := Lib.hid hT; clear hT
        go_upto_region 6 with fail
        go_cut [52] (fun s wx => s = .bool T ∧ Below W1.heap.size W1 wx)
        case first =>
          go_region_with (go_at_call 67; (with_reducible refine HC.out.mono ?_); rintro e w' ⟨rfl, hb⟩)
          all_goals
            go_wp2_with fail
            go_meet
            exact ⟨by rw [← HT.out], HBR.out.drew.trans (hb.mono HBR.out.size)⟩
        case rest =>
          obtain ⟨rfl, hb⟩ := hcut
          cases T with
          | true =>
            have hS : S = false := by simpa using HT.out
            have e : Q = false := by rw [HD.out, hS]; rfl
            clear HD HE HT hS HC
            subst e
            go_wp2_with fail
            go_ret
            exact ⟨rfl, HAL.out.trans (hb.mono HAL.out.size)⟩
          | false =>
            have hS : S = true := by simpa using HT.out
            have e : Q = sameL (xs.drop (i + 1)) (xs2.drop (i + 1)) := by rw [HD.out, hS]; rfl
            have HE2 := Lib.hid e; clear e HD HT hS HC
            go_wp2_with fail
            go_roundw
            case rel => exact ⟨i + 1, by go_num, by omega, HE2, hb⟩
            case measure => simp [intOf]; omega
      · obtain rfl : i = xs.length := by omega
        have e : Q = true := heq.out.trans (sameL_end HLEN.out)
        clear heq HE
        subst e
        go_wp2_with fail
        go_ret
        exact ⟨rfl, HAL.out.trans (HBR.out.mono HAL.out.size)⟩
end Go.Proofs.Ytpildlaloclanaa
