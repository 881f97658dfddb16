/-
  The project's alike, EqualFunc over two tours' nodes, and Equal of two programs (tree's): proved is what each answers, and that it turns nothing that lay.
-/
import Derived.Test.YtpildlaloclanaaEqLab
import Derived.Test.YtpildlaloclanaaSameE
import Derived.Test.YtpildlaloclanaaTops
import Derived.Test.YtpildlaloclanaaPlainC
namespace Go.Proofs.Ytpildlaloclanaa
open Go Go.RowKit

/-- Two nodes have one label. -/
def labB : Nd → Nd → Bool
  | .mk ty k n s xs cs ts es, .mk ty2 k2 n2 s2 xs2 cs2 ts2 es2 => (letter ty == letter ty2) && (k == k2) && (n == n2) && (s.toList == s2.toList) && (((cs.length : Int) == cs2.length) && ((xs.length : Int) == xs2.length) && ((ts.length : Int) == ts2.length) && ((es.length : Int) == es2.length))

set_option maxRecDepth 100000 in
set_option maxHeartbeats 4000000 in
theorem alike_any (x y : Nd) (us vs : List Value) (w0 w0' w : World) (hin : NdIn w0 x us) (hjn : NdIn w0' y vs) :
    Calls Try.prog 42 #[nodeV x.ty us, nodeV y.ty vs] w (fun e w' => e = .returned (.bool (labB x y)) ∧ Below w.heap.size w w') := by
  have HX := Lib.hid (fun w => labelOf_any x us w0 w hin)
  have HY := Lib.hid (fun w => labelOf_any y vs w0' w hjn)
  clear hin hjn
  obtain ⟨U, hU⟩ : ∃ U, nodeV x.ty us = U := ⟨_, rfl⟩
  obtain ⟨V, hV⟩ : ∃ V, nodeV y.ty vs = V := ⟨_, rfl⟩
  rw [hU] at HX ⊢
  rw [hV] at HY ⊢
  clear hU hV
  obtain ⟨ty, k, n, nm, xs, cs, ts, es⟩ := x
  obtain ⟨ty2, k2, n2, nm2, xs2, cs2, ts2, es2⟩ := y
  unfold labV at HX HY
  have yq := eq_lab
  go_enter Try.func42, Try.ntmps42
  go_wp2_with (first | (go_at_call_of 65 U; (with_reducible refine (HX.out _).mono ?_); rintro e w1 ⟨rfl, hb1⟩) | (go_at_call_of 65 V; (with_reducible refine (HY.out _).mono ?_); rintro e w2 ⟨rfl, hb2⟩) | fail)
  go_ret
  exact ⟨rfl, hb1.trans (hb2.mono hb1.size)⟩
/-- Two rows of nodes have one row of labels. -/
def eqL : List Nd → List Nd → Bool
  | [], [] => true
  | x :: r, y :: s => labB x y && eqL r s
  | [], _ :: _ => false
  | _ :: _, [] => false
theorem eqL_len : ∀ {l m : List Nd}, eqL l m = true → l.length = m.length
  | [], [], _ => rfl
  | x :: r, y :: s, h => by
    unfold eqL at h
    simp only [Bool.and_eq_true] at h
    simpa using eqL_len h.2
  | [], _ :: _, h => by unfold eqL at h; cases h
  | _ :: _, [], h => by unfold eqL at h; cases h
theorem eqL_drop {l m : List Nd} {i : Nat} (h : i < l.length) (h2 : i < m.length) : eqL (l.drop i) (m.drop i) = (labB l[i] m[i] && eqL (l.drop (i + 1)) (m.drop (i + 1))) := by
  rw [List.drop_eq_getElem_cons h, List.drop_eq_getElem_cons h2, eqL]
theorem eqL_end {l m : List Nd} (h : l.length = m.length) : eqL (l.drop l.length) (m.drop l.length) = true := by
  rw [List.drop_length, h, List.drop_length, eqL]

set_option maxRecDepth 100000 in
set_option maxHeartbeats 4000000 in
theorem equalFunc_any (w0 w0' : World) (l m : List Nd) (b o c b2 o2 c2 : Nat) (a a2 : Option Addr) (w : World) (hlm : l.length ≤ 4096) (ha : l.length = 0 ∨ (a = some ⟨b, o, none⟩ ∧ CellsAre w0 w l b o)) (ha2 : m.length = 0 ∨ (a2 = some ⟨b2, o2, none⟩ ∧ CellsAre w0' w m b2 o2)) :
    Calls Try.prog 41 #[.slice a l.length c, .slice a2 m.length c2, .func (.func 42) #[] #[]] w (fun e w' => e = .returned (.bool (eqL l m)) ∧ Below w.heap.size w w') := by
  have HA := Lib.hid ha; clear ha
  have HA2 := Lib.hid ha2; clear ha2
  obtain ⟨Q, hQ⟩ : ∃ Q, eqL l m = Q := ⟨_, rfl⟩
  rw [hQ]
  cases hne : ((l.length : Int) != (m.length : Int)) with
  | true =>
    have e : Q = false := by
      rw [← hQ]
      cases hs : eqL l m with
      | false => rfl
      | true =>
        have := eqL_len hs
        simp [this] at hne
    clear hQ HA HA2
    subst e
    go_enter Try.func41, Try.ntmps41
    go_wp2_with fail
    go_ret
    exact ⟨rfl, Below.refl _ _⟩
  | false =>
  have hlen : l.length = m.length := by
    rw [bne, Bool.not_eq_false', beq_iff_eq] at hne
    omega
  have HLEN := Lib.hid hlen; clear hlen
  have HQ := Lib.hid hQ.symm; clear hQ
  go_enter Try.func41, Try.ntmps41
  go_wp2_with fail
  go_loopw [17] (fun x wr => ∃ i : Nat, x = .int .i64 i ∧ i ≤ l.length ∧ Hid (Q = eqL (l.drop i) (m.drop i)) ∧ Below w.heap.size w wr) (fun x _ => l.length - (intOf x).toNat)
  case atStart => exact ⟨0, rfl, by omega, HQ, Below.refl _ _⟩
  case round =>
    obtain ⟨i, rfl, hi, heq, hbr⟩ := hrel
    have HBR := Lib.hid hbr; clear hbr
    by_cases hlt : i < l.length
    · have hlt2 : i < m.length := by have := HLEN.out; omega
      have hbi : (i : Int) + 1 ≤ 9223372036854775807 := by omega
      have hxl : ¬ l.length = 0 := by omega
      have hxl2 : ¬ m.length = 0 := by omega
      obtain ⟨rfl, hcells⟩ := HA.out.resolve_left hxl
      obtain ⟨rfl, hcells2⟩ := HA2.out.resolve_left hxl2
      obtain ⟨vs, hc, hnd⟩ := hcells i hlt
      obtain ⟨vs2, hc2, hnd2⟩ := hcells2 i hlt2
      have hbk := World.block_lt_of_cell? w ⟨b, o + i, none⟩ hc
      have hbk2 := World.block_lt_of_cell? w ⟨b2, o2 + i, none⟩ hc2
      have hcr : wr.cell? ⟨b, o + i, none⟩ = some (nodeV l[i].ty vs) := (HBR.out.cell (p := ⟨b, o + i, none⟩) hbk).trans hc
      have hcr2 : wr.cell? ⟨b2, o2 + i, none⟩ = some (nodeV m[i].ty vs2) := (HBR.out.cell (p := ⟨b2, o2 + i, none⟩) hbk2).trans hc2
      have hf := alike_any l[i] m[i] vs vs2 w0 w0' wr hnd hnd2
      have HD := Lib.hid (heq.out.trans (eqL_drop hlt hlt2))
      obtain ⟨S, hS⟩ : ∃ S, labB l[i] m[i] = S := ⟨_, rfl⟩
      rw [hS] at hf HD
      obtain ⟨V, hV⟩ : ∃ V, nodeV l[i].ty vs = V := ⟨_, rfl⟩
      obtain ⟨V2, hV2⟩ : ∃ V, nodeV m[i].ty vs2 = V := ⟨_, rfl⟩
      rw [hV] at hcr hf
      rw [hV2] at hcr2 hf
      have HF := Lib.hid hf; clear hf
      clear hc hcells hnd hV hc2 hcells2 hnd2 hV2 hS heq
      cases S with
      | false =>
        have e : Q = false := HD.out
        clear HD HQ
        subst e
        go_wp2_with (first | (go_at_call 42; (with_reducible refine HF.out.mono ?_); rintro e w2 ⟨rfl, hb2⟩) | fail)
        go_ret
        exact ⟨rfl, HBR.out.trans (hb2.mono HBR.out.size)⟩
      | true =>
        have e : Q = eqL (l.drop (i + 1)) (m.drop (i + 1)) := HD.out
        have HE2 := Lib.hid e; clear e HD
        go_wp2_with (first | (go_at_call 42; (with_reducible refine HF.out.mono ?_); rintro e w2 ⟨rfl, hb2⟩) | fail)
        go_roundw
        case rel => exact ⟨i + 1, by go_num, by omega, HE2, HBR.out.trans (hb2.mono HBR.out.size)⟩
        case measure => simp [intOf]; omega
    · obtain rfl : i = l.length := by omega
      have e : Q = true := heq.out.trans (eqL_end HLEN.out)
      clear heq HQ
      subst e
      go_wp2_with fail
      go_ret
      exact ⟨rfl, HBR.out⟩

end Go.Proofs.Ytpildlaloclanaa
