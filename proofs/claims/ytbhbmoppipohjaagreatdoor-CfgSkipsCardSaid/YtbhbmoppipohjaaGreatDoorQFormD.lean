/-
  The document's answer for an expression and for a condition (gnomonref3's form.told, Expr, Cond): proved is what each answers, and that it turns nothing that lay.
-/
import Derived.Test.YtbhbmoppipohjaaGreatDoorQClass
import Derived.Test.YtbhbmoppipohjaaGreatDoorQRefR
import Derived.Lib.OthersKept
import Derived.Lib.Hide
import Derived.WalkSmall
import Derived.Test.YtbhbmoppipohjaaGreatDoorQTwalkS
import Derived.Outline
import Derived.Deep.DeepCutAuto
import Derived.Deep.CutBlock
/-
  lex.Name and the document's, for a seat that reaches no other part of package lex: proved is that both answer 'nameB' for every text.
-/
namespace Go.Proofs.YtbhbmoppipohjaaGreatDoor
open Go Go.RowKit

/-- A word of the language, by its bytes. -/
def wordL (l : List UInt8) : Bool := l == [118, 97, 114] || l == [97, 114, 114, 97, 121] || l == [105, 102] || l == [101, 108, 115, 101] || l == [119, 104, 105, 108, 101] || l == [97, 115, 115, 101, 114, 116] || l == [97, 115, 115, 117, 109, 101] || l == [115, 107, 105, 112] || l == [105, 110, 112, 117, 116] || l == [116, 114, 117, 101] || l == [102, 97, 108, 115, 101]
theorem word_any (s : ByteArray) (w : World) : Calls Tryz.prog 155 #[.string s] w fun e w' => e = .returned (.bool (wordL s.toList)) ∧ w = w' := by
  go_enter Tryz.func155, Tryz.ntmps155
  go_wp2
  all_goals
    go_ret
    refine ⟨ret_bool ?_, rfl⟩
    first | (exfalso; simp_all; done) | (unfold wordL; simp only [*, Bool.or_true, Bool.true_or, Bool.or_false])
theorem refword_any (s : ByteArray) (w : World) : Calls Tryz.prog 136 #[.string s] w fun e w' => e = .returned (.bool (wordL s.toList)) ∧ w = w' := by
  go_enter Tryz.func136, Tryz.ntmps136
  go_wp2
  all_goals
    go_ret
    refine ⟨ret_bool ?_, rfl⟩
    first | (exfalso; simp_all; done) | (unfold wordL; simp only [*, Bool.or_true, Bool.true_or, Bool.or_false])

def isLet (r : Int) : Bool := decide (cls r = 3)
def isDig (r : Int) : Bool := decide (cls r = 4)
def inNm (r : Int) : Bool := isLet r || isDig r
theorem isLetter_any (r : Int) (w : World) : Calls Tryz.prog 154 #[.int .i32 r] w fun e w' => e = .returned (.bool (isLet r)) ∧ w = w' := by
  go_enter Tryz.func154, Tryz.ntmps154
  go_wp2_with (go_at_call 165; refine (class_any _ _).mono ?_; rintro e w' ⟨rfl, rfl⟩)
  go_ret
  exact ⟨ret_bool (by unfold isLet; rw [Bool.eq_iff_iff]; simp), rfl⟩
theorem isDigit_any (r : Int) (w : World) : Calls Tryz.prog 164 #[.int .i32 r] w fun e w' => e = .returned (.bool (isDig r)) ∧ w = w' := by
  go_enter Tryz.func164, Tryz.ntmps164
  go_wp2_with (go_at_call 165; refine (class_any _ _).mono ?_; rintro e w' ⟨rfl, rfl⟩)
  go_ret
  exact ⟨ret_bool (by unfold isDig; rw [Bool.eq_iff_iff]; simp), rfl⟩
theorem inName_any (r : Int) (w : World) : Calls Tryz.prog 153 #[.int .i32 r] w fun e w' => e = .returned (.bool (inNm r)) ∧ w = w' := by
  cases h : isLet r with
  | true =>
    have H := Lib.hid h; clear h
    go_enter Tryz.func153, Tryz.ntmps153
    go_wp2_with (first | (go_at_call 154; refine (isLetter_any _ _).mono ?_; rintro e w' ⟨rfl, rfl⟩; have h := H.out) | (go_at_call 164; refine (isDigit_any _ _).mono ?_; rintro e w' ⟨rfl, rfl⟩))
    go_ret
    exact ⟨ret_bool (by unfold inNm; rw [H.out]; rfl), rfl⟩
  | false =>
    have H := Lib.hid h; clear h
    go_enter Tryz.func153, Tryz.ntmps153
    go_wp2_with (first | (go_at_call 154; refine (isLetter_any _ _).mono ?_; rintro e w' ⟨rfl, rfl⟩; have h := H.out) | (go_at_call 164; refine (isDigit_any _ _).mono ?_; rintro e w' ⟨rfl, rfl⟩))
    go_ret
    exact ⟨ret_bool (by unfold inNm; rw [H.out]; simp), rfl⟩

/-- A rune that may stand in a name behind n others. -/
def nmOk (r : Int) (n : Nat) : Bool := inNm r && (decide (n ≠ 0) || isLet r)
/-- How many runes a name has, n of them being ahead of byte p; none: it is no name by its runes. -/
def nmG (s : ByteArray) : Nat → Nat → Nat → Option Nat
  | 0, _, n => some n
  | f + 1, p, n => if p < s.size then (if nmOk (rn s p) n = true then nmG s f (p + wd s p) (n + 1) else none) else some n
def nameB (s : ByteArray) : Bool := match nmG s s.size 0 0 with
  | some N => decide (0 < N ∧ N ≤ 32) && !wordL s.toList
  | none => false
theorem nmG_go {s : ByteArray} {f p n : Nat} (h : p < s.size) (ho : nmOk (rn s p) n = true) : nmG s (f + 1) p n = nmG s f (p + wd s p) (n + 1) := by simp [nmG, h, ho]
theorem nmG_no {s : ByteArray} {f p n : Nat} (h : p < s.size) (ho : nmOk (rn s p) n = false) : nmG s (f + 1) p n = none := by simp [nmG, h, ho]
theorem nmG_end {s : ByteArray} {f p n : Nat} (h : ¬ p < s.size) : nmG s f p n = some n := by cases f <;> simp [nmG, h]
theorem nmG_ge (s : ByteArray) : ∀ f p n N, nmG s f p n = some N → n ≤ N
  | 0, p, n, N, h => by simp [nmG] at h; omega
  | f + 1, p, n, N, h => by
    unfold nmG at h
    split at h
    · split at h
      · have := nmG_ge s f _ _ _ h; omega
      · cases h
    · cases h; omega
theorem nmG_size (s : ByteArray) : ∀ f p n N, s.size ≤ p + f → nmG s f p n = some N → p ≤ s.size → s.size ≤ p + 4 * (N - n)
  | 0, p, n, N, hf, h, hp => by simp [nmG] at h; omega
  | f + 1, p, n, N, hf, h, hp => by
    unfold nmG at h
    split at h
    · rename_i hlt
      have hd := dec_facts s p hlt
      split at h
      · have := nmG_size s f _ _ _ (by omega) h hd.2.1
        have := nmG_ge s f _ _ _ h
        omega
      · cases h
    · omega

structure NmRel (s : ByteArray) (p b n : Nat) : Prop where
  eq : nmG s b p n = nmG s s.size 0 0
  fuel : s.size ≤ p + b
  le : p ≤ s.size
  n32 : n ≤ 32
  n0 : n = 0 → p = 0
theorem NmRel.next {s : ByteArray} {p b n : Nat} (h : NmRel s p b n) (hp : p < s.size) (ho : nmOk (rn s p) n = true) (h32 : n ≠ 32) : ∃ b', NmRel s (p + wd s p) b' (n + 1) := by
  obtain ⟨h1, h2, h3, h4, h5⟩ := h
  have hd := dec_facts s p hp
  cases b with
  | zero => omega
  | succ b => exact ⟨b, by rw [← h1, nmG_go hp ho], by omega, hd.2.1, by omega, by omega⟩
theorem NmRel.no {s : ByteArray} {p b n : Nat} (h : NmRel s p b n) (hp : p < s.size) (ho : nmOk (rn s p) n = false) : nmG s s.size 0 0 = none := by
  obtain ⟨h1, h2, h3, h4, h5⟩ := h
  cases b with
  | zero => omega
  | succ b => rw [← h1, nmG_no hp ho]
theorem NmRel.many {s : ByteArray} {p b : Nat} (h : NmRel s p b 32) (hp : p < s.size) : nameB s = false := by
  cases ho : nmOk (rn s p) 32 with
  | false => unfold nameB; rw [h.no hp ho]
  | true =>
    obtain ⟨h1, h2, h3, h4, h5⟩ := h
    cases b with
    | zero => omega
    | succ b =>
      rw [nmG_go hp ho] at h1
      unfold nameB
      rw [← h1]
      cases hN : nmG s b (p + wd s p) 33 with
      | none => rfl
      | some N =>
        have := nmG_ge s _ _ _ _ hN
        simp; omega
theorem NmRel.fin {s : ByteArray} {p b n : Nat} (h : NmRel s p b n) (hp : ¬ p < s.size) : nmG s s.size 0 0 = some n := by rw [← h.eq, nmG_end hp]
theorem nameB_none {s : ByteArray} (h : nmG s s.size 0 0 = none) : nameB s = false := by unfold nameB; rw [h]
theorem nameB_some {s : ByteArray} {n : Nat} (h : nmG s s.size 0 0 = some n) : nameB s = (decide (0 < n ∧ n ≤ 32) && !wordL s.toList) := by unfold nameB; rw [h]

theorem inName_is (r : Int) (b : Bool) (hb : inNm r = b) (w : World) : Calls Tryz.prog 153 #[.int .i32 r] w fun e w' => e = .returned (.bool b) ∧ w = w' := by
  rw [← hb]
  exact inName_any r w
theorem isLetter_at (r : Int) (b : Bool) (hb : isLet r = b) (w : World) : Calls Tryz.prog 154 #[.int .i32 r] w fun e w' => e = .returned (.bool b) ∧ w = w' := by
  rw [← hb]
  exact isLetter_any r w
theorem word_is (s : ByteArray) (b : Bool) (hb : wordL s.toList = b) (w : World) : Calls Tryz.prog 155 #[.string s] w fun e w' => e = .returned (.bool b) ∧ w = w' := by
  rw [← hb]
  exact word_any s w

set_option maxHeartbeats 4000000 in
theorem name_any (s : ByteArray) (w : World) (hs : s.size ≤ maxLen) :
    Calls Tryz.prog 147 #[.string s] w fun e w' => e = .returned (.bool (nameB s)) ∧ Below w.heap.size w w' := by
  unfold maxLen at hs
  go_enter Tryz.func147, Tryz.ntmps147
  go_wp2
  go_loopw [3] (fun cv wr => ∃ (pos b n : Nat), cv = .int .i64 n ∧ wr.heap[w.heap.size]? = some (.stringIter s pos) ∧ Below w.heap.size w wr ∧ NmRel s pos b n) (fun _ wr => s.size - wr.iterPos w.heap.size)
  case atStart => exact ⟨0, s.size, 0, rfl, World.iter_heap w s 0, (Below.refl _ _).alloc (Nat.le_refl _) _, rfl, by omega, by omega, by omega, fun _ => rfl⟩
  case round =>
    obtain ⟨pos, b, n, rfl, hit, hB, hrel⟩ := hrel
    have hn32 := hrel.n32
    have HR := Lib.hid hrel; clear hrel
    have HI := Lib.hid hit
    by_cases hp : pos < s.size
    · have hnx : ∀ ty, (Instr.next (.pointer (some ⟨w.heap.size, 0, none⟩)) true ty).run Tryz.prog wr = .ok (.tuple #[.bool true, .int .i64 pos, .int .i32 (rn s pos)]) (wr.iterAt w.heap.size s (pos + wd s pos)) := fun ty => Lib.run_next_any_at wr w.heap.size s pos ty hit hp
      have hd := dec_facts s pos hp
      have HN := Lib.hid (Lib.iterAt_heap wr w.heap.size s pos (pos + wd s pos) hit)
      have hB1 := Lib.below_iterAt hB (Nat.le_refl _) s (pos + wd s pos)
      clear hit
      have HI1 := Lib.hid (show (wr.iterAt w.heap.size s (pos + wd s pos)).iterPos w.heap.size = pos + wd s pos from iterPos_of HN.out)
      have HJ1 := Lib.hid (show wr.iterPos w.heap.size = pos from iterPos_of HI.out)
      cases ht : inNm (rn s pos) with
      | false =>
        have HF := Lib.hid (show nameB s = false from nameB_none (HR.out.no hp (by unfold nmOk; rw [ht]; rfl)))
        have HT := Lib.hid (fun w => inName_is (rn s pos) false ht w); clear ht
        go_wp2_with (go_at_call 153; refine (HT.out _).mono ?_; rintro e w' ⟨rfl, rfl⟩)
        go_ret
        exact ⟨ret_bool HF.out.symm, hB1⟩
      | true =>
        have HT := Lib.hid (fun w => inName_is (rn s pos) true ht w)
        by_cases h0 : n = 0
        · subst h0
          cases hl : isLet (rn s pos) with
          | false =>
            have HF := Lib.hid (show nameB s = false from nameB_none (HR.out.no hp (by unfold nmOk; rw [hl]; simp)))
            have HL := Lib.hid (fun w => isLetter_at (rn s pos) false hl w); clear hl ht
            go_wp2_with (first | (go_at_call 153; refine (HT.out _).mono ?_; rintro e w' ⟨rfl, rfl⟩) | (go_at_call 154; refine (HL.out _).mono ?_; rintro e w' ⟨rfl, rfl⟩))
            go_ret
            exact ⟨ret_bool HF.out.symm, hB1⟩
          | true =>
            have HX := Lib.hid (HR.out.next hp (by unfold nmOk; rw [hl, ht]; rfl) (by omega))
            have HL := Lib.hid (fun w => isLetter_at (rn s pos) true hl w); clear hl ht
            go_wp2_with (first | (go_at_call 153; refine (HT.out _).mono ?_; rintro e w' ⟨rfl, rfl⟩) | (go_at_call 154; refine (HL.out _).mono ?_; rintro e w' ⟨rfl, rfl⟩))
            go_roundw
            case rel =>
              obtain ⟨b', hb'⟩ := HX.out
              exact ⟨pos + wd s pos, b', 1, rfl, HN.out, hB1, hb'⟩
            case measure => rw [HI1.out, HJ1.out]; omega
        · have h0' : ¬ (n : Int) = 0 := by omega
          by_cases h32 : n = 32
          · subst h32
            have HF := Lib.hid (show nameB s = false from HR.out.many hp)
            clear ht
            go_wp2_with (first | (go_at_call 153; refine (HT.out _).mono ?_; rintro e w' ⟨rfl, rfl⟩))
            go_ret
            exact ⟨ret_bool HF.out.symm, hB1⟩
          · have h32' : ¬ (n : Int) = 32 := by omega
            have HX := Lib.hid (HR.out.next hp (by unfold nmOk; rw [ht]; simp [h0]) h32)
            clear ht
            go_wp2_with (first | (go_at_call 153; refine (HT.out _).mono ?_; rintro e w' ⟨rfl, rfl⟩))
            go_roundw
            case rel =>
              obtain ⟨b', hb'⟩ := HX.out
              exact ⟨pos + wd s pos, b', n + 1, by go_num, HN.out, hB1, hb'⟩
            case measure => rw [HI1.out, HJ1.out]; omega
    · have hnx : ∀ ty, (Instr.next (.pointer (some ⟨w.heap.size, 0, none⟩)) true ty).run Tryz.prog wr = _ := fun ty => Lib.run_next_end_at wr w.heap.size s pos ty hit hp
      clear hit
      have HF := Lib.hid (nameB_some (HR.out.fin hp))
      by_cases h0 : 0 < n
      · have h0' : (0 : Int) < (n : Int) := by omega
        cases hw : wordL s.toList with
        | true =>
          have HW := Lib.hid (fun w => word_is s true hw w)
          have HF2 := Lib.hid (show nameB s = false by rw [HF.out, hw]; simp); clear hw
          go_wp2_with (go_at_call 155; refine (HW.out _).mono ?_; rintro e w' ⟨rfl, rfl⟩)
          go_ret
          exact ⟨ret_bool HF2.out.symm, hB⟩
        | false =>
          have HW := Lib.hid (fun w => word_is s false hw w)
          have HF2 := Lib.hid (show nameB s = true by rw [HF.out, hw]; simp; omega); clear hw
          go_wp2_with (go_at_call 155; refine (HW.out _).mono ?_; rintro e w' ⟨rfl, rfl⟩)
          go_ret
          exact ⟨ret_bool HF2.out.symm, hB⟩
      · have h0' : ¬ (0 : Int) < (n : Int) := by omega
        have HF2 := Lib.hid (show nameB s = false by rw [HF.out]; simp; omega)
        go_wp2
        go_ret
        exact ⟨ret_bool HF2.out.symm, hB⟩

theorem refword_is (s : ByteArray) (b : Bool) (hb : wordL s.toList = b) (w : World) : Calls Tryz.prog 136 #[.string s] w fun e w' => e = .returned (.bool b) ∧ w = w' := by
  rw [← hb]
  exact refword_any s w
theorem nmG_big {s : ByteArray} (h : 128 < s.size) : nameB s = false := by
  cases hN : nmG s s.size 0 0 with
  | none => exact nameB_none hN
  | some N =>
    have := nmG_size s s.size 0 0 N (by omega) hN (by omega)
    rw [nameB_some hN]
    simp; omega
theorem bad_class (s : ByteArray) (p : Nat) (h : badB s p = true) : inNm (rn s p) = false := by
  unfold badB at h
  simp only [Bool.and_eq_true, beq_iff_eq] at h
  rw [h.1]
  decide +kernel
theorem nmOk_cls (r : Int) (n : Nat) : nmOk r n = (decide (cls r = 3) || (decide (cls r = 4) && decide (n ≠ 0))) := by
  unfold nmOk inNm isLet isDig
  by_cases h3 : cls r = 3
  · simp [h3]
  · by_cases h4 : cls r = 4 <;> simp [h3, h4]
structure NrRel (s : ByteArray) (p b n : Nat) : Prop where
  eq : nmG s b p n = nmG s s.size 0 0
  fuel : s.size ≤ p + b
  le : p ≤ s.size
  np : n ≤ p
  n0 : 0 < p → 0 < n
theorem NrRel.next {s : ByteArray} {p b n : Nat} (h : NrRel s p b n) (hp : p < s.size) (ho : nmOk (rn s p) n = true) : ∃ b', NrRel s (p + wd s p) b' (n + 1) := by
  obtain ⟨h1, h2, h3, h4, h5⟩ := h
  have hd := dec_facts s p hp
  cases b with
  | zero => omega
  | succ b => exact ⟨b, by rw [← h1, nmG_go hp ho], by omega, hd.2.1, by omega, by omega⟩
theorem NrRel.no {s : ByteArray} {p b n : Nat} (h : NrRel s p b n) (hp : p < s.size) (ho : nmOk (rn s p) n = false) : nmG s s.size 0 0 = none := by
  obtain ⟨h1, h2, h3, h4, h5⟩ := h
  cases b with
  | zero => omega
  | succ b => rw [← h1, nmG_no hp ho]

set_option maxHeartbeats 4000000 in
theorem refname_any (s : ByteArray) (w : World) (_hs : s.size ≤ maxLen) :
    Calls Tryz.prog 110 #[.string s] w fun e w' => e = .returned (.bool (nameB s)) ∧ w = w' := by
  by_cases he : s.size = 0
  · have hf : nameB s = false := by
      have hN : nmG s s.size 0 0 = some 0 := nmG_end (by omega)
      rw [nameB_some hN]; simp
    have hne : (s.toList == []) = true := by
      rw [Lib.toList_data, beq_iff_eq]
      apply List.eq_nil_of_length_eq_zero
      rw [Array.length_toList]; exact he
    have HF := Lib.hid hf; clear hf
    clear he
    go_enter Tryz.func110, Tryz.ntmps110
    go_wp2
    go_ret
    exact ⟨ret_bool HF.out.symm, rfl⟩
  have hne : (s.toList == []) = false := by
    rw [Lib.toList_data, beq_eq_false_iff_ne]
    intro e
    have := congrArg List.length e
    rw [Array.length_toList] at this
    exact he this
  by_cases hb : 128 < s.size
  · have HF := Lib.hid (nmG_big hb)
    have hb' : (128 : Int) < (s.size : Int) := by omega
    clear he
    go_enter Tryz.func110, Tryz.ntmps110
    go_wp2
    go_ret
    exact ⟨ret_bool HF.out.symm, rfl⟩
  have hb' : ¬ (128 : Int) < (s.size : Int) := by omega
  cases hw : wordL s.toList with
  | true =>
    have HW := Lib.hid (fun w => refword_is s true hw w)
    have HF := Lib.hid (show nameB s = false by
      cases hN : nmG s s.size 0 0 with
      | none => exact nameB_none hN
      | some N => rw [nameB_some hN, hw]; simp)
    clear hw he
    go_enter Tryz.func110, Tryz.ntmps110
    go_wp2_with (go_at_call 136; refine (HW.out _).mono ?_; rintro e w' ⟨rfl, rfl⟩)
    go_ret
    exact ⟨ret_bool HF.out.symm, rfl⟩
  | false =>
    have HW := Lib.hid (fun w => refword_is s false hw w)
    have HWF := Lib.hid hw; clear hw
    go_enter Tryz.func110, Tryz.ntmps110
    go_wp2_with (go_at_call 136; refine (HW.out _).mono ?_; rintro e w' ⟨rfl, rfl⟩)
    go_loop [3, 4] (fun n i => ∃ (p b m : Nat), i = .int .i64 p ∧ n = .int .i64 m ∧ NrRel s p b m) (fun _ i => s.size - (intOf i).toNat)
    case atStart => exact ⟨0, s.size, 0, rfl, rfl, rfl, by omega, by omega, by omega, by omega⟩
    case round =>
      obtain ⟨p, b, m, rfl, rfl, hrel⟩ := hrel
      have hmp := hrel.np
      have hle := hrel.le
      have HR := Lib.hid hrel; clear hrel
      by_cases hp : p < s.size
      · have hd := dec_facts s p hp
        have hru := fun w => rune_any s p w (by omega) hp
        have hcl := fun w => refclass_any (rn s p) w
        cases hbad : badB s p with
        | true =>
          rw [hbad] at hru
          have HU := Lib.hid hru; clear hru
          have HC := Lib.hid hcl; clear hcl
          have HF := Lib.hid (show nameB s = false from nameB_none (HR.out.no hp (by unfold nmOk; rw [bad_class s p hbad]; rfl)))
          clear hbad
          go_wp2_with (first | (go_at_call 137; refine (HU.out _).mono ?_; rintro e w' ⟨rfl, rfl⟩) | (go_at_call 138; refine (HC.out _).mono ?_; rintro e w' ⟨rfl, rfl⟩))
          go_ret
          exact ⟨ret_bool HF.out.symm, rfl⟩
        | false =>
          rw [hbad] at hru
          clear hbad
          have HU := Lib.hid hru; clear hru
          obtain ⟨K, hK⟩ : ∃ K, cls (rn s p) = K := ⟨_, rfl⟩
          have hok := nmOk_cls (rn s p) m
          rw [hK] at hcl hok
          clear hK
          have HC := Lib.hid hcl; clear hcl
          by_cases h3 : K = 3
          · subst h3
            have HX := Lib.hid (HR.out.next hp (by rw [hok]; simp)); clear hok
            go_wp2_with (first | (go_at_call 137; refine (HU.out _).mono ?_; rintro e w' ⟨rfl, rfl⟩) | (go_at_call 138; refine (HC.out _).mono ?_; rintro e w' ⟨rfl, rfl⟩))
            go_round
            case rel =>
              obtain ⟨b', hb'⟩ := HX.out
              exact ⟨p + wd s p, b', m + 1, by go_num, by go_num, hb'⟩
            case measure => simp [intOf]; omega
          · have n3 : (K == 3) = false := by simpa using h3
            by_cases h4 : K = 4
            · subst h4
              by_cases h0 : m = 0
              · subst h0
                have HF := Lib.hid (show nameB s = false from nameB_none (HR.out.no hp (by rw [hok]; simp))); clear hok
                go_wp2_with (first | (go_at_call 137; refine (HU.out _).mono ?_; rintro e w' ⟨rfl, rfl⟩) | (go_at_call 138; refine (HC.out _).mono ?_; rintro e w' ⟨rfl, rfl⟩))
                go_ret
                exact ⟨ret_bool HF.out.symm, rfl⟩
              · have h0' : ¬ (m : Int) = 0 := by omega
                have HX := Lib.hid (HR.out.next hp (by rw [hok]; simp [h0])); clear hok
                go_wp2_with (first | (go_at_call 137; refine (HU.out _).mono ?_; rintro e w' ⟨rfl, rfl⟩) | (go_at_call 138; refine (HC.out _).mono ?_; rintro e w' ⟨rfl, rfl⟩))
                go_round
                case rel =>
                  obtain ⟨b', hb'⟩ := HX.out
                  exact ⟨p + wd s p, b', m + 1, by go_num, by go_num, hb'⟩
                case measure => simp [intOf]; omega
            · have n4 : (K == 4) = false := by simpa using h4
              have HF := Lib.hid (show nameB s = false from nameB_none (HR.out.no hp (by rw [hok]; simp [h3, h4]))); clear hok
              go_wp2_with (first | (go_at_call 137; refine (HU.out _).mono ?_; rintro e w' ⟨rfl, rfl⟩) | (go_at_call 138; refine (HC.out _).mono ?_; rintro e w' ⟨rfl, rfl⟩))
              go_ret
              exact ⟨ret_bool HF.out.symm, rfl⟩
      · have HF := Lib.hid (nameB_some (n := m) (by rw [← HR.out.eq, nmG_end hp]))
        have h0 : 0 < m := HR.out.n0 (by omega)
        by_cases h32 : m ≤ 32
        · have h32' : (m : Int) ≤ 32 := by omega
          have HF2 := Lib.hid (show nameB s = true by rw [HF.out, HWF.out]; simp; omega)
          go_wp2
          go_ret
          exact ⟨ret_bool HF2.out.symm, rfl⟩
        · have h32' : ¬ (m : Int) ≤ 32 := by omega
          have HF2 := Lib.hid (show nameB s = false by rw [HF.out]; simp; omega)
          go_wp2
          go_ret
          exact ⟨ret_bool HF2.out.symm, rfl⟩
end Go.Proofs.YtbhbmoppipohjaaGreatDoor

/-
  The document's form of a tree (gnomonref3's form.name, form.expr, form.cond): proved is what each leaves in the form's two cells.
-/
namespace Go.Proofs.YtbhbmoppipohjaaGreatDoor
open Go Go.RowKit

/-- What the form holds. -/
structure Fm where
  ok : Bool
  names : Bool
def Fm.cells (f : Fm) : Array Value := #[.bool f.ok, .bool f.names]
def nameF (s : ByteArray) (b : Bool) (f : Fm) : Fm := if b then ⟨f.ok, f.names && nameB s⟩ else ⟨f.ok && (s.toList == []), f.names⟩
def FormedTo (w : World) (B : Nat) (g : Fm) : Ending → World → Prop := fun e w' => e = .returned (.tuple #[]) ∧ Blk w' B g.cells 131 ∧ Only B w w'

set_option maxHeartbeats 2000000 in
theorem fname_any (s : ByteArray) (b : Bool) (f : Fm) (B : Nat) (w : World) (hs : s.size ≤ maxLen) (hB : Blk w B f.cells 131) :
    Calls Tryz.prog 72 #[.pointer (some ⟨B, 0, none⟩), .string s, .bool b] w (FormedTo w B (nameF s b f)) := by
  obtain ⟨ok, names⟩ := f
  have c0 : w.cell? ⟨B, 0, none⟩ = some (.bool ok) := hB.cell 0
  have c1 : w.cell? ⟨B, 1, none⟩ = some (.bool names) := hB.cell 1
  have f0 := hB.free 0
  have f1 := hB.free 1
  have HB := Lib.hid hB; clear hB
  have HS := Lib.hid hs; clear hs
  cases b with
  | false =>
    have e : nameF s false ⟨ok, names⟩ = ⟨ok && (s.toList == []), names⟩ := rfl
    rw [e]
    clear e
    cases ok with
    | false =>
      go_enter Tryz.func72, Tryz.ntmps72
      go_wp2
      go_end0
      exact ⟨rfl, HB.out.set 0 (.bool false), (Only.refl B w).setCell (by rfl) _⟩
    | true =>
      cases hc : (s.toList == []) with
      | false =>
        go_enter Tryz.func72, Tryz.ntmps72
        go_wp2
        go_end0
        exact ⟨rfl, HB.out.set 0 (.bool false), (Only.refl B w).setCell (by rfl) _⟩
      | true =>
        go_enter Tryz.func72, Tryz.ntmps72
        go_wp2
        go_end0
        exact ⟨rfl, HB.out.set 0 (.bool true), (Only.refl B w).setCell (by rfl) _⟩
  | true =>
    have e : nameF s true ⟨ok, names⟩ = ⟨ok, names && nameB s⟩ := rfl
    rw [e]
    clear e
    cases names with
    | false =>
      go_enter Tryz.func72, Tryz.ntmps72
      go_wp2
      go_end0
      exact ⟨rfl, HB.out.set 1 (.bool false), (Only.refl B w).setCell (by rfl) _⟩
    | true =>
      have hn := refname_any s w HS.out
      obtain ⟨q, hq⟩ : ∃ q, nameB s = q := ⟨_, rfl⟩
      rw [hq] at hn ⊢
      clear hq
      have HN := Lib.hid hn; clear hn
      go_enter Tryz.func72, Tryz.ntmps72
      go_wp2_with (first | (go_at_call 110; (with_reducible refine HN.out.mono ?_); rintro e w1 ⟨rfl, rfl⟩) | fail)
      go_end0
      exact ⟨rfl, HB.out.set 1 (.bool q), (Only.refl B w).setCell (by rfl) _⟩

/-- What the document asks of an expression's own parts: its kind, how many arguments, a name or none, a number or none. -/
def argsE (k : Int) : Int := if k = 4 ∨ k = 5 then 1 else if 6 ≤ k ∧ k ≤ 10 then 2 else 0
def kindE (k : Int) : Bool := decide (1 ≤ k ∧ k ≤ 10)
def ownE (k n : Int) (len : Nat) : Bool := ((len : Int) == argsE k) && ((n == 0) || ((k == 1) && decide (0 < n)))
def headE (k n : Int) (nm : ByteArray) (len : Nat) (f : Fm) : Fm := (fun g : Fm => ⟨g.ok && ownE k n len, g.names⟩) (nameF nm ((k == 2) || (k == 4)) ⟨f.ok && kindE k, f.names⟩)

/- GEN -/
/-- What the document asks of a condition's own parts, and of a statement's. -/
def exprsC (k : Int) : Int := if k = 3 then 2 else 0
def partsC (k : Int) : Int := if k = 4 then 1 else if k = 5 ∨ k = 6 then 2 else 0
def kindC (k : Int) : Bool := decide (1 ≤ k ∧ k ≤ 6)
def opC (k n : Int) : Bool := if k = 3 then decide (1 ≤ n ∧ n ≤ 6) else n == 0
def ownC (k n : Int) (xl cl : Nat) : Bool := opC k n && (((xl : Int) == exprsC k) && ((cl : Int) == partsC k))
def headC (k n : Int) (xl cl : Nat) (f : Fm) : Fm := ⟨(f.ok && kindC k) && ownC k n xl cl, f.names⟩
def exprsS (k : Int) : Int := if k = 1 then 1 else if k = 2 then 2 else 0
def condsS (k : Int) : Int := if 3 ≤ k ∧ k ≤ 6 then 1 else 0
def kindS (k : Int) : Bool := decide (1 ≤ k ∧ k ≤ 7)
def ownS (k : Int) (xl cl tl el : Nat) : Bool := ((xl : Int) == exprsS k) && (((cl : Int) == condsS k) && ((((tl : Int) == 0) || ((k == 3) || (k == 4))) && (((el : Int) == 0) || (k == 3))))
def headS (k : Int) (nm : ByteArray) (xl cl tl el : Nat) (f : Fm) : Fm := (fun g : Fm => ⟨g.ok && ownS k xl cl tl el, g.names⟩) (nameF nm ((k == 1) || (k == 2)) ⟨f.ok && kindS k, f.names⟩)
mutual
/-- What the document's form makes of a node, and of nodes in a row (it stops at the first fault of form). -/
def formN : Nd → Fm → Fm
  | .mk ty k n nm xs cs ts es, f => match ty with
    | .E => formL xs (headE k n nm xs.length f)
    | .C => formL cs (formL xs (headC k n xs.length cs.length f))
    | .S => formL es (formL ts (formL xs (formL cs (headS k nm xs.length cs.length ts.length es.length f))))
    | .D => f
def formL : List Nd → Fm → Fm
  | [], f => f
  | x :: r, f => if f.ok then formL r (formN x f) else f
end
theorem formL_no : ∀ (l : List Nd) (f : Fm), f.ok = false → formL l f = f
  | [], _, _ => by unfold formL; rfl
  | x :: r, f, h => by unfold formL; rw [h]; rfl
theorem formL_app : ∀ (l m : List Nd) (f : Fm), formL (l ++ m) f = formL m (formL l f)
  | [], m, f => by rw [List.nil_append]; congr 1
  | y :: r, m, f => by
    rw [List.cons_append]
    conv => lhs; unfold formL
    conv => rhs; arg 2; unfold formL
    cases h : f.ok with
    | true => simp only [if_true]; exact formL_app r m _
    | false => simp only [Bool.false_eq_true, if_false]; rw [formL_no m f h]
theorem formL_one (x : Nd) (f : Fm) (h : f.ok = true) : formL [x] f = formN x f := by unfold formL; rw [h]; simp only [if_true]; unfold formL; rfl
theorem formL_stop {l : List Nd} {i : Nat} {f : Fm} (h : (formL (l.take i) f).ok = false) : formL l f = formL (l.take i) f := by
  conv => lhs; rw [← List.take_append_drop i l, formL_app]
  exact formL_no _ _ h
theorem formL_take {l : List Nd} {i : Nat} (hi : i < l.length) (f : Fm) (h : (formL (l.take i) f).ok = true) : formL (l.take (i + 1)) f = formN l[i] (formL (l.take i) f) := by
  rw [← List.take_append_getElem hi, formL_app, formL_one _ _ h]

set_option maxRecDepth 100000 in
set_option maxHeartbeats 16000000 in
theorem fexpr_any (w0 : World) (B : Nat) (hB0 : w0.heap.size ≤ B) : ∀ (N : Nat) (x : Nd) (v0 v1 v2 v3 : Value) (f : Fm) (w : World), SizeOf.sizeOf x ≤ N → x.ty = .E → NdIn w0 x [v0, v1, v2, v3] → Below w0.heap.size w0 w → Blk w B f.cells 131 →
    Calls Tryz.prog 112 #[.pointer (some ⟨B, 0, none⟩), .agg #[v0, v1, v2, v3]] w (FormedTo w B (formN x f)) := by
  intro N
  induction N with
  | zero =>
    intro x v0 v1 v2 v3 f w hN
    obtain ⟨ty, k, n, nm, xs, cs, ts, es⟩ := x
    simp only [Nd.mk.sizeOf_spec] at hN
    omega
  | succ N ih =>
    intro x v0 v1 v2 v3 f w hN hty hin hw hB
    have hlt := hB.lt
    have hmem := fun y h => Nd.mem_size (x := x) (y := y) h
    obtain ⟨ty, k, n, nm, xs, cs, ts, es⟩ := x
    simp only [Nd.ty] at hty
    subst hty
    simp only [Nd.xs, Nd.cs, Nd.ts, Nd.es] at hmem
    unfold NdIn at hin
    obtain ⟨⟨rfl, rfl, rfl⟩, -, -, hnm, vx, vc, vt, ve, hvs, hx, hc, ht, he⟩ := hin
    simp only [lay, List.cons.injEq, and_true] at hvs
    obtain ⟨rfl, rfl, rfl, rfl⟩ := hvs
    obtain ⟨a, c, rfl, hnc1, hcm1, hrow1⟩ := hx
    have HFIN := Lib.hid (show formN (.mk .E k n nm xs [] [] []) f = formL xs (headE k n nm xs.length f) by unfold formN; rfl)
    obtain ⟨R, hR⟩ : ∃ R, formN (.mk .E k n nm xs [] [] []) f = R := ⟨_, rfl⟩
    rw [hR] at HFIN ⊢
    clear hR
    have HIH1 := Lib.hid (fun (i : Nat) (hi : i < xs.length) v0 v1 v2 v3 f w => ih xs[i] v0 v1 v2 v3 f w (by have := hmem _ (.inl (List.getElem_mem hi)); omega))
    clear ih hmem
    have HROW1 := Lib.hid hrow1; clear hrow1
    have hne : w.heap.size ≠ B := by omega
    have HS := Lib.hid hnm; clear hnm
    obtain ⟨ok, names⟩ := f
    go_enter Tryz.func112, Tryz.ntmps112
    go_upto_block 0 with fail
    have hb1 := hB.alloc (.cells #[.int .i64 k, .int .i64 n, .string nm, .slice a xs.length c] 140)
    have he1 := Blk.new w #[.int .i64 k, .int .i64 n, .string nm, .slice a xs.length c] 140
    have ho1 := (Only.refl B w).alloc (.cells #[.int .i64 k, .int .i64 n, .string nm, .slice a xs.length c] 140)
    have c0 : (w.alloc (.cells #[.int .i64 k, .int .i64 n, .string nm, .slice a xs.length c] 140)).cell? ⟨B, 0, none⟩ = some (.bool ok) := hb1.cell 0
    have f0 := hb1.free 0
    have HBw := Lib.hid hB; clear hB
    have HB := Lib.hid hb1; clear hb1
    have HE := Lib.hid he1; clear he1
    have HO := Lib.hid ho1; clear ho1
    go_cut [4] (fun s wx => s = .int .i64 (argsE k) ∧ Blk wx B (Fm.cells ⟨ok && kindE k, names⟩) 131 ∧ Blk wx w.heap.size #[.int .i64 k, .int .i64 n, .string nm, .slice a xs.length c] 140 ∧ Only B w wx)
    case first =>
      by_cases h1 : k = 1
      · subst h1
        go_wp2_with fail
        go_meet
        exact ⟨rfl, by simpa only [show kindE 1 = true from rfl, Bool.and_true] using HB.out, HE.out, HO.out⟩
      by_cases h2 : k = 2
      · subst h2
        go_wp2_with fail
        go_meet
        exact ⟨rfl, by simpa only [show kindE 2 = true from rfl, Bool.and_true] using HB.out, HE.out, HO.out⟩
      by_cases h3 : k = 3
      · subst h3
        go_wp2_with fail
        go_meet
        exact ⟨rfl, by simpa only [show kindE 3 = true from rfl, Bool.and_true] using HB.out, HE.out, HO.out⟩
      by_cases h4 : k = 4
      · subst h4
        go_wp2_with fail
        go_meet
        exact ⟨rfl, by simpa only [show kindE 4 = true from rfl, Bool.and_true] using HB.out, HE.out, HO.out⟩
      by_cases h5 : k = 5
      · subst h5
        go_wp2_with fail
        go_meet
        exact ⟨rfl, by simpa only [show kindE 5 = true from rfl, Bool.and_true] using HB.out, HE.out, HO.out⟩
      by_cases h6 : k = 6
      · subst h6
        go_wp2_with fail
        go_meet
        exact ⟨rfl, by simpa only [show kindE 6 = true from rfl, Bool.and_true] using HB.out, HE.out, HO.out⟩
      by_cases h7 : k = 7
      · subst h7
        go_wp2_with fail
        go_meet
        exact ⟨rfl, by simpa only [show kindE 7 = true from rfl, Bool.and_true] using HB.out, HE.out, HO.out⟩
      by_cases h8 : k = 8
      · subst h8
        go_wp2_with fail
        go_meet
        exact ⟨rfl, by simpa only [show kindE 8 = true from rfl, Bool.and_true] using HB.out, HE.out, HO.out⟩
      by_cases h9 : k = 9
      · subst h9
        go_wp2_with fail
        go_meet
        exact ⟨rfl, by simpa only [show kindE 9 = true from rfl, Bool.and_true] using HB.out, HE.out, HO.out⟩
      by_cases h10 : k = 10
      · subst h10
        go_wp2_with fail
        go_meet
        exact ⟨rfl, by simpa only [show kindE 10 = true from rfl, Bool.and_true] using HB.out, HE.out, HO.out⟩
      have hk : ¬ (1 ≤ k ∧ k ≤ 10) := by omega
      clear h1 h2 h3 h4 h5 h6 h7 h8 h9 h10
      have hkf : kindE k = false := by unfold kindE; simpa using hk
      have haf : argsE k = 0 := by unfold argsE; rw [if_neg (by omega), if_neg (by omega)]
      have HKF := Lib.hid hkf; clear hkf
      have HAF := Lib.hid haf; clear haf
      have k1 : (k == 1) = false := by simp; omega
      have k2 : (k == 2) = false := by simp; omega
      have k3 : (k == 3) = false := by simp; omega
      have k4 : (k == 4) = false := by simp; omega
      have k5 : (k == 5) = false := by simp; omega
      have k6 : (k == 6) = false := by simp; omega
      have k7 : (k == 7) = false := by simp; omega
      have k8 : (k == 8) = false := by simp; omega
      have k9 : (k == 9) = false := by simp; omega
      have k10 : (k == 10) = false := by simp; omega
      clear hk
      go_wp2_with fail
      go_meet
      exact ⟨by rw [HAF.out], by rw [HKF.out, Bool.and_false]; exact (HBw.out.set 0 (.bool false)).alloc _, (by have h := Blk.new (w.setCell ⟨B, 0, none⟩ (.bool false)) #[.int .i64 k, .int .i64 n, .string nm, .slice a xs.length c] 140; rw [World.size_setCell] at h; exact h), ((Only.refl B w).setCell (by rfl) _).alloc _⟩
    case rest =>
      clear HB HE HO c0 f0 HBw
      obtain ⟨rfl, hB1, hE1, hO1⟩ := hcut
      have hfin := HFIN.out; clear HFIN
      simp only [headE] at hfin
      obtain ⟨ok2, hok2⟩ : ∃ ok2, (ok && kindE k) = ok2 := ⟨_, rfl⟩
      rw [hok2] at hB1 hfin
      clear hok2
      obtain ⟨b2, hb2⟩ : ∃ b, (k == 2) = b := ⟨_, rfl⟩
      obtain ⟨b4, hb4⟩ : ∃ b, (k == 4) = b := ⟨_, rfl⟩
      have hcall := fname_any nm (b2 || b4) ⟨ok2, names⟩ B wc HS.out hB1
      rw [hb2, hb4] at hfin
      obtain ⟨G, hG⟩ : ∃ G, nameF nm (b2 || b4) ⟨ok2, names⟩ = G := ⟨_, rfl⟩
      rw [hG] at hcall hfin
      clear hG
      obtain ⟨gok, gn⟩ := G
      simp only at hfin
      have HFIN := Lib.hid hfin; clear hfin
      have HCALL := Lib.hid hcall; clear hcall
      have hk0 : wc.cell? ⟨w.heap.size, 0, none⟩ = some (.int .i64 k) := hE1.cell 0
      have hk2 : wc.cell? ⟨w.heap.size, 2, none⟩ = some (.string nm) := hE1.cell 2
      have HB1 := Lib.hid hB1; clear hB1
      have HE1 := Lib.hid hE1; clear hE1
      have HO1 := Lib.hid hO1; clear hO1
      go_upto_region 16 with fail
      go_cut [35] (fun _ wx => Blk wx B (Fm.cells ⟨gok, gn⟩) 131 ∧ Blk wx w.heap.size #[.int .i64 k, .int .i64 n, .string nm, .slice a xs.length c] 140 ∧ Only B w wx)
      case first =>
        cases b2 with
        | true =>
          have hc := HCALL.out; clear HCALL
          simp only [Bool.true_or] at hc
          have HCALL := Lib.hid hc; clear hc
          go_wp2_with (first | (go_at_call 72; (with_reducible refine HCALL.out.mono ?_); rintro e w1 ⟨rfl, hB2, hO2⟩) | fail)
          go_meet
          exact ⟨hB2, HE1.out.only hO2 hne, HO1.out.trans hO2⟩
        | false =>
          cases b4 with
          | true =>
            have hc := HCALL.out; clear HCALL
            simp only [Bool.false_or] at hc
            have HCALL := Lib.hid hc; clear hc
            go_wp2_with (first | (go_at_call 72; (with_reducible refine HCALL.out.mono ?_); rintro e w1 ⟨rfl, hB2, hO2⟩) | fail)
            go_meet
            exact ⟨hB2, HE1.out.only hO2 hne, HO1.out.trans hO2⟩
          | false =>
            have hc := HCALL.out; clear HCALL
            simp only [Bool.false_or] at hc
            have HCALL := Lib.hid hc; clear hc
            go_wp2_with (first | (go_at_call 72; (with_reducible refine HCALL.out.mono ?_); rintro e w1 ⟨rfl, hB2, hO2⟩) | fail)
            go_meet
            exact ⟨hB2, HE1.out.only hO2 hne, HO1.out.trans hO2⟩
      case rest =>
        clear HB1 HE1 HO1 HCALL hk0 hk2 hb2 hb4
        obtain ⟨hB1, hE1, hO1⟩ := hcut
        have hb0 : wc.cell? ⟨B, 0, none⟩ = some (.bool gok) := hB1.cell 0
        have hf0 := hB1.free 0
        have hk0 : wc.cell? ⟨w.heap.size, 0, none⟩ = some (.int .i64 k) := hE1.cell 0
        have hk1 : wc.cell? ⟨w.heap.size, 1, none⟩ = some (.int .i64 n) := hE1.cell 1
        have hk3 : wc.cell? ⟨w.heap.size, 3, none⟩ = some (.slice a xs.length c) := hE1.cell 3
        have HB1 := Lib.hid hB1; clear hB1
        have HE1 := Lib.hid hE1; clear hE1
        have HO1 := Lib.hid hO1; clear hO1
        obtain ⟨A, hA⟩ : ∃ A, argsE k = A := ⟨_, rfl⟩
        rw [hA]
        go_upto_region 17 with fail
        go_cut [62] (fun _ wx => Blk wx B (Fm.cells ⟨gok && ownE k n xs.length, gn⟩) 131 ∧ Blk wx w.heap.size #[.int .i64 k, .int .i64 n, .string nm, .slice a xs.length c] 140 ∧ Only B w wx)
        case first =>
          have own : ownE k n xs.length = (((xs.length : Int) == A) && ((n == 0) || ((k == 1) && decide (0 < n)))) := by unfold ownE; rw [hA]
          have OWN := Lib.hid own; clear own hA
          cases gok with
          | false =>
            go_wp2_with fail
            go_meet
            exact ⟨by rw [Bool.false_and]; exact HB1.out.set 0 (.bool false), HE1.out.only ((Only.refl B _).setCell (by rfl) _) hne, HO1.out.setCell (by rfl) _⟩
          | true =>
            cases h1 : ((xs.length : Int) == A) with
            | false =>
              have e : ownE k n xs.length = false := by rw [OWN.out, h1]; rfl
              have E := Lib.hid e; clear e OWN
              go_wp2_with fail
              go_meet
              exact ⟨by rw [E.out]; exact HB1.out.set 0 (.bool false), HE1.out.only ((Only.refl B _).setCell (by rfl) _) hne, HO1.out.setCell (by rfl) _⟩
            | true =>
              cases h2 : (n == 0) with
              | true =>
                have e : ownE k n xs.length = true := by rw [OWN.out, h1, h2]; rfl
                have E := Lib.hid e; clear e OWN
                go_wp2_with fail
                go_meet
                exact ⟨by rw [E.out]; exact HB1.out.set 0 (.bool true), HE1.out.only ((Only.refl B _).setCell (by rfl) _) hne, HO1.out.setCell (by rfl) _⟩
              | false =>
                cases h3 : (k == 1) with
                | false =>
                  have e : ownE k n xs.length = false := by rw [OWN.out, h1, h2, h3]; rfl
                  have E := Lib.hid e; clear e OWN
                  go_wp2_with fail
                  go_meet
                  exact ⟨by rw [E.out]; exact HB1.out.set 0 (.bool false), HE1.out.only ((Only.refl B _).setCell (by rfl) _) hne, HO1.out.setCell (by rfl) _⟩
                | true =>
                  cases h4 : decide (0 < n) with
                  | false =>
                    have e : ownE k n xs.length = false := by rw [OWN.out, h1, h2, h3, h4]; rfl
                    have E := Lib.hid e; clear e OWN
                    go_wp2_with fail
                    go_meet
                    exact ⟨by rw [E.out]; exact HB1.out.set 0 (.bool false), HE1.out.only ((Only.refl B _).setCell (by rfl) _) hne, HO1.out.setCell (by rfl) _⟩
                  | true =>
                    have e : ownE k n xs.length = true := by rw [OWN.out, h1, h2, h3, h4]; rfl
                    have E := Lib.hid e; clear e OWN
                    go_wp2_with fail
                    go_meet
                    exact ⟨by rw [E.out]; exact HB1.out.set 0 (.bool true), HE1.out.only ((Only.refl B _).setCell (by rfl) _) hne, HO1.out.setCell (by rfl) _⟩
        case rest =>
          clear HB1 HE1 HO1 hk0 hk1 hk3 hb0 hf0 hA
          obtain ⟨hB1, hE1, hO1⟩ := hcut
          obtain ⟨S0, hS0⟩ : ∃ S0 : Fm, (⟨gok && ownE k n xs.length, gn⟩ : Fm) = S0 := ⟨_, rfl⟩
          have hfin := HFIN.out; clear HFIN
          rw [hS0] at hB1 hfin
          clear hS0
          have HFIN := Lib.hid hfin; clear hfin
          have HB0 := Lib.hid hB1; clear hB1
          have HE0 := Lib.hid hE1; clear hE1
          have HO0 := Lib.hid hO1; clear hO1
          go_wp2_with fail
          go_loopw [5] (fun x wr => ∃ i : Nat, x = .int .i64 i ∧ i ≤ xs.length ∧ Blk wr B (formL (xs.take i) S0).cells 131 ∧ Blk wr w.heap.size #[.int .i64 k, .int .i64 n, .string nm, .slice a xs.length c] 140 ∧ Only B w wr) (fun x _ => xs.length - (intOf x).toNat)
          case atStart => exact ⟨0, rfl, by omega, by rw [List.take_zero, formL]; exact HB0.out, HE0.out, HO0.out⟩
          case round =>
            obtain ⟨i, rfl, hi, hBr, hEr, hOr⟩ := hrel
            clear HB0 HE0 HO0
            have e3 : wr.cell? ⟨w.heap.size, 3, none⟩ = some (.slice a xs.length c) := hEr.cell 3
            have b2 : wr.cell? ⟨B, 0, none⟩ = some (.bool (formL (xs.take i) S0).ok) := hBr.cell 0
            have hstop := formL_stop (l := xs) (i := i) (f := S0)
            have htk := fun h => formL_take (l := xs) (i := i) h S0
            have HE := Lib.hid hEr; clear hEr
            have HO := Lib.hid hOr; clear hOr
            by_cases hlt2 : i < xs.length
            · have hbi : (i : Int) + 1 ≤ 9223372036854775807 := by unfold maxLen at hcm1; omega
              obtain ⟨S, hS⟩ : ∃ S, formL (xs.take i) S0 = S := ⟨_, rfl⟩
              rw [hS] at hBr b2 hstop htk
              clear hS
              have HBr := Lib.hid hBr; clear hBr
              have hxl : ¬ xs.length = 0 := by omega
              obtain ⟨b, o, rfl, hrow⟩ := HROW1.out.resolve_left hxl
              cases hb : S.ok with
              | true =>
                rw [hb] at b2
                have hold : Below w0.heap.size w0 wr := hw.trans (HO.out.old hB0 hw.size)
                obtain ⟨hty, u0, u1, u2, u3, m0, m1, m2, m3, hnd⟩ := SlIn.item4 rfl hrow i hlt2
                have kk := keeps_below hold
                have k0 := kk _ _ _ m0
                have k1 := kk _ _ _ m1
                have k2 := kk _ _ _ m2
                have k3 := kk _ _ _ m3
                have HC := Lib.hid (HIH1.out i hlt2 u0 u1 u2 u3 S wr hty hnd hold HBr.out)
                have HTK := Lib.hid (htk hlt2 hb)
                clear m0 m1 m2 m3 hnd hty hold kk hstop htk hrow hb
                go_wp2_with fail
                refine HC.out.mono ?_
                rintro e w2 ⟨rfl, hB2, hO2⟩
                rw [← HTK.out] at hB2
                have hE2 := HE.out.only hO2 hne
                have hO3 := HO.out.trans hO2
                have HB2 := Lib.hid hB2; clear hB2
                have HE2 := Lib.hid hE2; clear hE2
                clear hO2
                have HO3 := Lib.hid hO3; clear hO3
                go_wp2
                go_roundw
                case rel => exact ⟨i + 1, by go_num, by omega, HB2.out, HE2.out, HO3.out⟩
                case measure => simp [intOf]; omega
              | false =>
                rw [hb] at b2
                have HST := Lib.hid (hstop hb)
                clear hstop htk hb
                go_wp2
                go_end0
                exact ⟨rfl, by rw [HFIN.out, HST.out]; exact HBr.out, HO.out⟩
            · obtain rfl : i = xs.length := by omega
              rw [List.take_length] at hBr
              have HBr := Lib.hid hBr; clear hBr
              clear hstop htk b2
              go_wp2
              go_end0
              exact ⟨rfl, by rw [HFIN.out]; exact HBr.out, HO.out⟩
end Go.Proofs.YtbhbmoppipohjaaGreatDoor

/-
  The document's form of a condition (gnomonref3's form.cond): proved is what it leaves in the form's two cells.
-/
namespace Go.Proofs.YtbhbmoppipohjaaGreatDoor
open Go Go.RowKit

set_option maxRecDepth 100000 in
set_option maxHeartbeats 16000000 in
theorem fcond_any (w0 : World) (B : Nat) (hB0 : w0.heap.size ≤ B) : ∀ (N : Nat) (x : Nd) (v0 v1 v2 v3 : Value) (f : Fm) (w : World), SizeOf.sizeOf x ≤ N → x.ty = .C → NdIn w0 x [v0, v1, v2, v3] → Below w0.heap.size w0 w → Blk w B f.cells 131 →
    Calls Tryz.prog 111 #[.pointer (some ⟨B, 0, none⟩), .agg #[v0, v1, v2, v3]] w (FormedTo w B (formN x f)) := by
  intro N
  induction N with
  | zero =>
    intro x v0 v1 v2 v3 f w hN
    obtain ⟨ty, k, n, nm, xs, cs, ts, es⟩ := x
    simp only [Nd.mk.sizeOf_spec] at hN
    omega
  | succ N ih =>
    intro x v0 v1 v2 v3 f w hN hty hin hw hB
    have hlt := hB.lt
    have hmem := fun y h => Nd.mem_size (x := x) (y := y) h
    obtain ⟨ty, k, n, nm, xs, cs, ts, es⟩ := x
    simp only [Nd.ty] at hty
    subst hty
    simp only [Nd.xs, Nd.cs, Nd.ts, Nd.es] at hmem
    unfold NdIn at hin
    obtain ⟨⟨rfl, rfl, rfl⟩, -, -, hnm, vx, vc, vt, ve, hvs, hx, hc, ht, he⟩ := hin
    simp only [lay, List.cons.injEq, and_true] at hvs
    obtain ⟨rfl, rfl, rfl, rfl⟩ := hvs
    obtain ⟨a, c, rfl, hnc1, hcm1, hrow1⟩ := hx
    obtain ⟨a2, c2, rfl, hnc2, hcm2, hrow2⟩ := hc
    have HFIN := Lib.hid (show formN (.mk .C k n ⟨#[]⟩ xs cs [] []) f = formL cs (formL xs (headC k n xs.length cs.length f)) by unfold formN; rfl)
    obtain ⟨R, hR⟩ : ∃ R, formN (.mk .C k n ⟨#[]⟩ xs cs [] []) f = R := ⟨_, rfl⟩
    rw [hR] at HFIN ⊢
    clear hR
    have HIH1 := Lib.hid (fun (i : Nat) (hi : i < xs.length) v0 v1 v2 v3 f w => fexpr_any w0 B hB0 _ xs[i] v0 v1 v2 v3 f w (Nat.le_refl _))
    have HIH2 := Lib.hid (fun (i : Nat) (hi : i < cs.length) v0 v1 v2 v3 f w => ih cs[i] v0 v1 v2 v3 f w (by have := hmem _ (.inr (.inl (List.getElem_mem hi))); omega))
    clear ih hmem
    have HROW1 := Lib.hid hrow1; clear hrow1
    have HROW2 := Lib.hid hrow2; clear hrow2
    have hne : w.heap.size ≠ B := by omega
    have HS := Lib.hid hnm; clear hnm
    obtain ⟨ok, names⟩ := f
    go_enter Tryz.func111, Tryz.ntmps111
    go_upto_block 0 with fail
    have hb1 := hB.alloc (.cells #[.int .i64 k, .int .i64 n, .slice a xs.length c, .slice a2 cs.length c2] 148)
    have he1 := Blk.new w #[.int .i64 k, .int .i64 n, .slice a xs.length c, .slice a2 cs.length c2] 148
    have ho1 := (Only.refl B w).alloc (.cells #[.int .i64 k, .int .i64 n, .slice a xs.length c, .slice a2 cs.length c2] 148)
    have c0 : (w.alloc (.cells #[.int .i64 k, .int .i64 n, .slice a xs.length c, .slice a2 cs.length c2] 148)).cell? ⟨B, 0, none⟩ = some (.bool ok) := hb1.cell 0
    have f0 := hb1.free 0
    have HBw := Lib.hid hB; clear hB
    have HB := Lib.hid hb1; clear hb1
    have HE := Lib.hid he1; clear he1
    have HO := Lib.hid ho1; clear ho1
    go_cut [4, 5] (fun s s2 wx => s = .int .i64 (exprsC k) ∧ s2 = .int .i64 (partsC k) ∧ Blk wx B (Fm.cells ⟨ok && kindC k, names⟩) 131 ∧ Blk wx w.heap.size #[.int .i64 k, .int .i64 n, .slice a xs.length c, .slice a2 cs.length c2] 148 ∧ Only B w wx)
    case first =>
      by_cases h1 : k = 1
      · subst h1
        go_wp2_with fail
        go_meet
        exact ⟨rfl, rfl, by simpa only [show kindC 1 = true from rfl, Bool.and_true] using HB.out, HE.out, HO.out⟩
      by_cases h2 : k = 2
      · subst h2
        go_wp2_with fail
        go_meet
        exact ⟨rfl, rfl, by simpa only [show kindC 2 = true from rfl, Bool.and_true] using HB.out, HE.out, HO.out⟩
      by_cases h3 : k = 3
      · subst h3
        go_wp2_with fail
        go_meet
        exact ⟨rfl, rfl, by simpa only [show kindC 3 = true from rfl, Bool.and_true] using HB.out, HE.out, HO.out⟩
      by_cases h4 : k = 4
      · subst h4
        go_wp2_with fail
        go_meet
        exact ⟨rfl, rfl, by simpa only [show kindC 4 = true from rfl, Bool.and_true] using HB.out, HE.out, HO.out⟩
      by_cases h5 : k = 5
      · subst h5
        go_wp2_with fail
        go_meet
        exact ⟨rfl, rfl, by simpa only [show kindC 5 = true from rfl, Bool.and_true] using HB.out, HE.out, HO.out⟩
      by_cases h6 : k = 6
      · subst h6
        go_wp2_with fail
        go_meet
        exact ⟨rfl, rfl, by simpa only [show kindC 6 = true from rfl, Bool.and_true] using HB.out, HE.out, HO.out⟩
      have hk : ¬ (1 ≤ k ∧ k ≤ 6) := by omega
      clear h1 h2 h3 h4 h5 h6
      have hkf : kindC k = false := by unfold kindC; simpa using hk
      have haf : exprsC k = 0 := by unfold exprsC; rw [if_neg (by omega)]
      have hpf : partsC k = 0 := by unfold partsC; rw [if_neg (by omega), if_neg (by omega)]
      have HKF := Lib.hid hkf; clear hkf
      have HAF := Lib.hid haf; clear haf
      have HPF := Lib.hid hpf; clear hpf
      have k1 : (k == 1) = false := by simp; omega
      have k2 : (k == 2) = false := by simp; omega
      have k3 : (k == 3) = false := by simp; omega
      have k4 : (k == 4) = false := by simp; omega
      have k5 : (k == 5) = false := by simp; omega
      have k6 : (k == 6) = false := by simp; omega
      clear hk
      go_wp2_with fail
      go_meet
      exact ⟨by rw [HAF.out], by rw [HPF.out], by rw [HKF.out, Bool.and_false]; exact (HBw.out.set 0 (.bool false)).alloc _, (by have h := Blk.new (w.setCell ⟨B, 0, none⟩ (.bool false)) #[.int .i64 k, .int .i64 n, .slice a xs.length c, .slice a2 cs.length c2] 148; rw [World.size_setCell] at h; exact h), ((Only.refl B w).setCell (by rfl) _).alloc _⟩
    case rest =>
      clear HB HE HO c0 f0 HBw
      obtain ⟨rfl, rfl, hB1, hE1, hO1⟩ := hcut
      have hfin := HFIN.out; clear HFIN
      simp only [headC] at hfin
      obtain ⟨gok, hok2⟩ : ∃ ok2, (ok && kindC k) = ok2 := ⟨_, rfl⟩
      rw [hok2] at hB1 hfin
      clear hok2
      have HFIN := Lib.hid hfin; clear hfin
      have hb0 : wc.cell? ⟨B, 0, none⟩ = some (.bool gok) := hB1.cell 0
      have hf0 := hB1.free 0
      have hk0 : wc.cell? ⟨w.heap.size, 0, none⟩ = some (.int .i64 k) := hE1.cell 0
      have hk1 : wc.cell? ⟨w.heap.size, 1, none⟩ = some (.int .i64 n) := hE1.cell 1
      have HB1 := Lib.hid hB1; clear hB1
      have HE1 := Lib.hid hE1; clear hE1
      have HO1 := Lib.hid hO1; clear hO1
      obtain ⟨A, hA⟩ : ∃ A, exprsC k = A := ⟨_, rfl⟩
      obtain ⟨A2, hA2⟩ : ∃ A, partsC k = A := ⟨_, rfl⟩
      rw [hA, hA2]
      have own : ownC k n xs.length cs.length = (opC k n && (((xs.length : Int) == A) && ((cs.length : Int) == A2))) := by unfold ownC; rw [hA, hA2]
      have OWN := Lib.hid own; clear own hA hA2
      obtain ⟨b3, hb3⟩ : ∃ b, (k == 3) = b := ⟨_, rfl⟩
      obtain ⟨bz, hbz⟩ : ∃ b, (n == 0) = b := ⟨_, rfl⟩
      have opc : opC k n = if b3 then (decide (1 ≤ n) && decide (n ≤ 6)) else bz := by
        unfold opC
        rw [← hb3, ← hbz]
        by_cases h : k = 3
        · rw [if_pos h, if_pos (by simpa using h)]; simp
        · rw [if_neg h, if_neg (by simpa using h)]
      have OPC := Lib.hid opc; clear opc
      go_upto_if 29 with fail
      go_cut [6] (fun s wx => s = .bool (opC k n) ∧ Blk wx B (Fm.cells ⟨gok, names⟩) 131 ∧ Blk wx w.heap.size #[.int .i64 k, .int .i64 n, .slice a xs.length c, .slice a2 cs.length c2] 148 ∧ Only B w wx)
      case first =>
        cases b3 with
        | false =>
          go_wp2_with fail
          go_meet
          exact ⟨by rw [OPC.out]; rfl, HB1.out, HE1.out, HO1.out⟩
        | true =>
          cases h1 : decide (1 ≤ n) with
          | false =>
            have e : opC k n = false := by rw [OPC.out, h1]; rfl
            have E := Lib.hid e; clear e OPC
            go_wp2_with fail
            go_meet
            exact ⟨by rw [E.out], HB1.out, HE1.out, HO1.out⟩
          | true =>
            cases h2 : decide (n ≤ 6) with
            | false =>
              have e : opC k n = false := by rw [OPC.out, h1, h2]; rfl
              have E := Lib.hid e; clear e OPC
              go_wp2_with fail
              go_meet
              exact ⟨by rw [E.out], HB1.out, HE1.out, HO1.out⟩
            | true =>
              have e : opC k n = true := by rw [OPC.out, h1, h2]; rfl
              have E := Lib.hid e; clear e OPC
              go_wp2_with fail
              go_meet
              exact ⟨by rw [E.out], HB1.out, HE1.out, HO1.out⟩
      case rest =>
        clear HB1 HE1 HO1 hk0 hk1 hb0 hf0 hb3 hbz OPC
        obtain ⟨rfl, hB1, hE1, hO1⟩ := hcut
        obtain ⟨q, hq⟩ : ∃ q, opC k n = q := ⟨_, rfl⟩
        rw [hq] at OWN ⊢
        clear hq
        have hb0 : wc.cell? ⟨B, 0, none⟩ = some (.bool gok) := hB1.cell 0
        have hf0 := hB1.free 0
        have hk2 : wc.cell? ⟨w.heap.size, 2, none⟩ = some (.slice a xs.length c) := hE1.cell 2
        have hk3 : wc.cell? ⟨w.heap.size, 3, none⟩ = some (.slice a2 cs.length c2) := hE1.cell 3
        have HB1 := Lib.hid hB1; clear hB1
        have HE1 := Lib.hid hE1; clear hE1
        have HO1 := Lib.hid hO1; clear hO1
        go_upto_region 16 with fail
        go_cut [59] (fun _ wx => Blk wx B (Fm.cells ⟨gok && ownC k n xs.length cs.length, names⟩) 131 ∧ Blk wx w.heap.size #[.int .i64 k, .int .i64 n, .slice a xs.length c, .slice a2 cs.length c2] 148 ∧ Only B w wx)
        case first =>
          cases gok with
          | false =>
            go_wp2_with fail
            go_meet
            exact ⟨by rw [Bool.false_and]; exact HB1.out.set 0 (.bool false), HE1.out.only ((Only.refl B _).setCell (by rfl) _) hne, HO1.out.setCell (by rfl) _⟩
          | true =>
            cases q with
            | false =>
              have e : ownC k n xs.length cs.length = false := by rw [OWN.out]; rfl
              have E := Lib.hid e; clear e OWN
              go_wp2_with fail
              go_meet
              exact ⟨by rw [E.out]; exact HB1.out.set 0 (.bool false), HE1.out.only ((Only.refl B _).setCell (by rfl) _) hne, HO1.out.setCell (by rfl) _⟩
            | true =>
              cases h1 : ((xs.length : Int) == A) with
              | false =>
                have e : ownC k n xs.length cs.length = false := by rw [OWN.out, h1]; rfl
                have E := Lib.hid e; clear e OWN
                go_wp2_with fail
                go_meet
                exact ⟨by rw [E.out]; exact HB1.out.set 0 (.bool false), HE1.out.only ((Only.refl B _).setCell (by rfl) _) hne, HO1.out.setCell (by rfl) _⟩
              | true =>
                cases h2 : ((cs.length : Int) == A2) with
                | false =>
                  have e : ownC k n xs.length cs.length = false := by rw [OWN.out, h1, h2]; rfl
                  have E := Lib.hid e; clear e OWN
                  go_wp2_with fail
                  go_meet
                  exact ⟨by rw [E.out]; exact HB1.out.set 0 (.bool false), HE1.out.only ((Only.refl B _).setCell (by rfl) _) hne, HO1.out.setCell (by rfl) _⟩
                | true =>
                  have e : ownC k n xs.length cs.length = true := by rw [OWN.out, h1, h2]; rfl
                  have E := Lib.hid e; clear e OWN
                  go_wp2_with fail
                  go_meet
                  exact ⟨by rw [E.out]; exact HB1.out.set 0 (.bool true), HE1.out.only ((Only.refl B _).setCell (by rfl) _) hne, HO1.out.setCell (by rfl) _⟩
        case rest =>
          clear HB1 HE1 HO1 hk2 hk3 hb0 hf0 OWN
          obtain ⟨hB1, hE1, hO1⟩ := hcut
          obtain ⟨S0, hS0⟩ : ∃ S0 : Fm, (⟨gok && ownC k n xs.length cs.length, names⟩ : Fm) = S0 := ⟨_, rfl⟩
          have hfin := HFIN.out; clear HFIN
          rw [hS0] at hB1 hfin
          clear hS0
          have HFIN := Lib.hid hfin; clear hfin
          have HB0 := Lib.hid hB1; clear hB1
          have HE0 := Lib.hid hE1; clear hE1
          have HO0 := Lib.hid hO1; clear hO1
          go_upto_block 1 with fail
          go_cut [7] (fun _ wx => Blk wx B (formL xs S0).cells 131 ∧ Blk wx w.heap.size #[.int .i64 k, .int .i64 n, .slice a xs.length c, .slice a2 cs.length c2] 148 ∧ Only B w wx)
          case first =>
            go_wp2_with fail
            go_loopw [7] (fun x wr => ∃ i : Nat, x = .int .i64 i ∧ i ≤ xs.length ∧ Blk wr B (formL (xs.take i) S0).cells 131 ∧ Blk wr w.heap.size #[.int .i64 k, .int .i64 n, .slice a xs.length c, .slice a2 cs.length c2] 148 ∧ Only B w wr) (fun x _ => xs.length - (intOf x).toNat)
            case atStart => exact ⟨0, rfl, by omega, by rw [List.take_zero, formL]; exact HB0.out, HE0.out, HO0.out⟩
            case round =>
              obtain ⟨i, rfl, hi, hBr, hEr, hOr⟩ := hrel
              clear HB0 HE0 HO0
              have e3 : wr.cell? ⟨w.heap.size, 2, none⟩ = some (.slice a xs.length c) := hEr.cell 2
              have b2 : wr.cell? ⟨B, 0, none⟩ = some (.bool (formL (xs.take i) S0).ok) := hBr.cell 0
              have hstop := formL_stop (l := xs) (i := i) (f := S0)
              have htk := fun h => formL_take (l := xs) (i := i) h S0
              have HE := Lib.hid hEr; clear hEr
              have HO := Lib.hid hOr; clear hOr
              by_cases hlt2 : i < xs.length
              · have hbi : (i : Int) + 1 ≤ 9223372036854775807 := by unfold maxLen at hcm1; omega
                obtain ⟨S, hS⟩ : ∃ S, formL (xs.take i) S0 = S := ⟨_, rfl⟩
                rw [hS] at hBr b2 hstop htk
                clear hS
                have HBr := Lib.hid hBr; clear hBr
                have hxl : ¬ xs.length = 0 := by omega
                obtain ⟨b, o, rfl, hrow⟩ := HROW1.out.resolve_left hxl
                cases hb : S.ok with
                | true =>
                  rw [hb] at b2
                  have hold : Below w0.heap.size w0 wr := hw.trans (HO.out.old hB0 hw.size)
                  obtain ⟨hty, u0, u1, u2, u3, m0, m1, m2, m3, hnd⟩ := SlIn.item4 rfl hrow i hlt2
                  have kk := keeps_below hold
                  have k0 := kk _ _ _ m0
                  have k1 := kk _ _ _ m1
                  have k2 := kk _ _ _ m2
                  have k3 := kk _ _ _ m3
                  have HC := Lib.hid (HIH1.out i hlt2 u0 u1 u2 u3 S wr hty hnd hold HBr.out)
                  have HTK := Lib.hid (htk hlt2 hb)
                  clear m0 m1 m2 m3 hnd hty hold kk hstop htk hrow hb
                  go_wp2_with fail
                  refine HC.out.mono ?_
                  rintro e w2 ⟨rfl, hB2, hO2⟩
                  rw [← HTK.out] at hB2
                  have hE2 := HE.out.only hO2 hne
                  have hO3 := HO.out.trans hO2
                  have HB2 := Lib.hid hB2; clear hB2
                  have HE2 := Lib.hid hE2; clear hE2
                  clear hO2
                  have HO3 := Lib.hid hO3; clear hO3
                  go_wp2
                  go_roundw
                  case rel => exact ⟨i + 1, by go_num, by omega, HB2.out, HE2.out, HO3.out⟩
                  case measure => simp [intOf]; omega
                | false =>
                  rw [hb] at b2
                  have HST := Lib.hid (hstop hb)
                  clear hstop htk hb
                  go_wp2
                  go_meet
                  exact ⟨by rw [HST.out]; exact HBr.out, HE.out, HO.out⟩
              · obtain rfl : i = xs.length := by omega
                rw [List.take_length] at hBr
                have HBr := Lib.hid hBr; clear hBr
                clear hstop htk b2
                go_wp2
                go_meet
                exact ⟨HBr.out, HE.out, HO.out⟩
          case rest =>
            clear HB0 HE0 HO0
            obtain ⟨hBr, hEr, hOr⟩ := hcut
            obtain ⟨S1, hSS⟩ : ∃ S, formL xs S0 = S := ⟨_, rfl⟩
            rw [hSS] at hBr HFIN
            clear hSS
            have HB1 := Lib.hid hBr; clear hBr
            have HE1 := Lib.hid hEr; clear hEr
            have HO1 := Lib.hid hOr; clear hOr
            go_wp2_with fail
            go_loopw [8] (fun x wr => ∃ i : Nat, x = .int .i64 i ∧ i ≤ cs.length ∧ Blk wr B (formL (cs.take i) S1).cells 131 ∧ Blk wr w.heap.size #[.int .i64 k, .int .i64 n, .slice a xs.length c, .slice a2 cs.length c2] 148 ∧ Only B w wr) (fun x _ => cs.length - (intOf x).toNat)
            case atStart => exact ⟨0, rfl, by omega, by rw [List.take_zero, formL]; exact HB1.out, HE1.out, HO1.out⟩
            case round =>
              obtain ⟨i, rfl, hi, hBr, hEr, hOr⟩ := hrel
              clear HB1 HE1 HO1
              have e3 : wr.cell? ⟨w.heap.size, 3, none⟩ = some (.slice a2 cs.length c2) := hEr.cell 3
              have b2 : wr.cell? ⟨B, 0, none⟩ = some (.bool (formL (cs.take i) S1).ok) := hBr.cell 0
              have hstop := formL_stop (l := cs) (i := i) (f := S1)
              have htk := fun h => formL_take (l := cs) (i := i) h S1
              have HE := Lib.hid hEr; clear hEr
              have HO := Lib.hid hOr; clear hOr
              by_cases hlt2 : i < cs.length
              · have hbi : (i : Int) + 1 ≤ 9223372036854775807 := by unfold maxLen at hcm2; omega
                obtain ⟨S, hS⟩ : ∃ S, formL (cs.take i) S1 = S := ⟨_, rfl⟩
                rw [hS] at hBr b2 hstop htk
                clear hS
                have HBr := Lib.hid hBr; clear hBr
                have hxl : ¬ cs.length = 0 := by omega
                obtain ⟨b, o, rfl, hrow⟩ := HROW2.out.resolve_left hxl
                cases hb : S.ok with
                | true =>
                  rw [hb] at b2
                  have hold : Below w0.heap.size w0 wr := hw.trans (HO.out.old hB0 hw.size)
                  obtain ⟨hty, u0, u1, u2, u3, m0, m1, m2, m3, hnd⟩ := SlIn.item4 rfl hrow i hlt2
                  have kk := keeps_below hold
                  have k0 := kk _ _ _ m0
                  have k1 := kk _ _ _ m1
                  have k2 := kk _ _ _ m2
                  have k3 := kk _ _ _ m3
                  have HC := Lib.hid (HIH2.out i hlt2 u0 u1 u2 u3 S wr hty hnd hold HBr.out)
                  have HTK := Lib.hid (htk hlt2 hb)
                  clear m0 m1 m2 m3 hnd hty hold kk hstop htk hrow hb
                  go_wp2_with fail
                  refine HC.out.mono ?_
                  rintro e w2 ⟨rfl, hB2, hO2⟩
                  rw [← HTK.out] at hB2
                  have hE2 := HE.out.only hO2 hne
                  have hO3 := HO.out.trans hO2
                  have HB2 := Lib.hid hB2; clear hB2
                  have HE2 := Lib.hid hE2; clear hE2
                  clear hO2
                  have HO3 := Lib.hid hO3; clear hO3
                  go_wp2
                  go_roundw
                  case rel => exact ⟨i + 1, by go_num, by omega, HB2.out, HE2.out, HO3.out⟩
                  case measure => simp [intOf]; omega
                | false =>
                  rw [hb] at b2
                  have HST := Lib.hid (hstop hb)
                  clear hstop htk hb
                  go_wp2
                  go_end0
                  exact ⟨rfl, by rw [HFIN.out, HST.out]; exact HBr.out, HO.out⟩
              · obtain rfl : i = cs.length := by omega
                rw [List.take_length] at hBr
                have HBr := Lib.hid hBr; clear hBr
                clear hstop htk b2
                go_wp2
                go_end0
                exact ⟨rfl, by rw [HFIN.out]; exact HBr.out, HO.out⟩
end Go.Proofs.YtbhbmoppipohjaaGreatDoor

/-
  The document's answer for an expression and for a condition (gnomonref3's form.told, Expr, Cond): proved is what each answers, and that it turns nothing that lay.
-/
namespace Go.Proofs.YtbhbmoppipohjaaGreatDoor
open Go Go.RowKit

def toldF (f : Fm) : Int := if f.ok then (if f.names then 0 else 31) else 30
theorem told_any (f : Fm) (w : World) : Calls Tryz.prog 74 #[.agg #[.bool f.ok, .bool f.names]] w (fun e w' => e = .returned (.int .i64 (toldF f)) ∧ Below w.heap.size w w') := by
  obtain ⟨ok, names⟩ := f
  have ha := (Below.refl w.heap.size w).alloc (Nat.le_refl _) (.cells #[.bool ok, .bool names] 131)
  cases ok <;> cases names
  all_goals
    go_enter Tryz.func74, Tryz.ntmps74
    go_wp2
    go_ret
    exact ⟨rfl, ha⟩
/-- What the document answers for an expression or a condition: the walk's error, else the form's. -/
def docChk (x : Nd) : Int := if (walkN x 1 ⟨0, 0, 0⟩).bad ≠ 0 then (walkN x 1 ⟨0, 0, 0⟩).bad else toldF (formN x ⟨true, true⟩)

end Go.Proofs.YtbhbmoppipohjaaGreatDoor
