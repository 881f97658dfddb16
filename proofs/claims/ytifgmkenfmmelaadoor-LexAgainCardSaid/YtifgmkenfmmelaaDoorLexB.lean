/-
  The document's one token (gnomonref2.one): proved is what it answers, for every text of at most 65536 bytes.
-/
import Derived.Test.YtifgmkenfmmelaaDoorLexO
namespace Go.Proofs.YtifgmkenfmmelaaDoor
open Go Go.RowKit

theorem rword_is (t : ByteArray) (b : Bool) (hb : wordL t.toList = b) (w : World) : Calls Tryd.prog 13 #[.string t] w fun e w' => e = .returned (.bool b) ∧ w = w' := by
  rw [← hb]
  exact refword_any t w

/-- What a call of the document's token answers, in one shape. -/
structure OneX where
  err : Int
  kind : Int
  text : ByteArray
  num : Int
  m : Int
def OneX.val (x : OneX) : Value := .tuple #[.agg #[.int .i64 x.kind, .string x.text, .int .i64 x.num, .int .i64 0, .int .i64 0], .int .i64 x.m, .int .i64 x.err]
theorem oneV_shape (s : ByteArray) (a : Nat) (o : Int × Nat × Int × Int) : ∃ x : OneX, True ∧ oneV s a o = .tuple #[.agg #[.int .i64 x.kind, .string x.text, .int .i64 x.num, .int .i64 0, .int .i64 0], .int .i64 x.m, .int .i64 x.err] := by
  unfold oneV
  split
  · exact ⟨⟨0, _, _, _, _⟩, trivial, rfl⟩
  · exact ⟨⟨_, 0, ⟨#[]⟩, 0, 0⟩, trivial, rfl⟩
set_option maxRecDepth 100000 in
set_option maxHeartbeats 4000000 in
theorem rone_any (s : ByteArray) (a : Nat) (w : World) (hs : s.size ≤ 65536) (ha : a < s.size) :
    Calls Tryd.prog 26 #[.string s, .int .i64 a] w fun e w' => e = .returned (oneV s a (oneT s a)) ∧ Below w.heap.size w w' := by
  have hO : oneT s a = if cls (rn s a) = 3 then letT s a else if cls (rn s a) = 4 then digT s a else if cls (rn s a) = 5 then sigT s a else (20, 0, 0, 0) := rfl
  have hc := fun w => rcls_any s a w hs
  have e1 : clsAt s a = cls (rn s a) := by unfold clsAt; rw [if_pos ha]
  rw [e1] at hc
  clear e1
  have hD := fun (h : cls (rn s a) = 4) (w : World) => rnumber_any s a w hs ha (isDig_of h)
  have hS := fun (w : World) => rsign_any s a w hs ha
  have hR := fun (w : World) => rrun_any s a w hs (Nat.le_of_lt ha)
  have hl : letT s a = if wordL (s.extract a (spE inNm s s.size a)).toList = true then (0, spE inNm s s.size a, 3, 0) else if 32 < cntE inNm s s.size a then (22, 0, 0, 0) else (0, spE inNm s s.size a, 1, 0) := by
    unfold letT
    rw [runeCount_run s a (Nat.le_of_lt ha)]
  have hb := spE_bounds inNm s s.size a (Nat.le_of_lt ha)
  obtain ⟨n, hn⟩ : ∃ n, spE inNm s s.size a = n := ⟨_, rfl⟩
  obtain ⟨c, hcn⟩ : ∃ c, cntE inNm s s.size a = c := ⟨_, rfl⟩
  rw [hn, hcn] at hR hl
  rw [hn] at hb
  clear hn hcn
  obtain ⟨b, hwb⟩ : ∃ b, wordL (s.extract a n).toList = b := ⟨_, rfl⟩
  have HW := Lib.hid (fun w => rword_is (s.extract a n) b hwb w)
  rw [hwb] at hl
  clear hwb
  obtain ⟨K, hK⟩ : ∃ K, cls (rn s a) = K := ⟨_, rfl⟩
  rw [hK] at hO hc hD
  clear hK
  obtain ⟨o, ho⟩ : ∃ o, oneT s a = o := ⟨_, rfl⟩
  rw [ho] at hO ⊢
  clear ho
  have HC := Lib.hid hc; clear hc
  have HR := Lib.hid hR; clear hR
  have HS := Lib.hid hS; clear hS
  have HL := Lib.hid hl; clear hl
  have q1 : (a : Int) ≤ n := by omega
  have q2 : (n : Int) ≤ s.size := by omega
  by_cases h3 : K = 3
  · subst h3
    rw [if_pos rfl] at hO
    rw [HL.out] at hO
    clear hD HL
    cases b with
    | true =>
      rw [if_pos rfl] at hO
      have HO := Lib.hid hO; clear hO
      go_enter Tryd.func26, Tryd.ntmps26
      go_wp2_with (first | (go_at_call 40; refine (HC.out _).mono ?_; rintro e w' ⟨rfl, rfl⟩) | (go_at_call 41; refine (HR.out _).mono ?_; rintro e w' ⟨rfl, rfl⟩) | (go_at_call 13; refine (HW.out _).mono ?_; rintro e w' ⟨rfl, rfl⟩))
      rw [HO.out, oneV_ok]
      exact bodyPost_ret (v := okV 3 (s.extract a n) 0 n) (by simp [results, Tryd.results26, go_sem, okV]) rfl ⟨rfl, (Below.refl _ _).alloc (Nat.le_refl _) _⟩
    | false =>
      rw [if_neg (by decide)] at hO
      by_cases h32 : 32 < c
      · rw [if_pos h32] at hO
        have HO := Lib.hid hO; clear hO
        have h32' : (32 : Int) < c := by omega
        go_enter Tryd.func26, Tryd.ntmps26
        go_wp2_with (first | (go_at_call 40; refine (HC.out _).mono ?_; rintro e w' ⟨rfl, rfl⟩) | (go_at_call 41; refine (HR.out _).mono ?_; rintro e w' ⟨rfl, rfl⟩) | (go_at_call 13; refine (HW.out _).mono ?_; rintro e w' ⟨rfl, rfl⟩))
        rw [HO.out, oneV_bad _ _ _ (by decide)]
        exact bodyPost_ret (v := badV 22) (by simp [results, Tryd.results26, go_sem, badV]) rfl ⟨rfl, (Below.refl _ _).alloc (Nat.le_refl _) _⟩
      · rw [if_neg h32] at hO
        have HO := Lib.hid hO; clear hO
        have h32' : ¬ (32 : Int) < c := by omega
        go_enter Tryd.func26, Tryd.ntmps26
        go_wp2_with (first | (go_at_call 40; refine (HC.out _).mono ?_; rintro e w' ⟨rfl, rfl⟩) | (go_at_call 41; refine (HR.out _).mono ?_; rintro e w' ⟨rfl, rfl⟩) | (go_at_call 13; refine (HW.out _).mono ?_; rintro e w' ⟨rfl, rfl⟩))
        rw [HO.out, oneV_ok]
        exact bodyPost_ret (v := okV 1 (s.extract a n) 0 n) (by simp [results, Tryd.results26, go_sem, okV]) rfl ⟨rfl, (Below.refl _ _).alloc (Nat.le_refl _) _⟩
  · rw [if_neg h3] at hO
    by_cases h4 : K = 4
    · rw [if_pos h4] at hO
      have HD := Lib.hid (hD h4); clear hD
      subst h4
      rw [← hO] at HD
      clear hO
      obtain ⟨x, hx, hv⟩ := oneV_shape s a o
      rw [hv] at HD ⊢
      clear hv
      obtain ⟨e, kind, t, num, m⟩ := x
      simp only at hx HD ⊢
      clear hx
      go_enter Tryd.func26, Tryd.ntmps26
      go_wp2_with (first | (go_at_call 40; refine (HC.out _).mono ?_; rintro e w' ⟨rfl, rfl⟩) | fail)
      refine (HD.out _).mono ?_
      rintro e w1 ⟨rfl, hb1⟩
      have bR := (Blk.new w #[.int .i64 0, .string ⟨#[]⟩, .int .i64 0, .int .i64 0, .int .i64 0] 33).below hb1 (by simp)
      have f0 := bR.free 0
      have f1 := bR.free 1
      have f2 := bR.free 2
      have f3 := bR.free 3
      have f4 := bR.free 4
      have c0 := bR.cell 0
      have c1 := bR.cell 1
      have c2 := bR.cell 2
      have c3 := bR.cell 3
      have c4 := bR.cell 4
      simp at c0 c1 c2 c3 c4
      go_wp2
      have bR3 := ((((bR.set 0 (.int .i64 kind)).set 1 (.string t)).set 2 (.int .i64 num)).set 3 (.int .i64 0)).set 4 (.int .i64 0)
      have hbb := (((((((Below.refl _ w).alloc (Nat.le_refl _) (.cells #[.int .i64 0, .string ⟨#[]⟩, .int .i64 0, .int .i64 0, .int .i64 0] 33)).trans (hb1.mono (by simp))).setCell (p := ⟨w.heap.size, 0, none⟩) (by simp) (.int .i64 kind)).setCell (p := ⟨w.heap.size, 1, none⟩) (by simp) (.string t)).setCell (p := ⟨w.heap.size, 2, none⟩) (by simp) (.int .i64 num)).setCell (p := ⟨w.heap.size, 3, none⟩) (by simp) (.int .i64 0)).setCell (p := ⟨w.heap.size, 4, none⟩) (by simp) (.int .i64 0)
      obtain ⟨W, hW⟩ : ∃ W, ((((w1.setCell ⟨w.heap.size, 0, none⟩ (.int .i64 kind)).setCell ⟨w.heap.size, 1, none⟩ (.string t)).setCell ⟨w.heap.size, 2, none⟩ (.int .i64 num)).setCell ⟨w.heap.size, 3, none⟩ (.int .i64 0)).setCell ⟨w.heap.size, 4, none⟩ (.int .i64 0) = W := ⟨_, rfl⟩
      rw [hW] at bR3 hbb ⊢
      have q0 : W.cell? ⟨w.heap.size, 0, none⟩ = some (.int .i64 kind) := bR3.cell 0
      have q1 : W.cell? ⟨w.heap.size, 1, none⟩ = some (.string t) := bR3.cell 1
      have q2 : W.cell? ⟨w.heap.size, 2, none⟩ = some (.int .i64 num) := bR3.cell 2
      have q3 : W.cell? ⟨w.heap.size, 3, none⟩ = some (.int .i64 0) := bR3.cell 3
      have q4 : W.cell? ⟨w.heap.size, 4, none⟩ = some (.int .i64 0) := bR3.cell 4
      exact bodyPost_ret (v := .tuple #[.agg #[.int .i64 kind, .string t, .int .i64 num, .int .i64 0, .int .i64 0], .int .i64 m, .int .i64 e]) (by simp [results, Tryd.results26, go_sem, q0, q1, q2, q3, q4]) rfl ⟨rfl, hbb⟩
    · have n4 : (K == 4) = false := by simpa using h4
      have n3 : (K == 3) = false := by simpa using h3
      clear hD
      rw [if_neg h4] at hO
      by_cases h5 : K = 5
      · subst h5
        rw [if_pos rfl] at hO
        rw [← hO] at HS
        clear hO
        obtain ⟨x, hx, hv⟩ := oneV_shape s a o
        rw [hv] at HS ⊢
        clear hv
        obtain ⟨e, kind, t, num, m⟩ := x
        simp only at hx HS ⊢
        clear hx
        go_enter Tryd.func26, Tryd.ntmps26
        go_wp2_with (first | (go_at_call 40; refine (HC.out _).mono ?_; rintro e w' ⟨rfl, rfl⟩) | fail)
        refine (HS.out _).mono ?_
        rintro e w1 ⟨rfl, hb1⟩
        have bR := (Blk.new w #[.int .i64 0, .string ⟨#[]⟩, .int .i64 0, .int .i64 0, .int .i64 0] 33).below hb1 (by simp)
        have f0 := bR.free 0
        have f1 := bR.free 1
        have f2 := bR.free 2
        have f3 := bR.free 3
        have f4 := bR.free 4
        have c0 := bR.cell 0
        have c1 := bR.cell 1
        have c2 := bR.cell 2
        have c3 := bR.cell 3
        have c4 := bR.cell 4
        simp at c0 c1 c2 c3 c4
        go_wp2
        have bR3 := ((((bR.set 0 (.int .i64 kind)).set 1 (.string t)).set 2 (.int .i64 num)).set 3 (.int .i64 0)).set 4 (.int .i64 0)
        have hbb := (((((((Below.refl _ w).alloc (Nat.le_refl _) (.cells #[.int .i64 0, .string ⟨#[]⟩, .int .i64 0, .int .i64 0, .int .i64 0] 33)).trans (hb1.mono (by simp))).setCell (p := ⟨w.heap.size, 0, none⟩) (by simp) (.int .i64 kind)).setCell (p := ⟨w.heap.size, 1, none⟩) (by simp) (.string t)).setCell (p := ⟨w.heap.size, 2, none⟩) (by simp) (.int .i64 num)).setCell (p := ⟨w.heap.size, 3, none⟩) (by simp) (.int .i64 0)).setCell (p := ⟨w.heap.size, 4, none⟩) (by simp) (.int .i64 0)
        obtain ⟨W, hW⟩ : ∃ W, ((((w1.setCell ⟨w.heap.size, 0, none⟩ (.int .i64 kind)).setCell ⟨w.heap.size, 1, none⟩ (.string t)).setCell ⟨w.heap.size, 2, none⟩ (.int .i64 num)).setCell ⟨w.heap.size, 3, none⟩ (.int .i64 0)).setCell ⟨w.heap.size, 4, none⟩ (.int .i64 0) = W := ⟨_, rfl⟩
        rw [hW] at bR3 hbb ⊢
        have q0 : W.cell? ⟨w.heap.size, 0, none⟩ = some (.int .i64 kind) := bR3.cell 0
        have q1 : W.cell? ⟨w.heap.size, 1, none⟩ = some (.string t) := bR3.cell 1
        have q2 : W.cell? ⟨w.heap.size, 2, none⟩ = some (.int .i64 num) := bR3.cell 2
        have q3 : W.cell? ⟨w.heap.size, 3, none⟩ = some (.int .i64 0) := bR3.cell 3
        have q4 : W.cell? ⟨w.heap.size, 4, none⟩ = some (.int .i64 0) := bR3.cell 4
        exact bodyPost_ret (v := .tuple #[.agg #[.int .i64 kind, .string t, .int .i64 num, .int .i64 0, .int .i64 0], .int .i64 m, .int .i64 e]) (by simp [results, Tryd.results26, go_sem, q0, q1, q2, q3, q4]) rfl ⟨rfl, hbb⟩
      · have n5 : (K == 5) = false := by simpa using h5
        rw [if_neg h5] at hO
        have HO := Lib.hid hO; clear hO
        go_enter Tryd.func26, Tryd.ntmps26
        go_wp2_with (go_at_call 40; refine (HC.out _).mono ?_; rintro e w' ⟨rfl, rfl⟩)
        rw [HO.out, oneV_bad _ _ _ (by decide)]
        exact bodyPost_ret (v := badV 20) (by simp [results, Tryd.results26, go_sem, badV]) rfl ⟨rfl, (Below.refl _ _).alloc (Nat.le_refl _) _⟩
end Go.Proofs.YtifgmkenfmmelaaDoor
