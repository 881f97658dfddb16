/-
  Small functions of package print and of the document's: levels and signs; a sign that is written, something that is written in brackets.
-/
import Derived.Test.YtbchibmmkmldiaaGreatDoorBuild
namespace Go.Proofs.YtbchibmmkmldiaaGreatDoor
open Go Go.RowKit Go.Shelf

def levE (k : Int) : Int := if k = 6 ∨ k = 7 then 1 else if k = 8 ∨ k = 9 ∨ k = 10 then 2 else if k = 5 then 3 else 4
def levC (k : Int) : Int := if k = 6 then 1 else if k = 5 then 2 else 3
def sgnE (k : Int) : ByteArray := if k = 6 then ⟨#[43]⟩ else if k = 7 then ⟨#[45]⟩ else if k = 8 then ⟨#[42]⟩ else if k = 9 then ⟨#[47]⟩ else ⟨#[37]⟩
def sgnC (k : Int) : ByteArray := if k = 5 then ⟨#[38, 38]⟩ else ⟨#[124, 124]⟩
def sgnO (k : Int) : ByteArray := if k = 1 then ⟨#[60]⟩ else if k = 2 then ⟨#[60, 61]⟩ else if k = 3 then ⟨#[61, 61]⟩ else if k = 4 then ⟨#[33, 61]⟩ else if k = 5 then ⟨#[62]⟩ else ⟨#[62, 61]⟩
set_option maxRecDepth 100000 in
theorem elev_any (k : Int) (w : World) : Calls Tryz.prog 29 #[.int .i64 k] w (fun e w' => e = .returned (.int .i64 (levE k)) ∧ w' = w) := by
  by_cases h5 : k = 5
  · subst h5
    rw [show levE 5 = 3 from rfl]
    go_enter Tryz.func29, Tryz.ntmps29
    go_wp2_with fail
    go_ret
    exact ⟨rfl, rfl⟩
  by_cases h6 : k = 6
  · subst h6
    rw [show levE 6 = 1 from rfl]
    go_enter Tryz.func29, Tryz.ntmps29
    go_wp2_with fail
    go_ret
    exact ⟨rfl, rfl⟩
  by_cases h7 : k = 7
  · subst h7
    rw [show levE 7 = 1 from rfl]
    go_enter Tryz.func29, Tryz.ntmps29
    go_wp2_with fail
    go_ret
    exact ⟨rfl, rfl⟩
  by_cases h8 : k = 8
  · subst h8
    rw [show levE 8 = 2 from rfl]
    go_enter Tryz.func29, Tryz.ntmps29
    go_wp2_with fail
    go_ret
    exact ⟨rfl, rfl⟩
  by_cases h9 : k = 9
  · subst h9
    rw [show levE 9 = 2 from rfl]
    go_enter Tryz.func29, Tryz.ntmps29
    go_wp2_with fail
    go_ret
    exact ⟨rfl, rfl⟩
  by_cases h10 : k = 10
  · subst h10
    rw [show levE 10 = 2 from rfl]
    go_enter Tryz.func29, Tryz.ntmps29
    go_wp2_with fail
    go_ret
    exact ⟨rfl, rfl⟩
  rw [show levE k = 4 by unfold levE; simp [h5, h6, h7, h8, h9, h10]]
  have t5 : (k == 5) = false := by simpa using h5
  have t6 : (k == 6) = false := by simpa using h6
  have t7 : (k == 7) = false := by simpa using h7
  have t8 : (k == 8) = false := by simpa using h8
  have t9 : (k == 9) = false := by simpa using h9
  have t10 : (k == 10) = false := by simpa using h10
  clear h5 h6 h7 h8 h9 h10
  go_enter Tryz.func29, Tryz.ntmps29
  go_wp2_with fail
  go_ret
  exact ⟨rfl, rfl⟩
set_option maxRecDepth 100000 in
theorem clev_any (k : Int) (w : World) : Calls Tryz.prog 97 #[.int .i64 k] w (fun e w' => e = .returned (.int .i64 (levC k)) ∧ w' = w) := by
  by_cases h5 : k = 5
  · subst h5
    rw [show levC 5 = 2 from rfl]
    go_enter Tryz.func97, Tryz.ntmps97
    go_wp2_with fail
    go_ret
    exact ⟨rfl, rfl⟩
  by_cases h6 : k = 6
  · subst h6
    rw [show levC 6 = 1 from rfl]
    go_enter Tryz.func97, Tryz.ntmps97
    go_wp2_with fail
    go_ret
    exact ⟨rfl, rfl⟩
  rw [show levC k = 3 by unfold levC; simp [h5, h6]]
  have t5 : (k == 5) = false := by simpa using h5
  have t6 : (k == 6) = false := by simpa using h6
  clear h5 h6
  go_enter Tryz.func97, Tryz.ntmps97
  go_wp2_with fail
  go_ret
  exact ⟨rfl, rfl⟩
set_option maxRecDepth 100000 in
theorem esgn_any (k : Int) (w : World) : Calls Tryz.prog 35 #[.int .i64 k] w (fun e w' => e = .returned (.string (sgnE k)) ∧ w' = w) := by
  by_cases h6 : k = 6
  · subst h6
    rw [show sgnE 6 = ⟨#[43]⟩ from rfl]
    go_enter Tryz.func35, Tryz.ntmps35
    go_wp2_with fail
    go_ret
    exact ⟨rfl, rfl⟩
  by_cases h7 : k = 7
  · subst h7
    rw [show sgnE 7 = ⟨#[45]⟩ from rfl]
    go_enter Tryz.func35, Tryz.ntmps35
    go_wp2_with fail
    go_ret
    exact ⟨rfl, rfl⟩
  by_cases h8 : k = 8
  · subst h8
    rw [show sgnE 8 = ⟨#[42]⟩ from rfl]
    go_enter Tryz.func35, Tryz.ntmps35
    go_wp2_with fail
    go_ret
    exact ⟨rfl, rfl⟩
  by_cases h9 : k = 9
  · subst h9
    rw [show sgnE 9 = ⟨#[47]⟩ from rfl]
    go_enter Tryz.func35, Tryz.ntmps35
    go_wp2_with fail
    go_ret
    exact ⟨rfl, rfl⟩
  rw [show sgnE k = ⟨#[37]⟩ by unfold sgnE; simp [h6, h7, h8, h9]]
  have t6 : (k == 6) = false := by simpa using h6
  have t7 : (k == 7) = false := by simpa using h7
  have t8 : (k == 8) = false := by simpa using h8
  have t9 : (k == 9) = false := by simpa using h9
  clear h6 h7 h8 h9
  go_enter Tryz.func35, Tryz.ntmps35
  go_wp2_with fail
  go_ret
  exact ⟨rfl, rfl⟩
set_option maxRecDepth 100000 in
theorem csgn_any (k : Int) (w : World) : Calls Tryz.prog 100 #[.int .i64 k] w (fun e w' => e = .returned (.string (sgnC k)) ∧ w' = w) := by
  by_cases h5 : k = 5
  · subst h5
    rw [show sgnC 5 = ⟨#[38, 38]⟩ from rfl]
    go_enter Tryz.func100, Tryz.ntmps100
    go_wp2_with fail
    go_ret
    exact ⟨rfl, rfl⟩
  rw [show sgnC k = ⟨#[124, 124]⟩ by unfold sgnC; simp [h5]]
  have t5 : (k == 5) = false := by simpa using h5
  clear h5
  go_enter Tryz.func100, Tryz.ntmps100
  go_wp2_with fail
  go_ret
  exact ⟨rfl, rfl⟩
set_option maxRecDepth 100000 in
theorem osgn_any (k : Int) (w : World) : Calls Tryz.prog 98 #[.int .i64 k] w (fun e w' => e = .returned (.string (sgnO k)) ∧ w' = w) := by
  by_cases h1 : k = 1
  · subst h1
    rw [show sgnO 1 = ⟨#[60]⟩ from rfl]
    go_enter Tryz.func98, Tryz.ntmps98
    go_wp2_with fail
    go_ret
    exact ⟨rfl, rfl⟩
  by_cases h2 : k = 2
  · subst h2
    rw [show sgnO 2 = ⟨#[60, 61]⟩ from rfl]
    go_enter Tryz.func98, Tryz.ntmps98
    go_wp2_with fail
    go_ret
    exact ⟨rfl, rfl⟩
  by_cases h3 : k = 3
  · subst h3
    rw [show sgnO 3 = ⟨#[61, 61]⟩ from rfl]
    go_enter Tryz.func98, Tryz.ntmps98
    go_wp2_with fail
    go_ret
    exact ⟨rfl, rfl⟩
  by_cases h4 : k = 4
  · subst h4
    rw [show sgnO 4 = ⟨#[33, 61]⟩ from rfl]
    go_enter Tryz.func98, Tryz.ntmps98
    go_wp2_with fail
    go_ret
    exact ⟨rfl, rfl⟩
  by_cases h5 : k = 5
  · subst h5
    rw [show sgnO 5 = ⟨#[62]⟩ from rfl]
    go_enter Tryz.func98, Tryz.ntmps98
    go_wp2_with fail
    go_ret
    exact ⟨rfl, rfl⟩
  rw [show sgnO k = ⟨#[62, 61]⟩ by unfold sgnO; simp [h1, h2, h3, h4, h5]]
  have t1 : (k == 1) = false := by simpa using h1
  have t2 : (k == 2) = false := by simpa using h2
  have t3 : (k == 3) = false := by simpa using h3
  have t4 : (k == 4) = false := by simpa using h4
  have t5 : (k == 5) = false := by simpa using h5
  clear h1 h2 h3 h4 h5
  go_enter Tryz.func98, Tryz.ntmps98
  go_wp2_with fail
  go_ret
  exact ⟨rfl, rfl⟩
set_option maxRecDepth 100000 in
theorem rlev_any (k n : Int) (s : ByteArray) (a : Option Addr) (q c : Nat) (w : World) : Calls Tryz.prog 53 #[.agg #[.int .i64 k, .int .i64 n, .string s, .slice a q c]] w (fun e w' => e = .returned (.int .i64 (levE k)) ∧ Below w.heap.size w w') := by
  by_cases h5 : k = 5
  · subst h5
    rw [show levE 5 = 3 from rfl]
    go_enter Tryz.func53, Tryz.ntmps53
    go_wp2_with fail
    go_ret
    exact ⟨rfl, (Below.refl _ w).alloc (Nat.le_refl _) _⟩
  by_cases h6 : k = 6
  · subst h6
    rw [show levE 6 = 1 from rfl]
    go_enter Tryz.func53, Tryz.ntmps53
    go_wp2_with fail
    go_ret
    exact ⟨rfl, (Below.refl _ w).alloc (Nat.le_refl _) _⟩
  by_cases h7 : k = 7
  · subst h7
    rw [show levE 7 = 1 from rfl]
    go_enter Tryz.func53, Tryz.ntmps53
    go_wp2_with fail
    go_ret
    exact ⟨rfl, (Below.refl _ w).alloc (Nat.le_refl _) _⟩
  by_cases h8 : k = 8
  · subst h8
    rw [show levE 8 = 2 from rfl]
    go_enter Tryz.func53, Tryz.ntmps53
    go_wp2_with fail
    go_ret
    exact ⟨rfl, (Below.refl _ w).alloc (Nat.le_refl _) _⟩
  by_cases h9 : k = 9
  · subst h9
    rw [show levE 9 = 2 from rfl]
    go_enter Tryz.func53, Tryz.ntmps53
    go_wp2_with fail
    go_ret
    exact ⟨rfl, (Below.refl _ w).alloc (Nat.le_refl _) _⟩
  by_cases h10 : k = 10
  · subst h10
    rw [show levE 10 = 2 from rfl]
    go_enter Tryz.func53, Tryz.ntmps53
    go_wp2_with fail
    go_ret
    exact ⟨rfl, (Below.refl _ w).alloc (Nat.le_refl _) _⟩
  rw [show levE k = 4 by unfold levE; simp [h5, h6, h7, h8, h9, h10]]
  have t5 : (k == 5) = false := by simpa using h5
  have t6 : (k == 6) = false := by simpa using h6
  have t7 : (k == 7) = false := by simpa using h7
  have t8 : (k == 8) = false := by simpa using h8
  have t9 : (k == 9) = false := by simpa using h9
  have t10 : (k == 10) = false := by simpa using h10
  clear h5 h6 h7 h8 h9 h10
  go_enter Tryz.func53, Tryz.ntmps53
  go_wp2_with fail
  go_ret
  exact ⟨rfl, (Below.refl _ w).alloc (Nat.le_refl _) _⟩
set_option maxRecDepth 100000 in
theorem rank_any (k n : Int) (a a2 : Option Addr) (q c q2 c2 : Nat) (w : World) : Calls Tryz.prog 55 #[.agg #[.int .i64 k, .int .i64 n, .slice a q c, .slice a2 q2 c2]] w (fun e w' => e = .returned (.int .i64 (levC k)) ∧ Below w.heap.size w w') := by
  by_cases h5 : k = 5
  · subst h5
    rw [show levC 5 = 2 from rfl]
    go_enter Tryz.func55, Tryz.ntmps55
    go_wp2_with fail
    go_ret
    exact ⟨rfl, (Below.refl _ w).alloc (Nat.le_refl _) _⟩
  by_cases h6 : k = 6
  · subst h6
    rw [show levC 6 = 1 from rfl]
    go_enter Tryz.func55, Tryz.ntmps55
    go_wp2_with fail
    go_ret
    exact ⟨rfl, (Below.refl _ w).alloc (Nat.le_refl _) _⟩
  rw [show levC k = 3 by unfold levC; simp [h5, h6]]
  have t5 : (k == 5) = false := by simpa using h5
  have t6 : (k == 6) = false := by simpa using h6
  clear h5 h6
  go_enter Tryz.func55, Tryz.ntmps55
  go_wp2_with fail
  go_ret
  exact ⟨rfl, (Below.refl _ w).alloc (Nat.le_refl _) _⟩

/-- A text, in brackets where it needs them. -/
def par (b : Bool) (o s : ByteArray) (l : List UInt8) : List UInt8 := if b then o.data.toList ++ (l ++ s.data.toList) else l
/-- Bytes are written behind l. -/
def Wrote (T : TypeId) (rest : List Value) (B0 b : Nat) (l : List UInt8) (w : World) : Ending → World → Prop := fun e w' => e = .returned (.tuple #[]) ∧ Bd T rest B0 b l w' ∧ Kp B0 b w w'

set_option maxRecDepth 100000 in
theorem sign_any (T : TypeId) (rest : List Value) (B0 b : Nat) (l : List UInt8) (s : ByteArray) (w : World) (hT : Lies T (2 + rest.length)) (hT8 : T ≠ 5) (h : Bd T rest B0 b l w) (hlen : l.length + s.size + 2 ≤ 140737488355328) (hBw : B0 ≤ w.heap.size) :
    Calls Tryz.prog 34 #[.pointer (some ⟨b, 0, none⟩), .string s] w (Wrote T rest B0 b (l ++ ([32] ++ (s.data.toList ++ [32]))) w) := by
  have HC := Lib.hid (ws_any T rest B0 b l ⟨#[32]⟩ w hT hT8 h (by simp only [show (⟨#[32]⟩ : ByteArray).size = 1 from rfl]; omega) hBw)
  clear h
  go_enter Tryz.func34, Tryz.ntmps34
  go_wp2_with fail
  refine HC.out.mono ?_
  rintro e w1 ⟨rfl, h1, hk1⟩
  have HC1 := Lib.hid (ws_any T rest B0 b _ s w1 hT hT8 (.inr h1) (by simp; omega) (Nat.le_trans hBw hk1.size))
  have HK1 := Lib.hid hk1; clear hk1 h1 HC
  go_wp2_with fail
  refine HC1.out.mono ?_
  rintro e w2 ⟨rfl, h2, hk2⟩
  have HC2 := Lib.hid (ws_any T rest B0 b _ ⟨#[32]⟩ w2 hT hT8 (.inr h2) (by simp [show (⟨#[32]⟩ : ByteArray).size = 1 from rfl, show s.data.size = s.size from rfl]; omega) (Nat.le_trans hBw (Nat.le_trans HK1.out.size hk2.size)))
  have HK2 := Lib.hid (HK1.out.trans hk2); clear hk2 h2 HC1 HK1
  go_wp2_with fail
  refine HC2.out.mono ?_
  rintro e w3 ⟨rfl, h3, hk3⟩
  have H3 := Lib.hid h3; clear h3
  have HK3 := Lib.hid (HK2.out.trans hk3); clear hk3 HC2
  go_wp2_with fail
  go_end0
  exact ⟨rfl, .inr (by have := H3.out; simpa using this), HK3.out⟩

set_option maxRecDepth 100000 in
/-- What a function value writes is written, in brackets where it needs them. -/
theorem wrapE_any (T : TypeId) (rest : List Value) (B0 b : Nat) (l t : List UInt8) (o s : ByteArray) (need : Bool) (p q : Value) (w : World) (hT : Lies T (2 + rest.length)) (hT8 : T ≠ 5) (h : Bd T rest B0 b l w) (hlen : l.length + o.size + t.length + s.size ≤ 140737488355328) (hBw : B0 ≤ w.heap.size)
    (hfn : ∀ (l1 : List UInt8) w1, l1.length ≤ l.length + o.size → Bd T rest B0 b l1 w1 → Kp B0 b w w1 → Calls Tryz.prog 61 #[p, q] w1 (Wrote T rest B0 b (l1 ++ t) w1)) :
    Calls Tryz.prog 60 #[.pointer (some ⟨b, 0, none⟩), .string o, .string s, .bool need, .func (.func 61) #[] #[p, q]] w (Wrote T rest B0 b (l ++ par need o s t) w) := by
  cases need with
  | false =>
    have HC := Lib.hid (hfn l w (by omega) h (Kp.refl _ _ _))
    clear h hfn
    go_enter Tryz.func60, Tryz.ntmps60
    go_wp2_with fail
    refine HC.out.mono ?_
    rintro e w1 ⟨rfl, h1, hk1⟩
    have H1 := Lib.hid h1; clear h1
    have HK1 := Lib.hid hk1; clear hk1
    go_wp2_with fail
    go_end0
    exact ⟨rfl, H1.out, HK1.out⟩
  | true =>
    have HC := Lib.hid (ws_any T rest B0 b l o w hT hT8 h (by omega) hBw)
    have H61 := Lib.hid hfn
    clear h hfn
    go_enter Tryz.func60, Tryz.ntmps60
    go_wp2_with fail
    refine HC.out.mono ?_
    rintro e w1 ⟨rfl, h1, hk1⟩
    have HC1 := Lib.hid (H61.out _ w1 (by rw [List.length_append]; exact Nat.le_refl _) (.inr h1) hk1)
    have HK1 := Lib.hid hk1; clear hk1 h1 HC
    go_wp2_with fail
    refine HC1.out.mono ?_
    rintro e w2 ⟨rfl, h2, hk2⟩
    have HC2 := Lib.hid (ws_any T rest B0 b _ s w2 hT hT8 h2 (by simp only [List.length_append]; simp only [show o.data.toList.length = o.size from rfl]; omega) (Nat.le_trans hBw (Nat.le_trans HK1.out.size hk2.size)))
    have HK2 := Lib.hid (HK1.out.trans hk2); clear hk2 h2 HC1 HK1
    go_wp2_with fail
    refine HC2.out.mono ?_
    rintro e w3 ⟨rfl, h3, hk3⟩
    have H3 := Lib.hid h3; clear h3
    have HK3 := Lib.hid (HK2.out.trans hk3); clear hk3 HC2
    go_wp2_with fail
    go_end0
    exact ⟨rfl, .inr (by have := H3.out; simpa [par] using this), HK3.out⟩
set_option maxRecDepth 100000 in
/-- What a function value writes is written, in brackets where it needs them. -/
theorem wrapC_any (T : TypeId) (rest : List Value) (B0 b : Nat) (l t : List UInt8) (o s : ByteArray) (need : Bool) (p q : Value) (w : World) (hT : Lies T (2 + rest.length)) (hT8 : T ≠ 5) (h : Bd T rest B0 b l w) (hlen : l.length + o.size + t.length + s.size ≤ 140737488355328) (hBw : B0 ≤ w.heap.size)
    (hfn : ∀ (l1 : List UInt8) w1, l1.length ≤ l.length + o.size → Bd T rest B0 b l1 w1 → Kp B0 b w w1 → Calls Tryz.prog 104 #[p, q] w1 (Wrote T rest B0 b (l1 ++ t) w1)) :
    Calls Tryz.prog 60 #[.pointer (some ⟨b, 0, none⟩), .string o, .string s, .bool need, .func (.func 104) #[] #[p, q]] w (Wrote T rest B0 b (l ++ par need o s t) w) := by
  cases need with
  | false =>
    have HC := Lib.hid (hfn l w (by omega) h (Kp.refl _ _ _))
    clear h hfn
    go_enter Tryz.func60, Tryz.ntmps60
    go_wp2_with fail
    refine HC.out.mono ?_
    rintro e w1 ⟨rfl, h1, hk1⟩
    have H1 := Lib.hid h1; clear h1
    have HK1 := Lib.hid hk1; clear hk1
    go_wp2_with fail
    go_end0
    exact ⟨rfl, H1.out, HK1.out⟩
  | true =>
    have HC := Lib.hid (ws_any T rest B0 b l o w hT hT8 h (by omega) hBw)
    have H104 := Lib.hid hfn
    clear h hfn
    go_enter Tryz.func60, Tryz.ntmps60
    go_wp2_with fail
    refine HC.out.mono ?_
    rintro e w1 ⟨rfl, h1, hk1⟩
    have HC1 := Lib.hid (H104.out _ w1 (by rw [List.length_append]; exact Nat.le_refl _) (.inr h1) hk1)
    have HK1 := Lib.hid hk1; clear hk1 h1 HC
    go_wp2_with fail
    refine HC1.out.mono ?_
    rintro e w2 ⟨rfl, h2, hk2⟩
    have HC2 := Lib.hid (ws_any T rest B0 b _ s w2 hT hT8 h2 (by simp only [List.length_append]; simp only [show o.data.toList.length = o.size from rfl]; omega) (Nat.le_trans hBw (Nat.le_trans HK1.out.size hk2.size)))
    have HK2 := Lib.hid (HK1.out.trans hk2); clear hk2 h2 HC1 HK1
    go_wp2_with fail
    refine HC2.out.mono ?_
    rintro e w3 ⟨rfl, h3, hk3⟩
    have H3 := Lib.hid h3; clear h3
    have HK3 := Lib.hid (HK2.out.trans hk3); clear hk3 HC2
    go_wp2_with fail
    go_end0
    exact ⟨rfl, .inr (by have := H3.out; simpa [par] using this), HK3.out⟩
end Go.Proofs.YtbchibmmkmldiaaGreatDoor
