/-
  Plain: the text of an expression and of a condition, and a bound of its length.
-/
import Derived.Test.YtbchibmmkmldiaaGreatDoorPrintA
import Derived.Lib.ItoaNum
namespace Go.Proofs.YtbchibmmkmldiaaGreatDoor
open Go Go.RowKit Go.Shelf

def kdN : Nd → Int | .mk _ k _ _ _ _ _ _ => k
abbrev Ar := List (Int × List UInt8)
def argT (l : Ar) (i : Nat) : Int × List UInt8 := l.getD i (0, [])
/-- An expression's text, of its kind, number, name and its arguments' kinds and texts. -/
def txtK (k n : Int) (nm : ByteArray) (l : Ar) : List UInt8 :=
  if k = 1 then Lib.itoa n else if k = 2 then nm.data.toList else if k = 3 then [105, 110, 112, 117, 116]
  else if k = 4 then nm.data.toList ++ ([91] ++ ((argT l 0).2 ++ [93]))
  else if k = 5 then [45] ++ par (decide (levE (argT l 0).1 < 3)) ⟨#[40]⟩ ⟨#[41]⟩ (argT l 0).2
  else par (decide (levE (argT l 0).1 < levE k)) ⟨#[40]⟩ ⟨#[41]⟩ (argT l 0).2 ++ (([32] ++ ((sgnE k).data.toList ++ [32])) ++ par (decide (levE (argT l 1).1 < levE k + 1)) ⟨#[40]⟩ ⟨#[41]⟩ (argT l 1).2)
/-- A condition's. -/
def txtC (k n : Int) (l m : Ar) : List UInt8 :=
  if k = 1 then [116, 114, 117, 101] else if k = 2 then [102, 97, 108, 115, 101]
  else if k = 3 then (argT l 0).2 ++ (([32] ++ ((sgnO n).data.toList ++ [32])) ++ (argT l 1).2)
  else if k = 4 then [33] ++ par (decide (levC (argT m 0).1 < 3)) ⟨#[91]⟩ ⟨#[93]⟩ (argT m 0).2
  else par (decide (levC (argT m 0).1 < levC k)) ⟨#[91]⟩ ⟨#[93]⟩ (argT m 0).2 ++ (([32] ++ ((sgnC k).data.toList ++ [32])) ++ par (decide (levC (argT m 1).1 < levC k + 1)) ⟨#[91]⟩ ⟨#[93]⟩ (argT m 1).2)
mutual
def txtN : Nd → List UInt8
  | .mk ty k n nm xs cs _ _ => match ty with
    | .C => txtC k n (txtL xs) (txtL cs)
    | _ => txtK k n nm (txtL xs)
def txtL : List Nd → Ar
  | [] => []
  | x :: r => (kdN x, txtN x) :: txtL r
end
mutual
/-- A bound of its length. -/
def cstN : Nd → Nat
  | .mk _ _ _ nm xs cs _ _ => nm.size + 64 + cstL xs + cstL cs
def cstL : List Nd → Nat
  | [] => 0
  | x :: r => cstN x + cstL r
end
def shE (k n : Int) (len : Nat) : Prop := 1 ≤ k ∧ k ≤ 10 ∧ (k = 1 → 0 ≤ n ∧ i64ok n) ∧ (k = 4 ∨ k = 5 → len = 1) ∧ (6 ≤ k → len = 2)
def shC (k n : Int) (xl cl : Nat) : Prop := 1 ≤ k ∧ k ≤ 6 ∧ (k = 3 → xl = 2 ∧ 1 ≤ n ∧ n ≤ 6) ∧ (k = 4 → cl = 1) ∧ (5 ≤ k → cl = 2)
mutual
/-- Each node has the parts that its text is made of. -/
def goodT : Nd → Prop
  | .mk ty k n _ xs cs _ _ => (match ty with | .E => shE k n xs.length | .C => shC k n xs.length cs.length | _ => True) ∧ goodTL .E xs ∧ goodTL .C cs
def goodTL : Ty → List Nd → Prop
  | _, [] => True
  | t, x :: r => x.ty = t ∧ goodT x ∧ goodTL t r
end
theorem goodTL_at : ∀ {t : Ty} {l : List Nd} (_ : goodTL t l) (i : Nat) (hi : i < l.length), (l[i]).ty = t ∧ goodT l[i]
  | _, [], _, i, hi => by simp at hi
  | _, x :: r, h, 0, _ => by unfold goodTL at h; exact ⟨h.1, h.2.1⟩
  | _, x :: r, h, i + 1, hi => by unfold goodTL at h; exact goodTL_at h.2.2 i (by simpa using hi)
theorem argT_at : ∀ (l : List Nd) (i : Nat) (hi : i < l.length), argT (txtL l) i = (kdN l[i], txtN l[i])
  | [], i, hi => by simp at hi
  | x :: r, 0, _ => by unfold txtL argT; rfl
  | x :: r, i + 1, hi => by
    have h := argT_at r i (by simpa using hi)
    unfold txtL
    unfold argT at h ⊢
    simpa using h
theorem cstL_at : ∀ (l : List Nd) (i : Nat) (hi : i < l.length), cstN l[i] ≤ cstL l
  | [], i, hi => by simp at hi
  | x :: r, 0, _ => by unfold cstL; exact Nat.le_add_right _ _
  | x :: r, i + 1, hi => by
    have h := cstL_at r i (by simpa using hi)
    unfold cstL
    simp only [List.getElem_cons_succ]
    omega
theorem dec_len : ∀ (k u : Nat), 1 ≤ k → u < 10 ^ k → (Lib.decDigits u).length ≤ k
  | 0, _, h, _ => by omega
  | k + 1, u, _, hu => by
    rw [Lib.decDigits]
    split
    · simp
    · rename_i h
      by_cases hk : k = 0
      · subst hk; omega
      · have := dec_len k (u / 10) (by omega) (by rw [Nat.pow_succ] at hu; omega)
        rw [List.length_append]
        simp only [List.length_cons, List.length_nil]
        omega
theorem itoa_len {n : Int} (h : i64ok n) : (Lib.itoa n).length ≤ 24 := by
  have h2 : -9223372036854775808 ≤ n ∧ n ≤ 9223372036854775807 := by
    unfold i64ok at h
    simp [Lit.wf] at h
    exact ⟨h.1, h.2⟩
  unfold Lib.itoa
  split
  · have := dec_len 19 n.natAbs (by omega) (by omega)
    simp only [List.length_cons]
    omega
  · have := dec_len 19 n.toNat (by omega) (by omega)
    omega
theorem par_len (b : Bool) (o s : ByteArray) (l : List UInt8) (ho : o.size = 1) (hs : s.size = 1) : (par b o s l).length ≤ l.length + 2 := by
  unfold par
  split
  · simp only [List.length_append, show o.data.toList.length = o.size from rfl, show s.data.toList.length = s.size from rfl]
    omega
  · omega
theorem one_of {l : List Nd} (h : l.length = 1) : ∃ a, l = [a] := by
  match l, h with
  | [a], _ => exact ⟨a, rfl⟩
theorem two_of {l : List Nd} (h : l.length = 2) : ∃ a b, l = [a, b] := by
  match l, h with
  | [a, b], _ => exact ⟨a, b, rfl⟩
theorem sgnE_len (k : Int) : (sgnE k).data.toList.length ≤ 1 := by
  unfold sgnE
  repeat' split
  all_goals exact Nat.le_refl _
theorem sgnC_len (k : Int) : (sgnC k).data.toList.length ≤ 2 := by
  unfold sgnC
  repeat' split
  all_goals exact Nat.le_refl _
theorem sgnO_len (k : Int) : (sgnO k).data.toList.length ≤ 2 := by
  unfold sgnO
  repeat' split
  all_goals first | exact Nat.le_refl _ | exact Nat.le_succ _
theorem txt_le : ∀ (N : Nat) (x : Nd), SizeOf.sizeOf x ≤ N → goodT x → x.ty = .E ∨ x.ty = .C → (txtN x).length ≤ cstN x := by
  intro N
  induction N with
  | zero =>
    intro x hN
    obtain ⟨ty, k, n, nm, xs, cs, ts, es⟩ := x
    simp only [Nd.mk.sizeOf_spec] at hN
    omega
  | succ N ih =>
    intro x hN hg hty
    obtain ⟨ty, k, n, nm, xs, cs, ts, es⟩ := x
    simp only [Nd.mk.sizeOf_spec] at hN
    unfold goodT at hg
    obtain ⟨hs, hx, hc⟩ := hg
    simp only [Nd.ty] at hty
    have hp1 := fun b l => par_len b ⟨#[40]⟩ ⟨#[41]⟩ l rfl rfl
    have hp2 := fun b l => par_len b ⟨#[91]⟩ ⟨#[93]⟩ l rfl rfl
    have h5 := sgnE_len k
    have h6 := sgnC_len k
    have h7 := sgnO_len n
    rcases hty with rfl | rfl
    · obtain ⟨h1, h2, h3, h4, h8⟩ := hs
      have hch := fun i hi => ih xs[i] (by have := List.sizeOf_lt_of_mem (List.getElem_mem (l := xs) (n := i) hi); omega) (goodTL_at hx i hi).2 (.inl (goodTL_at hx i hi).1)
      unfold txtN cstN
      simp only [txtK]
      by_cases q1 : k = 1
      · rw [if_pos q1]
        have := itoa_len (h3 q1).2
        omega
      rw [if_neg q1]
      by_cases q2 : k = 2
      · rw [if_pos q2, show nm.data.toList.length = nm.size from rfl]
        omega
      rw [if_neg q2]
      by_cases q3 : k = 3
      · rw [if_pos q3]
        simp only [List.length_cons, List.length_nil]
        omega
      rw [if_neg q3]
      by_cases q4 : k = 4
      · obtain ⟨a, rfl⟩ := one_of (h4 (.inl q4))
        have := hch 0 (by simp)
        rw [if_pos q4, argT_at _ 0 (by simp)]
        simp only [List.getElem_cons_zero, List.length_append, List.length_cons, List.length_nil, show nm.data.toList.length = nm.size from rfl, cstL] at this ⊢
        omega
      rw [if_neg q4]
      by_cases q5 : k = 5
      · obtain ⟨a, rfl⟩ := one_of (h4 (.inr q5))
        have := hch 0 (by simp)
        have hq := hp1 (decide (levE (kdN a) < 3)) (txtN a)
        rw [if_pos q5, argT_at _ 0 (by simp)]
        simp only [List.getElem_cons_zero, List.length_append, List.length_cons, List.length_nil, cstL] at this hq ⊢
        omega
      rw [if_neg q5]
      obtain ⟨a, c, rfl⟩ := two_of (h8 (by omega))
      have g1 := hch 0 (by simp)
      have g2 := hch 1 (by simp)
      have hq1 := hp1 (decide (levE (kdN a) < levE k)) (txtN a)
      have hq2 := hp1 (decide (levE (kdN c) < levE k + 1)) (txtN c)
      rw [argT_at _ 0 (by simp), argT_at _ 1 (by simp)]
      simp only [List.getElem_cons_zero, List.getElem_cons_succ, List.length_append, List.length_cons, List.length_nil, cstL] at g1 g2 hq1 hq2 ⊢
      omega
    · obtain ⟨h1, h2, h3, h4, h8⟩ := hs
      have hchx := fun i hi => ih xs[i] (by have := List.sizeOf_lt_of_mem (List.getElem_mem (l := xs) (n := i) hi); omega) (goodTL_at hx i hi).2 (.inl (goodTL_at hx i hi).1)
      have hch := fun i hi => ih cs[i] (by have := List.sizeOf_lt_of_mem (List.getElem_mem (l := cs) (n := i) hi); omega) (goodTL_at hc i hi).2 (.inr (goodTL_at hc i hi).1)
      unfold txtN cstN
      simp only [txtC]
      by_cases q1 : k = 1
      · rw [if_pos q1]
        simp only [List.length_cons, List.length_nil]
        omega
      rw [if_neg q1]
      by_cases q2 : k = 2
      · rw [if_pos q2]
        simp only [List.length_cons, List.length_nil]
        omega
      rw [if_neg q2]
      by_cases q3 : k = 3
      · obtain ⟨a, c, rfl⟩ := two_of (h3 q3).1
        have g1 := hchx 0 (by simp)
        have g2 := hchx 1 (by simp)
        rw [if_pos q3, argT_at _ 0 (by simp), argT_at _ 1 (by simp)]
        simp only [List.getElem_cons_zero, List.getElem_cons_succ, List.length_append, List.length_cons, List.length_nil, cstL] at g1 g2 ⊢
        omega
      rw [if_neg q3]
      by_cases q4 : k = 4
      · obtain ⟨a, rfl⟩ := one_of (h4 q4)
        have := hch 0 (by simp)
        have hq := hp2 (decide (levC (kdN a) < 3)) (txtN a)
        rw [if_pos q4, argT_at _ 0 (by simp)]
        simp only [List.getElem_cons_zero, List.length_append, List.length_cons, List.length_nil, cstL] at this hq ⊢
        omega
      rw [if_neg q4]
      obtain ⟨a, c, rfl⟩ := two_of (h8 (by omega))
      have g1 := hch 0 (by simp)
      have g2 := hch 1 (by simp)
      have hq1 := hp2 (decide (levC (kdN a) < levC k)) (txtN a)
      have hq2 := hp2 (decide (levC (kdN c) < levC k + 1)) (txtN c)
      rw [argT_at _ 0 (by simp), argT_at _ 1 (by simp)]
      simp only [List.getElem_cons_zero, List.getElem_cons_succ, List.length_append, List.length_cons, List.length_nil, cstL] at g1 g2 hq1 hq2 ⊢
      omega
theorem txt_1 (n : Int) (nm : ByteArray) (xs cs ts es : List Nd) : txtN (.mk .E 1 n nm xs cs ts es) = Lib.itoa n := by simp [txtN, txtK]
theorem txt_2 (n : Int) (nm : ByteArray) (xs cs ts es : List Nd) : txtN (.mk .E 2 n nm xs cs ts es) = nm.data.toList := by simp [txtN, txtK]
theorem txt_3 (n : Int) (nm : ByteArray) (xs cs ts es : List Nd) : txtN (.mk .E 3 n nm xs cs ts es) = (⟨#[105, 110, 112, 117, 116]⟩ : ByteArray).data.toList := by simp [txtN, txtK]
theorem txt_4 (n : Int) (nm : ByteArray) (xs cs ts es : List Nd) (h0 : 0 < xs.length) : txtN (.mk .E 4 n nm xs cs ts es) = nm.data.toList ++ (([91] : List UInt8) ++ (txtN xs[0] ++ ([93] : List UInt8))) := by
  have h := argT_at xs 0 h0
  simp [txtN, txtK, h]
theorem txt_5 (n : Int) (nm : ByteArray) (xs cs ts es : List Nd) (h0 : 0 < xs.length) : txtN (.mk .E 5 n nm xs cs ts es) = ([45] : List UInt8) ++ par (decide (levE (kdN xs[0]) < 3)) ⟨#[40]⟩ ⟨#[41]⟩ (txtN xs[0]) := by
  have h := argT_at xs 0 h0
  simp [txtN, txtK, h]
theorem txt_e (k n : Int) (nm : ByteArray) (xs cs ts es : List Nd) (h0 : 0 < xs.length) (h1 : 1 < xs.length) (hk : ¬ k = 1 ∧ ¬ k = 2 ∧ ¬ k = 3 ∧ ¬ k = 4 ∧ ¬ k = 5) : txtN (.mk .E k n nm xs cs ts es) = par (decide (levE (kdN xs[0]) < levE k)) ⟨#[40]⟩ ⟨#[41]⟩ (txtN xs[0]) ++ ((([32] : List UInt8) ++ ((sgnE k).data.toList ++ ([32] : List UInt8))) ++ par (decide (levE (kdN xs[1]) < levE k + 1)) ⟨#[40]⟩ ⟨#[41]⟩ (txtN xs[1])) := by
  have h := argT_at xs 0 h0
  have g := argT_at xs 1 h1
  simp only [txtN, txtK]
  rw [if_neg hk.1, if_neg hk.2.1, if_neg hk.2.2.1, if_neg hk.2.2.2.1, if_neg hk.2.2.2.2, h, g]
end Go.Proofs.YtbchibmmkmldiaaGreatDoor
