/-
  Plain: two rows of all nodes of trees have the same labels just if the trees are the same.
-/
import Derived.Test.YtbhbmoppipohjaaGreatDoorQThru
import Derived.ChangeKeysEq
import Derived.Laws.StructEq
import Derived.Test.YtbhbmoppipohjaaGreatDoorQTwalkS
import Derived.BigQuiet
import Derived.Outline
import Derived.Deep.DeepCutAuto
import Derived.Deep.CutBlock
import Derived.Test.YtbhbmoppipohjaaGreatDoorQFault
/-
  The project's label of a node (tree's labelOf): proved is what it holds: the node's type as a letter, its two numbers, its name, how many nodes each of its lists has; and that nothing that lay is turned.
-/
namespace Go.Proofs.YtbhbmoppipohjaaGreatDoor
open Go Go.RowKit

def letter : Ty → Int | .E => 69 | .C => 67 | .S => 83 | .D => 68
def labV : Nd → Value
  | .mk ty k n s xs cs ts es => .agg #[.int .u8 (letter ty), .int .i64 k, .int .i64 n, .string s, .int .i64 cs.length, .int .i64 xs.length, .int .i64 ts.length, .int .i64 es.length]
end Go.Proofs.YtbhbmoppipohjaaGreatDoor

/-
  Two labels of nodes are compared part by part: proved is what the comparison of the struct (with its array) answers.
-/
namespace Go.Proofs.YtbhbmoppipohjaaGreatDoor
open Go Go.RowKit
theorem eq_intK {P : Program} {t : TypeId} {q : IntKind} (hu : P.underlying t = some (.int q)) (d : Nat) (a b : Int) (w : World) : (Op.equalIn (d + 1) t (.int q a) (.int q b)).run P w = .ok (a == b) w := by
  simp [Op.equalIn, run_underlying hu]
theorem eq_strK {P : Program} {t : TypeId} (hu : P.underlying t = some .string) (d : Nat) (a b : ByteArray) (w : World) : (Op.equalIn (d + 1) t (.string a) (.string b)).run P w = .ok (a.toList == b.toList) w := run_equalIn_string w d t a b hu
theorem eq_int (d : Nat) (a b : Int) (w : World) : (Op.equalIn (d + 1) 3 (.int .i64 a) (.int .i64 b)).run Tryz.prog w = .ok (a == b) w := eq_intK (by kernel_rfl) d a b w
theorem part_int (cs : Array Value) (i : Nat) (v : Value) (h : cs[i]? = some v) (w : World) : (part 3 cs i).run Tryz.prog w = .ok v w := by
  have h2 : Tryz.prog.underlying 3 = some (.int .i64) := by kernel_rfl
  simp [part, isAgg, run_underlying h2, h]
end Go.Proofs.YtbhbmoppipohjaaGreatDoor

/-
  The document's sameness of expressions (gnomonref3's SameExpr): proved is that it answers whether two trees in memory are the same, and that it turns nothing that lay.
-/
namespace Go.Proofs.YtbhbmoppipohjaaGreatDoor
open Go Go.RowKit

mutual
/-- Two trees are the same. -/
def sameN : Nd → Nd → Bool
  | .mk ty k n nm xs cs ts es, .mk ty2 k2 n2 nm2 xs2 cs2 ts2 es2 => decide (ty = ty2) && (k == k2) && (n == n2) && (nm.toList == nm2.toList) && sameL xs xs2 && sameL cs cs2 && sameL ts ts2 && sameL es es2
def sameL : List Nd → List Nd → Bool
  | [], [] => true
  | x :: r, y :: s => sameN x y && sameL r s
  | [], _ :: _ => false
  | _ :: _, [] => false
end
theorem sameL_len : ∀ {l m : List Nd}, sameL l m = true → l.length = m.length
  | [], [], _ => rfl
  | x :: r, y :: s, h => by
    unfold sameL at h
    simp only [Bool.and_eq_true] at h
    simpa using sameL_len h.2
  | [], _ :: _, h => by unfold sameL at h; cases h
  | _ :: _, [], h => by unfold sameL at h; cases h
theorem sameL_drop {l m : List Nd} {i : Nat} (h : i < l.length) (h2 : i < m.length) : sameL (l.drop i) (m.drop i) = (sameN l[i] m[i] && sameL (l.drop (i + 1)) (m.drop (i + 1))) := by
  rw [List.drop_eq_getElem_cons h, List.drop_eq_getElem_cons h2, sameL]
theorem sameL_end {l m : List Nd} (h : l.length = m.length) : sameL (l.drop l.length) (m.drop l.length) = true := by
  rw [List.drop_length, h, List.drop_length, sameL]
/-- A call that says whether two nodes are the same. -/
def SameOf (F : FuncId) (w0 : World) (x y : Nd) : Prop := ∀ (us vs : List Value) (w : World), NdIn w0 x us → NdIn w0 y vs → Below w0.heap.size w0 w →
  Calls Tryz.prog F #[.agg us.toArray, .agg vs.toArray] w (fun e w' => e = .returned (.bool (sameN x y)) ∧ Below w.heap.size w w')

end Go.Proofs.YtbhbmoppipohjaaGreatDoor

/-
  The project's Check, Depth and Nodes of a program (tree's): proved is what each answers, and that it turns nothing that lay.
-/
namespace Go.Proofs.YtbhbmoppipohjaaGreatDoor
open Go Go.RowKit

theorem fault_list (w0 w : World) (B : Nat) (t : Tr) (v : Value) (hB : Blk w B #[v, .int .i64 t.dep, .int .i64 t.lim] 160) (hl : ListOf w0 w t.l v) (hlm : t.l.length ≤ 4096) :
    Calls Tryz.prog 97 #[.pointer (some ⟨B, 0, none⟩)] w (fun e w' => e = .returned (.int .i64 (faultT t)) ∧ Below w.heap.size w w') := by
  obtain ⟨a, b, c, rfl, hl0⟩ := hl
  have hl : t.l.length = 0 ∨ (a = some ⟨b, 0, none⟩ ∧ CellsAre w0 w t.l b 0) := hl0.imp id (fun h => ⟨h.1, h.2.1⟩)
  clear hl0
  have c0 : w.cell? ⟨B, 0, none⟩ = some (.slice a t.l.length c) := hB.cell 0
  have c2 : w.cell? ⟨B, 2, none⟩ = some (.int .i64 t.lim) := hB.cell 2
  have hlt := hB.lt
  clear hB
  by_cases hz : t.lim = 0
  · have hz2 : (t.lim != 0) = false := by simpa using hz
    have hfa : faultT t = if t.l.any (fun x => !wellN x) then 30 else if t.l.any namelessB then 31 else 0 := by unfold faultT; rw [if_neg (by simpa using hz)]
    have h1 := contains_formless w0 t.l b 0 c a w hlm hl
    have h2 := fun w1 (hb : Below w.heap.size w w1) => contains_nameless w0 t.l b 0 c a w1 hlm (hl.imp id fun ⟨e, h⟩ => ⟨e, h.keep hb⟩)
    have H2 := Lib.hid h2; clear h2 hl
    obtain ⟨p, hp⟩ : ∃ p, t.l.any (fun x => !wellN x) = p := ⟨_, rfl⟩
    obtain ⟨q, hq⟩ : ∃ q, t.l.any namelessB = q := ⟨_, rfl⟩
    rw [hp, hq] at hfa
    rw [hp] at h1
    simp only [hq] at H2
    rw [hfa]
    clear hfa hp hq hz
    have H1 := Lib.hid h1; clear h1
    cases p with
    | true =>
      go_enter Tryz.func97, Tryz.ntmps97
      go_wp2_with (first | (go_at_call 123; (with_reducible refine H1.out.mono ?_); rintro e w1 ⟨rfl, hb⟩) | fail)
      go_ret
      exact ⟨rfl, hb⟩
    | false =>
      cases q with
      | true =>
        go_enter Tryz.func97, Tryz.ntmps97
        go_upto_if 13 with (first | (go_at_call 123; (with_reducible refine H1.out.mono ?_); rintro e w1 ⟨rfl, hb⟩) | fail)
        have k0 := (hb.cell (p := ⟨B, 0, none⟩) hlt).trans c0
        have hc := H2.out w1 hb
        have HC := Lib.hid hc; clear hc
        have HB := Lib.hid hb; clear hb
        go_wp2_with (first | (go_at_call 123; (with_reducible refine HC.out.mono ?_); rintro e w2 ⟨rfl, hb2⟩) | fail)
        go_ret
        exact ⟨rfl, HB.out.trans (hb2.mono HB.out.size)⟩
      | false =>
        go_enter Tryz.func97, Tryz.ntmps97
        go_upto_if 13 with (first | (go_at_call 123; (with_reducible refine H1.out.mono ?_); rintro e w1 ⟨rfl, hb⟩) | fail)
        have k0 := (hb.cell (p := ⟨B, 0, none⟩) hlt).trans c0
        have hc := H2.out w1 hb
        have HC := Lib.hid hc; clear hc
        have HB := Lib.hid hb; clear hb
        go_wp2_with (first | (go_at_call 123; (with_reducible refine HC.out.mono ?_); rintro e w2 ⟨rfl, hb2⟩) | fail)
        go_ret
        exact ⟨rfl, HB.out.trans (hb2.mono HB.out.size)⟩
  · have hz2 : (t.lim != 0) = true := by simpa using hz
    have hfa : faultT t = t.lim := by unfold faultT; rw [if_pos (by simpa using hz)]
    rw [hfa]
    clear hfa hz hl
    go_enter Tryz.func97, Tryz.ntmps97
    go_wp2
    go_ret
    exact ⟨rfl, Below.refl _ w⟩

set_option maxRecDepth 100000 in
set_option maxHeartbeats 4000000 in
theorem tcheck_any (ds ss : List Nd) (v0 v1 : Value) (w : World) (hd : SlIn w .D ds v0) (hs : SlIn w .S ss v1) :
    Calls Tryz.prog 66 #[.agg #[v0, v1]] w (fun e w' => e = .returned (.int .i64 (faultT (progT ds ss))) ∧ Below w.heap.size w w') := by
  have hlen := (progT_ok ds ss).1
  have hb0 : Below w.heap.size w (w.alloc (.cells #[v0, v1] 25)) := (Below.refl _ w).alloc (Nat.le_refl _) _
  have hT := through_any ds ss v0 v1 (w.alloc (.cells #[v0, v1] 25)) (hd.keep (keeps_below hb0)) (hs.keep (keeps_below hb0))
  obtain ⟨Q, hQ⟩ : ∃ Q, progT ds ss = Q := ⟨_, rfl⟩
  rw [hQ] at hT hlen ⊢
  clear hQ
  obtain ⟨FT, hFT⟩ : ∃ FT, faultT Q = FT := ⟨_, rfl⟩
  rw [hFT]
  have HFT := Lib.hid hFT; clear hFT
  obtain ⟨a0, c0, rfl, -⟩ := hd
  obtain ⟨a1, c1, rfl, -⟩ := hs
  obtain ⟨W0, hW0⟩ : ∃ W0, w.alloc (.cells #[.slice a0 ds.length c0, .slice a1 ss.length c1] 25) = W0 := ⟨_, rfl⟩
  rw [hW0] at hT hb0
  have e0 : W0.cell? ⟨w.heap.size, 0, none⟩ = some (.slice a0 ds.length c0) := by rw [← hW0]; exact (Blk.new w _ _).cell 0
  have e1 : W0.cell? ⟨w.heap.size, 1, none⟩ = some (.slice a1 ss.length c1) := by rw [← hW0]; exact (Blk.new w _ _).cell 1
  have HT := Lib.hid hT; clear hT
  have HB0 := Lib.hid hb0; clear hb0
  have HW0 := Lib.hid hW0; clear hW0
  go_enter Tryz.func66, Tryz.ntmps66
  go_upto_region 1 with fail
  rw [HW0.out]
  clear HW0
  go_upto_region 2 with (first | (go_at_call 96; (with_reducible refine HT.out.mono ?_); rintro e w1 ⟨v, rfl, hl, hb1⟩; obtain ⟨a, b, c, rfl, hl⟩ := hl; have HL := Lib.hid hl; clear hl; have HB1 := Lib.hid (HB0.out.trans (hb1.mono HB0.out.size)); clear hb1) | fail)
  have hX : Blk (w1.alloc (.cells #[.slice a Q.l.length c, .int .i64 Q.dep, .int .i64 Q.lim] 160)) w1.heap.size #[.slice a Q.l.length c, .int .i64 Q.dep, .int .i64 Q.lim] 160 := Blk.new w1 _ _
  have hb2 : Below w.heap.size w (w1.alloc (.cells #[.slice a Q.l.length c, .int .i64 Q.dep, .int .i64 Q.lim] 160)) := HB1.out.alloc HB1.out.size _
  have hl2 : ListOf W0 (w1.alloc (.cells #[.slice a Q.l.length c, .int .i64 Q.dep, .int .i64 Q.lim] 160)) Q.l (.slice a Q.l.length c) := ListOf.keep ⟨a, b, c, rfl, HL.out⟩ ((Below.refl _ w1).alloc (Nat.le_refl _) _)
  obtain ⟨W2, hW2⟩ : ∃ W2, w1.alloc (.cells #[.slice a Q.l.length c, .int .i64 Q.dep, .int .i64 Q.lim] 160) = W2 := ⟨_, rfl⟩
  rw [hW2] at hX hb2 hl2 ⊢
  have HF := Lib.hid (fault_list W0 W2 w1.heap.size Q _ hX hl2 hlen)
  rw [HFT.out] at HF
  clear HFT hl2 HL HB1 HT HB0 e0 e1 hW2
  have HB2 := Lib.hid hb2; clear hb2
  clear hX
  go_wp2_with (first | (go_at_call 97; (with_reducible refine HF.out.mono ?_); rintro e w3 ⟨rfl, hb3⟩) | fail)
  go_ret
  exact ⟨rfl, HB2.out.trans (hb3.mono HB2.out.size)⟩

end Go.Proofs.YtbhbmoppipohjaaGreatDoor

/-
  The project's answer for an expression and for a condition (tree's Expr, Cond): proved is what each answers, and that it turns nothing that lay.
-/
namespace Go.Proofs.YtbhbmoppipohjaaGreatDoor
open Go Go.RowKit

/-- What the project answers for an expression or a condition. -/
def prjChk (x : Nd) : Int := faultT (tourN x 1 ⟨[], 0, 0⟩)

end Go.Proofs.YtbhbmoppipohjaaGreatDoor

/-
  Plain: the document's walk and the project's tour meet the same nodes: the same number, the same depth, the same limit.
-/
namespace Go.Proofs.YtbhbmoppipohjaaGreatDoor
open Go Go.RowKit

def Match (s : Wk) (t : Tr) : Prop := s.n = t.l.length ∧ s.dep = t.dep ∧ s.bad = t.lim
theorem match_node {x : Nd} {d : Int} {s : Wk} {t : Tr} (h : Match s t) (hb : s.bad = 0) : Match (nodeW d s) (nodeT x d t) := by
  obtain ⟨n, dep, bad⟩ := s
  obtain ⟨l, tdep, lim⟩ := t
  obtain ⟨h1, h2, h3⟩ := h
  simp only at h1 h2 h3 hb
  subst h1 h2 h3 hb
  unfold nodeW nodeT byd
  by_cases hk : l.length = 4096
  · simp [hk, Match]
  · have hk2 : ¬ (l.length : Int) = 4096 := by omega
    by_cases h64 : 64 < d
    · simp [hk, hk2, h64, Match]
    · simp [hk, hk2, h64, Match]
theorem match_if {F : Wk → Wk} (hF : ∀ s, s.bad ≠ 0 → F s = s) {A : Wk} {a rest : Tr} (h : Match A a) (hr : A.bad = 0 → Match (F A) rest) : Match (F A) (if a.lim ≠ 0 then a else rest) := by
  by_cases hz : A.bad = 0
  · rw [if_neg (by rw [← h.2.2]; simpa using hz)]
    exact hr hz
  · rw [if_pos (by rw [← h.2.2]; exact hz), hF A hz]
    exact h
mutual
theorem match_N : ∀ (x : Nd) (d : Int) (s : Wk) (t : Tr), Match s t → s.bad = 0 → Match (walkN x d s) (tourN x d t)
  | .mk ty k n nm xs cs ts es, d, s, t, h, hb => by
    have h1 := match_node (x := .mk ty k n nm xs cs ts es) (d := d) h hb
    unfold walkN tourN
    by_cases hz : (nodeW d s).bad = 0
    · rw [if_neg (by simpa using hz), if_neg (by rw [← h1.2.2]; simpa using hz)]
      cases ty with
      | E => exact match_L xs (d + 1) _ _ h1 hz
      | C => exact match_if (F := fun s => walkL cs (d + 1) s) (fun s hs => walkL_bad cs (d + 1) s hs) (match_L xs (d + 1) _ _ h1 hz) (fun hz => match_L cs (d + 1) _ _ (match_L xs (d + 1) _ _ h1 (by assumption)) hz)
      | S =>
        have h2 := match_L cs (d + 1) _ _ h1 hz
        refine match_if (F := fun s => walkL es (d + 1) (walkL ts (d + 1) (walkL xs (d + 1) s))) (fun s hs => by rw [walkL_bad xs _ _ hs, walkL_bad ts _ _ hs, walkL_bad es _ _ hs]) h2 (fun hz2 => ?_)
        have h3 := match_L xs (d + 1) _ _ h2 hz2
        refine match_if (F := fun s => walkL es (d + 1) (walkL ts (d + 1) s)) (fun s hs => by rw [walkL_bad ts _ _ hs, walkL_bad es _ _ hs]) h3 (fun hz3 => ?_)
        have h4 := match_L ts (d + 1) _ _ h3 hz3
        exact match_if (F := fun s => walkL es (d + 1) s) (fun s hs => walkL_bad es _ _ hs) h4 (fun hz4 => match_L es (d + 1) _ _ h4 hz4)
      | D => exact h1
    · rw [if_pos (by simpa using hz), if_pos (by rw [← h1.2.2]; simpa using hz)]
      exact h1
theorem match_L : ∀ (l : List Nd) (d : Int) (s : Wk) (t : Tr), Match s t → s.bad = 0 → Match (walkL l d s) (tourL l d t)
  | [], d, s, t, h, _ => by unfold walkL tourL; exact h
  | x :: r, d, s, t, h, hb => by
    unfold walkL tourL
    have h1 := match_N x d s t h hb
    exact match_if (F := fun s => walkL r d s) (fun s hs => walkL_bad r d s hs) h1 (fun hz => match_L r d _ _ h1 hz)
end
end Go.Proofs.YtbhbmoppipohjaaGreatDoor

/-
  Plain: the document's form of a tree says what the project asks of each of its nodes.
-/
namespace Go.Proofs.YtbhbmoppipohjaaGreatDoor
open Go Go.RowKit

mutual
/-- All nodes of a tree, in the nodes' order. -/
def allN : Nd → List Nd
  | .mk ty k n nm xs cs ts es => .mk ty k n nm xs cs ts es :: match ty with
    | .E => allL xs
    | .C => allL xs ++ allL cs
    | .S => allL cs ++ (allL xs ++ (allL ts ++ allL es))
    | .D => []
def allL : List Nd → List Nd
  | [] => []
  | x :: r => allN x ++ allL r
end
def named (y : Nd) : Bool := !namelessB y
/-- f' is f with what the nodes of l ask. -/
def Formed (l : List Nd) (f f' : Fm) : Prop := f'.ok = (f.ok && l.all wellN) ∧ (f'.ok = true → f'.names = (f.names && l.all named))
theorem Formed.nil (f : Fm) : Formed [] f f := ⟨by simp, fun _ => by simp⟩
theorem Formed.app {l m : List Nd} {f g h : Fm} (a : Formed l f g) (b : Formed m g h) : Formed (l ++ m) f h := by
  refine ⟨?_, fun hh => ?_⟩
  · rw [b.1, a.1, List.all_append, Bool.and_assoc]
  · have hg : g.ok = true := by
      have := b.1
      rw [hh] at this
      cases hgo : g.ok with
      | true => rfl
      | false => rw [hgo] at this; simp at this
    rw [b.2 hh, a.2 hg, List.all_append, Bool.and_assoc]
theorem Formed.one {x : Nd} {f g : Fm} (h1 : g.ok = (f.ok && wellN x)) (h2 : g.names = (f.names && named x)) : Formed [x] f g := ⟨by simp [h1], fun _ => by simp [h2]⟩
theorem head_E (k n : Int) (nm : ByteArray) (xs cs ts es : List Nd) (f : Fm) : Formed [.mk .E k n nm xs cs ts es] f (headE k n nm xs.length f) := by
  obtain ⟨ok, names⟩ := f
  refine Formed.one ?_ ?_
  · simp only [wellN, wellE, headE, nameF]
    cases ((k == 2) || (k == 4)) <;> cases ok <;> cases kindE k <;> cases ownE k n xs.length <;> cases (nm.toList == []) <;> rfl
  · simp only [named, namelessB, mustN, ownNm, headE, nameF]
    cases ((k == 2) || (k == 4)) <;> cases names <;> cases nameB nm <;> rfl
theorem head_S (k n : Int) (nm : ByteArray) (xs cs ts es : List Nd) (f : Fm) : Formed [.mk .S k n nm xs cs ts es] f (headS k nm xs.length cs.length ts.length es.length f) := by
  obtain ⟨ok, names⟩ := f
  refine Formed.one ?_ ?_
  · simp only [wellN, wellS, headS, nameF]
    cases ((k == 1) || (k == 2)) <;> cases ok <;> cases kindS k <;> cases ownS k xs.length cs.length ts.length es.length <;> cases (nm.toList == []) <;> rfl
  · simp only [named, namelessB, mustN, ownNm, headS, nameF]
    cases ((k == 1) || (k == 2)) <;> cases names <;> cases nameB nm <;> rfl
theorem head_C (k n : Int) (nm : ByteArray) (xs cs ts es : List Nd) (f : Fm) : Formed [.mk .C k n nm xs cs ts es] f (headC k n xs.length cs.length f) := by
  obtain ⟨ok, names⟩ := f
  refine Formed.one ?_ ?_
  · simp only [wellN, wellC, headC]
    cases ok <;> cases kindC k <;> cases ownC k n xs.length cs.length <;> rfl
  · simp only [named, namelessB, mustN, headC]
    cases names <;> rfl
mutual
theorem formed_N : ∀ (x : Nd) (f : Fm), (∀ y ∈ allN x, y.ty ≠ .D) → Formed (allN x) f (formN x f)
  | .mk ty k n nm xs cs ts es, f, hd => by
    unfold allN at hd ⊢
    unfold formN
    cases ty with
    | E => exact (head_E k n nm xs cs ts es f).app (formed_L xs _ (fun y hy => hd y (List.mem_cons_of_mem _ hy)))
    | C =>
      have h1 := formed_L xs (headC k n xs.length cs.length f) (fun y hy => hd y (List.mem_cons_of_mem _ (List.mem_append_left _ hy)))
      have h2 := formed_L cs (formL xs (headC k n xs.length cs.length f)) (fun y hy => hd y (List.mem_cons_of_mem _ (List.mem_append_right _ hy)))
      exact (head_C k n nm xs cs ts es f).app (h1.app h2)
    | S =>
      have h1 := formed_L cs (headS k nm xs.length cs.length ts.length es.length f) (fun y hy => hd y (List.mem_cons_of_mem _ (List.mem_append_left _ hy)))
      have h2 := fun g => formed_L xs g (fun y hy => hd y (List.mem_cons_of_mem _ (List.mem_append_right _ (List.mem_append_left _ hy))))
      have h3 := fun g => formed_L ts g (fun y hy => hd y (List.mem_cons_of_mem _ (List.mem_append_right _ (List.mem_append_right _ (List.mem_append_left _ hy)))))
      have h4 := fun g => formed_L es g (fun y hy => hd y (List.mem_cons_of_mem _ (List.mem_append_right _ (List.mem_append_right _ (List.mem_append_right _ hy)))))
      exact (head_S k n nm xs cs ts es f).app (h1.app ((h2 _).app ((h3 _).app (h4 _))))
    | D => exact absurd rfl (hd _ (List.mem_cons_self ..))
theorem formed_L : ∀ (l : List Nd) (f : Fm), (∀ y ∈ allL l, y.ty ≠ .D) → Formed (allL l) f (formL l f)
  | [], f, _ => by unfold allL formL; exact Formed.nil f
  | x :: r, f, hd => by
    unfold allL at hd ⊢
    unfold formL
    cases hf : f.ok with
    | true =>
      simp only [if_true]
      exact (formed_N x f (fun y hy => hd y (List.mem_append_left _ hy))).app (formed_L r _ (fun y hy => hd y (List.mem_append_right _ hy)))
    | false =>
      simp only [Bool.false_eq_true, if_false]
      exact ⟨by rw [hf]; rfl, fun h => by rw [hf] at h; cases h⟩
end
end Go.Proofs.YtbhbmoppipohjaaGreatDoor

/-
  Plain: the document's answer for an expression or a condition is the project's.
-/
namespace Go.Proofs.YtbhbmoppipohjaaGreatDoor
open Go Go.RowKit

theorem if_lim {a rest : Tr} (h : (if a.lim ≠ 0 then a else rest).lim = 0) : a.lim = 0 ∧ (if a.lim ≠ 0 then a else rest) = rest := by
  by_cases hz : a.lim = 0
  · exact ⟨hz, if_neg (by simpa using hz)⟩
  · rw [if_pos (by simpa using hz)] at h
    exact absurd h hz
theorem list_node {x : Nd} {d : Int} {t : Tr} (h : (nodeT x d t).lim = 0) : (nodeT x d t).l = t.l ++ [x] := by
  unfold nodeT at h ⊢
  by_cases hz : byd t.l.length d = 0
  · rw [if_neg (by simpa using hz)]
  · rw [if_pos (by simpa using hz)] at h
    exact absurd h hz
mutual
theorem list_N : ∀ (x : Nd) (d : Int) (t : Tr), (tourN x d t).lim = 0 → (tourN x d t).l = t.l ++ allN x
  | .mk ty k n nm xs cs ts es, d, t, h => by
    unfold tourN at h ⊢
    unfold allN
    obtain ⟨h1, e1⟩ := if_lim h
    rw [e1] at h ⊢
    have l1 := list_node h1
    cases ty with
    | E =>
      have h2 := list_L xs (d + 1) _ h
      rw [l1, List.append_assoc] at h2
      exact h2
    | C =>
      obtain ⟨h2, e2⟩ := if_lim h
      have l2 := list_L xs (d + 1) _ h2
      have e3 := congrArg Tr.lim e2
      have l3 := list_L cs (d + 1) _ (e3.symm.trans h)
      rw [l2, l1] at l3
      exact (congrArg Tr.l e2).trans (l3.trans (by simp))
    | S =>
      obtain ⟨h2, e2⟩ := if_lim h
      have l2 := list_L cs (d + 1) _ h2
      have g2 := (congrArg Tr.lim e2).symm.trans h
      obtain ⟨h3, e3⟩ := if_lim g2
      have l3 := list_L xs (d + 1) _ h3
      have g3 := (congrArg Tr.lim e3).symm.trans g2
      obtain ⟨h4, e4⟩ := if_lim g3
      have l4 := list_L ts (d + 1) _ h4
      have g4 := (congrArg Tr.lim e4).symm.trans g3
      have l5 := list_L es (d + 1) _ g4
      rw [l4, l3, l2, l1] at l5
      exact (congrArg Tr.l e2).trans ((congrArg Tr.l e3).trans ((congrArg Tr.l e4).trans (l5.trans (by simp))))
    | D => exact l1
theorem list_L : ∀ (l : List Nd) (d : Int) (t : Tr), (tourL l d t).lim = 0 → (tourL l d t).l = t.l ++ allL l
  | [], d, t, _ => by unfold tourL allL; simp
  | x :: r, d, t, h => by
    unfold tourL at h ⊢
    unfold allL
    obtain ⟨h1, e1⟩ := if_lim h
    rw [e1] at h ⊢
    rw [list_L r d _ h, list_N x d t h1, List.append_assoc]
end
/-- What the document answers for an expression or a condition is what the project answers. -/
theorem checks_same (x : Nd) (hd : ∀ y ∈ allN x, y.ty ≠ .D) : docChk x = prjChk x := by
  have hm := match_N x 1 ⟨0, 0, 0⟩ ⟨[], 0, 0⟩ ⟨rfl, rfl, rfl⟩ rfl
  have hl := list_N x 1 ⟨[], 0, 0⟩
  have hf := formed_N x ⟨true, true⟩ hd
  unfold docChk prjChk faultT
  rw [← hm.2.2] at hl ⊢
  by_cases hz : (walkN x 1 ⟨0, 0, 0⟩).bad = 0
  · rw [if_neg (by simpa using hz), if_neg (by simpa using hz), (hl hz).trans (List.nil_append _)]
    obtain ⟨h1, h2⟩ := hf
    simp only [Bool.true_and] at h1 h2
    have ea : (allN x).any (fun x => !wellN x) = !(allN x).all wellN := by rw [List.not_all_eq_any_not]
    have eb : (allN x).any namelessB = !(allN x).all named := by
      rw [List.not_all_eq_any_not]
      congr 1
      funext y
      simp [named]
    rw [ea, eb]
    unfold toldF
    rw [h1] at h2 ⊢
    cases hw : (allN x).all wellN with
    | false => rfl
    | true =>
      rw [h2 hw]
      cases (allN x).all named <;> rfl
  · rw [if_pos (by simpa using hz), if_pos (by simpa using hz)]
end Go.Proofs.YtbhbmoppipohjaaGreatDoor

/-
  The project's alike, EqualFunc over two tours' nodes, and Equal of two programs (tree's): proved is what each answers, and that it turns nothing that lay.
-/
namespace Go.Proofs.YtbhbmoppipohjaaGreatDoor
open Go Go.RowKit

/-- Two nodes have one label. -/
def labB : Nd → Nd → Bool
  | .mk ty k n s xs cs ts es, .mk ty2 k2 n2 s2 xs2 cs2 ts2 es2 => (letter ty == letter ty2) && (k == k2) && (n == n2) && (s.toList == s2.toList) && (((cs.length : Int) == cs2.length) && ((xs.length : Int) == xs2.length) && ((ts.length : Int) == ts2.length) && ((es.length : Int) == es2.length))

/-- Two rows of nodes have one row of labels. -/
def eqL : List Nd → List Nd → Bool
  | [], [] => true
  | x :: r, y :: s => labB x y && eqL r s
  | [], _ :: _ => false
  | _ :: _, [] => false
theorem eqL_len : ∀ {l m : List Nd}, eqL l m = true → l.length = m.length
  | [], [], _ => rfl
  | x :: r, y :: s, h => by
    unfold eqL at h
    simp only [Bool.and_eq_true] at h
    simpa using eqL_len h.2
  | [], _ :: _, h => by unfold eqL at h; cases h
  | _ :: _, [], h => by unfold eqL at h; cases h
theorem eqL_drop {l m : List Nd} {i : Nat} (h : i < l.length) (h2 : i < m.length) : eqL (l.drop i) (m.drop i) = (labB l[i] m[i] && eqL (l.drop (i + 1)) (m.drop (i + 1))) := by
  rw [List.drop_eq_getElem_cons h, List.drop_eq_getElem_cons h2, eqL]
theorem eqL_end {l m : List Nd} (h : l.length = m.length) : eqL (l.drop l.length) (m.drop l.length) = true := by
  rw [List.drop_length, h, List.drop_length, eqL]

end Go.Proofs.YtbhbmoppipohjaaGreatDoor

/-
  The document's walk over a program (gnomonref3's walked, Few): proved is what it answers: the plain walk over the declarations and then the statements; and that it turns nothing that lay.
-/
namespace Go.Proofs.YtbhbmoppipohjaaGreatDoor
open Go Go.RowKit

theorem walkN_D {x : Nd} {d : Int} {s : Wk} (h : x.ty = .D) : walkN x d s = nodeW d s := by
  obtain ⟨ty, k, n, nm, xs, cs, ts, es⟩ := x
  simp only [Nd.ty] at h
  subst h
  unfold walkN
  split <;> rfl
/-- The walk over a program. -/
def progW (ds ss : List Nd) : Wk := walkL ss 1 (walkL ds 1 ⟨0, 0, 0⟩)
theorem walked_end (w w3 : World) (Q : Wk) {tm : Array Value} {df : List Deferred} (hR : Blk w3 (w.heap.size + 1) #[.int .i64 0, .int .i64 0, .int .i64 0] 128) (hb : Below w.heap.size w w3) (h2 : tm[2]? = some (.pointer (some ⟨w.heap.size + 1, 0, none⟩))) (hd : df = []) :
    bodyPost Tryz.prog Tryz.f71 (fun e w' => e = .returned (.agg Q.cells) ∧ Below w.heap.size w w') .ret { tmps := tm, defers := df }
      (((w3.setCell ⟨w.heap.size + 1, 0, none⟩ (.int .i64 Q.n)).setCell ⟨w.heap.size + 1, 1, none⟩ (.int .i64 Q.dep)).setCell ⟨w.heap.size + 1, 2, none⟩ (.int .i64 Q.bad)) := by
  subst hd
  have bR := ((hR.set 0 (.int .i64 Q.n)).set 1 (.int .i64 Q.dep)).set 2 (.int .i64 Q.bad)
  have hb2 := ((hb.setCell (p := ⟨w.heap.size + 1, 0, none⟩) (by simp) (.int .i64 Q.n)).setCell (p := ⟨w.heap.size + 1, 1, none⟩) (by simp) (.int .i64 Q.dep)).setCell (p := ⟨w.heap.size + 1, 2, none⟩) (by simp) (.int .i64 Q.bad)
  obtain ⟨W, hW⟩ : ∃ W, ((w3.setCell ⟨w.heap.size + 1, 0, none⟩ (.int .i64 Q.n)).setCell ⟨w.heap.size + 1, 1, none⟩ (.int .i64 Q.dep)).setCell ⟨w.heap.size + 1, 2, none⟩ (.int .i64 Q.bad) = W := ⟨_, rfl⟩
  rw [hW] at bR hb2 ⊢
  have q0 : W.cell? ⟨w.heap.size + 1, 0, none⟩ = some (.int .i64 Q.n) := bR.cell 0
  have q1 : W.cell? ⟨w.heap.size + 1, 1, none⟩ = some (.int .i64 Q.dep) := bR.cell 1
  have q2 : W.cell? ⟨w.heap.size + 1, 2, none⟩ = some (.int .i64 Q.bad) := bR.cell 2
  exact bodyPost_ret (v := .agg #[.int .i64 Q.n, .int .i64 Q.dep, .int .i64 Q.bad]) (by simp [results, Tryz.results71, go_sem, q0, q1, q2, h2]) rfl ⟨rfl, hb2⟩

set_option maxRecDepth 100000 in
set_option maxHeartbeats 4000000 in
theorem walked_any (ds ss : List Nd) (v0 v1 : Value) (w : World) (hd : SlIn w .D ds v0) (hs : SlIn w .S ss v1) :
    Calls Tryz.prog 71 #[.agg #[v0, v1]] w (fun e w' => e = .returned (.agg (progW ds ss).cells) ∧ Below w.heap.size w w') := by
  obtain ⟨a0, c0, rfl, hlc0, hcm1, hrow0⟩ := hd
  obtain ⟨a1, c1, rfl, hlc1, hcm2, hrow1⟩ := hs
  have HROW1 := Lib.hid hrow0; clear hrow0
  have HROW2 := Lib.hid hrow1; clear hrow1
  have hok1 := Lib.hid (show Wk.ok ⟨0, 0, 0⟩ by unfold Wk.ok; simp)
  have hok2 := Lib.hid (walkL_ok ds 1 _ hok1.out (by omega))
  have hQ : progW ds ss = walkL ss 1 (walkL ds 1 ⟨0, 0, 0⟩) := rfl
  obtain ⟨Q, hQ2⟩ : ∃ Q, progW ds ss = Q := ⟨_, rfl⟩
  rw [hQ2] at hQ ⊢
  have HQ := Lib.hid hQ; clear hQ hQ2
  obtain ⟨W1, hW1⟩ : ∃ W1, ((w.alloc (.cells #[.slice a0 ds.length c0, .slice a1 ss.length c1] 25)).alloc (.cells #[.int .i64 0, .int .i64 0, .int .i64 0] 128)).alloc (.cells #[.int .i64 0, .int .i64 0, .int .i64 0] 128) = W1 := ⟨_, rfl⟩
  have hb : Below w.heap.size w W1 := by
    rw [← hW1]
    exact (((Below.refl _ w).alloc (Nat.le_refl _) _).alloc (by simp) _).alloc (by simp; omega) _
  obtain ⟨B, hB⟩ : ∃ B, w.heap.size + 2 = B := ⟨_, rfl⟩
  have hB1 : Blk W1 B (Wk.cells ⟨0, 0, 0⟩) 128 := by
    have h := Blk.new ((w.alloc (.cells #[.slice a0 ds.length c0, .slice a1 ss.length c1] 25)).alloc (.cells #[.int .i64 0, .int .i64 0, .int .i64 0] 128)) #[.int .i64 0, .int .i64 0, .int .i64 0] 128
    rw [hW1, World.size_alloc, World.size_alloc] at h
    rw [← hB]
    exact h
  have hR1 : Blk W1 (w.heap.size + 1) #[.int .i64 0, .int .i64 0, .int .i64 0] 128 := by
    have h := (Blk.new (w.alloc (.cells #[.slice a0 ds.length c0, .slice a1 ss.length c1] 25)) #[.int .i64 0, .int .i64 0, .int .i64 0] 128).alloc (.cells #[.int .i64 0, .int .i64 0, .int .i64 0] 128)
    rw [hW1, World.size_alloc] at h
    exact h
  have hP1 : Blk W1 w.heap.size #[.slice a0 ds.length c0, .slice a1 ss.length c1] 25 := by rw [← hW1]; exact ((Blk.new w _ _).alloc _).alloc _
  have hne : w.heap.size ≠ B := by omega
  have hneR : w.heap.size + 1 ≠ B := by omega
  have hB0 : w.heap.size ≤ B := by omega
  have hb1 := Lib.hid hb; clear hb
  have HB1 := Lib.hid hB1; clear hB1
  have HR1 := Lib.hid hR1; clear hR1
  have HX1 := Lib.hid hP1; clear hP1
  have HO1 := Lib.hid (Only.refl B W1)
  have HW1 := Lib.hid hW1; clear hW1
  go_enter Tryz.func71, Tryz.ntmps71
  go_upto_region 2 with fail
  rw [HW1.out]
  clear HW1
  clear hB
  go_upto_block 0 with fail
  go_cut [4] (fun _ wx => Blk wx B (walkL ds 1 ⟨0, 0, 0⟩).cells 128 ∧ Blk wx w.heap.size #[.slice a0 ds.length c0, .slice a1 ss.length c1] 25 ∧ Only B W1 wx)
  case first =>
    go_wp2_with fail
    go_loopw [4] (fun x wr => ∃ i : Nat, x = .int .i64 i ∧ i ≤ ds.length ∧ Blk wr B (walkL (ds.take i) 1 ⟨0, 0, 0⟩).cells 128 ∧ Blk wr w.heap.size #[.slice a0 ds.length c0, .slice a1 ss.length c1] 25 ∧ Only B W1 wr) (fun x _ => ds.length - (intOf x).toNat)
    case atStart => exact ⟨0, rfl, by omega, by rw [List.take_zero, walkL]; exact HB1.out, HX1.out, HO1.out⟩
    case round =>
      obtain ⟨i, rfl, hi, hBr, hXr, hOr⟩ := hrel
      clear HB1 HX1 HO1
      have e3 : wr.cell? ⟨w.heap.size, 0, none⟩ = some (.slice a0 ds.length c0) := hXr.cell 0
      have b2 : wr.cell? ⟨B, 2, none⟩ = some (.int .i64 (walkL (ds.take i) 1 ⟨0, 0, 0⟩).bad) := hBr.cell 2
      have hsok := walkL_ok (ds.take i) 1 ⟨0, 0, 0⟩ hok1.out (by omega)
      have hstop := walkL_stop (l := ds) (i := i) (d := 1) (s := ⟨0, 0, 0⟩)
      have htk := fun h => walkL_take (l := ds) (i := i) h 1 ⟨0, 0, 0⟩
      have HX := Lib.hid hXr; clear hXr
      have HO := Lib.hid hOr; clear hOr
      by_cases hlt2 : i < ds.length
      · have hbi : (i : Int) + 1 ≤ 9223372036854775807 := by unfold maxLen at hcm1; omega
        obtain ⟨S, hS⟩ : ∃ S, walkL (ds.take i) 1 ⟨0, 0, 0⟩ = S := ⟨_, rfl⟩
        rw [hS] at hBr b2 hsok hstop htk
        clear hS
        have HBr := Lib.hid hBr; clear hBr
        have hxl : ¬ ds.length = 0 := by omega
        obtain ⟨b, o, rfl, hrow⟩ := HROW1.out.resolve_left hxl
        by_cases hb : S.bad = 0
        · rw [hb] at b2
          have hty := (SlIn.item2 rfl hrow i hlt2).1
          have htk2 := (htk hlt2).trans (walkN_D hty)
          have HC := Lib.hid (wnode_any S 1 B wr hsok ⟨by omega, by omega⟩ HBr.out)
          have HTK := Lib.hid htk2
          clear hty hstop htk htk2 hrow
          go_wp2_with fail
          refine HC.out.mono ?_
          rintro e w2 ⟨rfl, hB2, hO2⟩
          rw [← HTK.out] at hB2
          have hX2 := HX.out.only hO2 hne
          have hO3 := HO.out.trans hO2
          have HB2 := Lib.hid hB2; clear hB2
          have HX2 := Lib.hid hX2; clear hX2
          clear hO2
          have HO3 := Lib.hid hO3; clear hO3
          go_wp2_with fail
          go_roundw
          case rel => exact ⟨i + 1, by go_num, by omega, HB2.out, HX2.out, HO3.out⟩
          case measure => simp [intOf]; omega
        · have hb2 : (S.bad == 0) = false := by simpa using hb
          have HST := Lib.hid (hstop hb)
          clear hstop htk
          go_wp2_with fail
          go_meet
          exact ⟨by rw [HST.out]; exact HBr.out, HX.out, HO.out⟩
      · obtain rfl : i = ds.length := by omega
        rw [List.take_length] at hBr
        have HBr := Lib.hid hBr; clear hBr
        clear hstop htk b2 hsok
        go_wp2_with fail
        go_meet
        exact ⟨HBr.out, HX.out, HO.out⟩
  case rest =>
    obtain ⟨hB2, hX2, hO2⟩ := hcut
    have HB2 := Lib.hid hB2; clear hB2
    have HX2 := Lib.hid hX2; clear hX2
    have HO2 := Lib.hid hO2; clear hO2
    clear HB1 HX1 HO1 HROW1
    obtain ⟨S1, hS1⟩ : ∃ S, walkL ds 1 ⟨0, 0, 0⟩ = S := ⟨_, rfl⟩
    rw [hS1] at HB2 HQ hok2
    clear hS1
    go_upto_block 2 with fail
    go_cut [5] (fun _ wx => Blk wx B (walkL ss 1 S1).cells 128 ∧ Blk wx w.heap.size #[.slice a0 ds.length c0, .slice a1 ss.length c1] 25 ∧ Only B W1 wx)
    case first =>
      go_wp2_with fail
      go_loopw [5] (fun x wr => ∃ i : Nat, x = .int .i64 i ∧ i ≤ ss.length ∧ Blk wr B (walkL (ss.take i) 1 S1).cells 128 ∧ Blk wr w.heap.size #[.slice a0 ds.length c0, .slice a1 ss.length c1] 25 ∧ Only B W1 wr) (fun x _ => ss.length - (intOf x).toNat)
      case atStart => exact ⟨0, rfl, by omega, by rw [List.take_zero, walkL]; exact HB2.out, HX2.out, HO2.out⟩
      case round =>
        obtain ⟨i, rfl, hi, hBr, hXr, hOr⟩ := hrel
        clear HB2 HX2 HO2
        have e3 : wr.cell? ⟨w.heap.size, 1, none⟩ = some (.slice a1 ss.length c1) := hXr.cell 1
        have b2 : wr.cell? ⟨B, 2, none⟩ = some (.int .i64 (walkL (ss.take i) 1 S1).bad) := hBr.cell 2
        have hsok := walkL_ok (ss.take i) 1 S1 hok2.out (by omega)
        have hstop := walkL_stop (l := ss) (i := i) (d := 1) (s := S1)
        have htk := fun h => walkL_take (l := ss) (i := i) h 1 S1
        have HX := Lib.hid hXr; clear hXr
        have HO := Lib.hid hOr; clear hOr
        by_cases hlt2 : i < ss.length
        · have hbi : (i : Int) + 1 ≤ 9223372036854775807 := by unfold maxLen at hcm2; omega
          obtain ⟨S, hS⟩ : ∃ S, walkL (ss.take i) 1 S1 = S := ⟨_, rfl⟩
          rw [hS] at hBr b2 hsok hstop htk
          clear hS
          have HBr := Lib.hid hBr; clear hBr
          have hxl : ¬ ss.length = 0 := by omega
          obtain ⟨b, o, rfl, hrow⟩ := HROW2.out.resolve_left hxl
          by_cases hb : S.bad = 0
          · rw [hb] at b2
            have hold : Below w.heap.size w wr := hb1.out.trans (HO.out.old (by omega) hb1.out.size)
            obtain ⟨hty, u0, u1, u2, u3, u4, u5, m0, m1, m2, m3, m4, m5, hnd⟩ := SlIn.item6 rfl hrow i hlt2
            have kk := keeps_below hold
            have k0 := kk _ _ _ m0
            have k1 := kk _ _ _ m1
            have k2 := kk _ _ _ m2
            have k3 := kk _ _ _ m3
            have k4 := kk _ _ _ m4
            have k5 := kk _ _ _ m5
            have HC := Lib.hid (wstmt_any w B hB0 _ _ u0 u1 u2 u3 u4 u5 1 S wr (Nat.le_refl _) hty hnd hold hsok (by omega) (by omega) HBr.out)
            have HTK := Lib.hid (htk hlt2)
            clear m0 m1 m2 m3 m4 m5 hnd hty hold kk hstop htk hrow
            go_wp2_with fail
            refine HC.out.mono ?_
            rintro e w2 ⟨rfl, hB2, hO2⟩
            rw [← HTK.out] at hB2
            have hX2 := HX.out.only hO2 hne
            have hO3 := HO.out.trans hO2
            have HB2 := Lib.hid hB2; clear hB2
            have HX2 := Lib.hid hX2; clear hX2
            clear hO2
            have HO3 := Lib.hid hO3; clear hO3
            go_wp2_with fail
            go_roundw
            case rel => exact ⟨i + 1, by go_num, by omega, HB2.out, HX2.out, HO3.out⟩
            case measure => simp [intOf]; omega
          · have hb2 : (S.bad == 0) = false := by simpa using hb
            have HST := Lib.hid (hstop hb)
            clear hstop htk
            go_wp2_with fail
            go_meet
            exact ⟨by rw [HST.out]; exact HBr.out, HX.out, HO.out⟩
        · obtain rfl : i = ss.length := by omega
          rw [List.take_length] at hBr
          have HBr := Lib.hid hBr; clear hBr
          clear hstop htk b2 hsok
          go_wp2_with fail
          go_meet
          exact ⟨HBr.out, HX.out, HO.out⟩
    case rest =>
      obtain ⟨hB3, hX3, hO3⟩ := hcut
      rw [← HQ.out] at hB3
      have hR3 := HR1.out.only hO3 hneR
      have hb3 := hb1.out.trans (hO3.old (by omega) hb1.out.size)
      clear HB2 HX2 HO2 HROW2 hX3 hO3
      have l0 : wc.cell? ⟨B, 0, none⟩ = some (.int .i64 Q.n) := hB3.cell 0
      have l1 : wc.cell? ⟨B, 1, none⟩ = some (.int .i64 Q.dep) := hB3.cell 1
      have l2 : wc.cell? ⟨B, 2, none⟩ = some (.int .i64 Q.bad) := hB3.cell 2
      have hx0 : wc.frozen? ⟨w.heap.size + 1, 0, none⟩ = false := hR3.free 0
      have hx1 : wc.frozen? ⟨w.heap.size + 1, 1, none⟩ = false := hR3.free 1
      have hx2 : wc.frozen? ⟨w.heap.size + 1, 2, none⟩ = false := hR3.free 2
      have hy0 : wc.cell? ⟨w.heap.size + 1, 0, none⟩ = some (.int .i64 0) := hR3.cell 0
      have hy1 : wc.cell? ⟨w.heap.size + 1, 1, none⟩ = some (.int .i64 0) := hR3.cell 1
      have hy2 : wc.cell? ⟨w.heap.size + 1, 2, none⟩ = some (.int .i64 0) := hR3.cell 2
      have HR3 := Lib.hid hR3; clear hR3
      have HB3 := Lib.hid hb3; clear hb3 hB3
      go_wp2_with fail
      exact walked_end w wc Q HR3.out HB3.out rfl rfl

theorem bad_field (a b c : Int) (w : World) : (Instr.field 128 (.agg #[.int .i64 a, .int .i64 b, .int .i64 c]) 2).run Tryz.prog w = .ok (.int .i64 c) w := by
  have h5 : Tryz.prog.underlying 3 = some (.int .i64) := by kernel_rfl
  have q : ∀ w, (part 3 #[Value.int .i64 a, .int .i64 b, .int .i64 c] 2).run Tryz.prog w = .ok (.int .i64 c) w := fun w => by simp [part, isAgg, run_underlying h5]
  simp [Instr.field, run_underlying Tryz.underlying128, asAgg, q]
end Go.Proofs.YtbhbmoppipohjaaGreatDoor

/-
  Plain: what each node of a type may have, all the way down; a program's nodes in their order.
-/
namespace Go.Proofs.YtbhbmoppipohjaaGreatDoor
open Go Go.RowKit

mutual
/-- A node has what its type may have, and so do all within it. -/
def fitN : Nd → Prop
  | .mk ty k n s xs cs ts es => fits ty k n s xs cs ts es ∧ fitL .E xs ∧ fitL .C cs ∧ fitL .S ts ∧ fitL .S es
def fitL : Ty → List Nd → Prop
  | _, [] => True
  | ty, x :: r => x.ty = ty ∧ fitN x ∧ fitL ty r
end
theorem fit_sl {w : World} {ty : Ty} {l : List Nd} {v : Value} (hL : ∀ b o, RowIn w ty l b o → fitL ty l) (h : SlOf l.length (fun b o => RowIn w ty l b o) v) : fitL ty l := by
  obtain ⟨a, c, _, _, _, h0 | ⟨b, o, _, hr⟩⟩ := h
  · obtain rfl := List.eq_nil_of_length_eq_zero h0
    unfold fitL
    trivial
  · exact hL b o hr
mutual
theorem fit_N (w : World) : ∀ (x : Nd) (vs : List Value), NdIn w x vs → fitN x
  | .mk ty k n nm xs cs ts es, vs, h => by
    unfold NdIn at h
    obtain ⟨hf, _, _, _, vx, vc, vt, ve, _, hx, hc, ht, he⟩ := h
    unfold fitN
    exact ⟨hf, fit_sl (fit_L w .E xs) hx, fit_sl (fit_L w .C cs) hc, fit_sl (fit_L w .S ts) ht, fit_sl (fit_L w .S es) he⟩
theorem fit_L (w : World) : ∀ (ty : Ty) (l : List Nd) (b o : Nat), RowIn w ty l b o → fitL ty l
  | _, [], _, _, _ => by unfold fitL; trivial
  | ty, x :: r, b, o, h => by
    unfold RowIn at h
    obtain ⟨⟨h1, vs, _, h2⟩, h3⟩ := h
    unfold fitL
    exact ⟨h1, fit_N w x vs h2, fit_L w ty r (b + 0) (o + ty.size) h3⟩
end
theorem fit_list {w : World} {ty : Ty} {l : List Nd} {v : Value} (h : SlIn w ty l v) : fitL ty l := fit_sl (fit_L w ty l) h
theorem allL_app (l m : List Nd) : allL (l ++ m) = allL l ++ allL m := by
  induction l with
  | nil => rw [List.nil_append, allL, List.nil_append]
  | cons x r ih => rw [List.cons_append, allL, allL, ih, List.append_assoc]
theorem progT_list {ds ss : List Nd} (h : (progT ds ss).lim = 0) : (progT ds ss).l = allL (ds ++ ss) := by
  unfold progT at h ⊢
  obtain ⟨h1, e1⟩ := if_lim h
  rw [e1] at h ⊢
  have l1 := list_L ds 1 ⟨[], 0, 0⟩ h1
  have l2 := list_L ss 1 _ h
  rw [l2, l1, allL_app]
  rfl
theorem progW_T (ds ss : List Nd) : (progW ds ss).bad = (progT ds ss).lim := by
  have h1 := match_L ds 1 ⟨0, 0, 0⟩ ⟨[], 0, 0⟩ ⟨rfl, rfl, rfl⟩ rfl
  have h2 := match_if (F := fun s => walkL ss 1 s) (fun s hs => walkL_bad ss 1 s hs) h1 (fun hz => match_L ss 1 _ _ h1 hz)
  exact h2.2.2
end Go.Proofs.YtbhbmoppipohjaaGreatDoor

/-
  Plain: two rows of all nodes of trees have the same labels just if the trees are the same.
-/
namespace Go.Proofs.YtbhbmoppipohjaaGreatDoor
open Go Go.RowKit

theorem letter_inj {a b : Ty} (h : letter a = letter b) : a = b := by
  cases a <;> cases b <;> first | rfl | (exact absurd h (by decide))
theorem lab_of_same {x y : Nd} (h : sameN x y = true) : labB x y = true := by
  obtain ⟨ty, k, n, s, xs, cs, ts, es⟩ := x
  obtain ⟨ty2, k2, n2, s2, xs2, cs2, ts2, es2⟩ := y
  unfold sameN at h
  simp only [Bool.and_eq_true, decide_eq_true_eq, beq_iff_eq] at h
  obtain ⟨⟨⟨⟨⟨⟨⟨h1, h2⟩, h3⟩, h4⟩, h5⟩, h6⟩, h7⟩, h8⟩ := h
  have e5 := sameL_len h5
  have e6 := sameL_len h6
  have e7 := sameL_len h7
  have e8 := sameL_len h8
  unfold labB
  simp [h1, h2, h3, h4, e5, e6, e7, e8]
theorem lab_parts {ty ty2 : Ty} {k n k2 n2 : Int} {s s2 : ByteArray} {xs cs ts es xs2 cs2 ts2 es2 : List Nd} (h : labB (.mk ty k n s xs cs ts es) (.mk ty2 k2 n2 s2 xs2 cs2 ts2 es2) = true) :
    ty = ty2 ∧ k = k2 ∧ n = n2 ∧ s.toList = s2.toList ∧ cs.length = cs2.length ∧ xs.length = xs2.length ∧ ts.length = ts2.length ∧ es.length = es2.length := by
  unfold labB at h
  simp only [Bool.and_eq_true, beq_iff_eq] at h
  obtain ⟨⟨⟨⟨h1, h2⟩, h3⟩, h4⟩, ⟨⟨h5, h6⟩, h7⟩, h8⟩ := h
  exact ⟨letter_inj h1, h2, h3, h4, by omega, by omega, by omega, by omega⟩
mutual
theorem eq_N : ∀ (x y : Nd) (r s : List Nd), fitN x → fitN y → eqL (allN x ++ r) (allN y ++ s) = (sameN x y && eqL r s)
  | .mk ty k n nm xs cs ts es, .mk ty2 k2 n2 nm2 xs2 cs2 ts2 es2, r, s, hx, hy => by
    unfold fitN at hx hy
    obtain ⟨f1, f2, f3, f4, f5⟩ := hx
    obtain ⟨g1, g2, g3, g4, g5⟩ := hy
    unfold allN
    rw [List.cons_append, List.cons_append, eqL]
    cases hl : labB (.mk ty k n nm xs cs ts es) (.mk ty2 k2 n2 nm2 xs2 cs2 ts2 es2) with
    | false =>
      cases hs : sameN (.mk ty k n nm xs cs ts es) (.mk ty2 k2 n2 nm2 xs2 cs2 ts2 es2) with
      | false => rfl
      | true => rw [lab_of_same hs] at hl; cases hl
    | true =>
      obtain ⟨rfl, rfl, rfl, e4, e5, e6, e7, e8⟩ := lab_parts hl
      have hsame : sameN (.mk ty k n nm xs cs ts es) (.mk ty k n nm2 xs2 cs2 ts2 es2) = (sameL xs xs2 && sameL cs cs2 && sameL ts ts2 && sameL es es2) := by
        unfold sameN
        simp [e4]
      rw [hsame, Bool.true_and]
      have hnil : sameL [] [] = true := by rw [sameL]
      cases ty with
      | E =>
        obtain ⟨rfl, rfl, rfl⟩ := f1
        obtain ⟨rfl, rfl, rfl⟩ := g1
        simp only
        rw [eq_L .E xs xs2 r s f2 g2 e6, hnil]
        simp
      | C =>
        obtain ⟨rfl, rfl, rfl⟩ := f1
        obtain ⟨rfl, rfl, rfl⟩ := g1
        simp only
        rw [List.append_assoc, List.append_assoc, eq_L .E xs xs2 _ _ f2 g2 e6, eq_L .C cs cs2 r s f3 g3 e5, hnil]
        simp [Bool.and_assoc]
      | S =>
        simp only
        rw [List.append_assoc, List.append_assoc, List.append_assoc, List.append_assoc, List.append_assoc, List.append_assoc, eq_L .C cs cs2 _ _ f3 g3 e5, eq_L .E xs xs2 _ _ f2 g2 e6, eq_L .S ts ts2 _ _ f4 g4 e7, eq_L .S es es2 r s f5 g5 e8]
        cases sameL xs xs2 <;> cases sameL cs cs2 <;> simp [Bool.and_assoc]
      | D =>
        obtain ⟨_, rfl, rfl, rfl, rfl⟩ := f1
        obtain ⟨_, rfl, rfl, rfl, rfl⟩ := g1
        simp only
        rw [hnil]
        simp
theorem eq_L : ∀ (ty : Ty) (l m r s : List Nd), fitL ty l → fitL ty m → l.length = m.length → eqL (allL l ++ r) (allL m ++ s) = (sameL l m && eqL r s)
  | _, [], [], r, s, _, _, _ => by unfold allL sameL; simp
  | ty, x :: l, y :: m, r, s, hl, hm, hlen => by
    unfold fitL at hl hm
    unfold allL sameL
    rw [List.append_assoc, List.append_assoc, eq_N x y _ _ hl.2.1 hm.2.1, eq_L ty l m r s hl.2.2 hm.2.2 (by simpa using hlen), Bool.and_assoc]
  | _, [], _ :: _, _, _, _, _, h => by simp at h
  | _, _ :: _, [], _, _, _, _, h => by simp at h
end
/-- Nodes of any types, all fit. -/
def fitA (l : List Nd) : Prop := ∀ x ∈ l, fitN x
theorem fitA_of {ty : Ty} : ∀ {l : List Nd}, fitL ty l → fitA l
  | [], _ => fun x hx => by cases hx
  | y :: r, h => fun x hx => by
    unfold fitL at h
    rcases List.mem_cons.1 hx with rfl | hx
    · exact h.2.1
    · exact fitA_of h.2.2 x hx
theorem allN_ne (x : Nd) : ∃ y r, allN x = y :: r := by
  obtain ⟨ty, k, n, nm, xs, cs, ts, es⟩ := x
  unfold allN
  exact ⟨_, _, rfl⟩
theorem eq_all : ∀ (l m : List Nd), fitA l → fitA m → eqL (allL l) (allL m) = sameL l m
  | [], [], _, _ => by unfold allL sameL eqL; rfl
  | [], y :: m, _, _ => by
    obtain ⟨z, r, hz⟩ := allN_ne y
    rw [allL, allL, hz]
    simp [eqL, sameL]
  | x :: l, [], _, _ => by
    obtain ⟨z, r, hz⟩ := allN_ne x
    rw [allL, allL, hz]
    simp [eqL, sameL]
  | x :: l, y :: m, hl, hm => by
    rw [allL, allL, sameL, eq_N x y _ _ (hl x (List.mem_cons_self ..)) (hm y (List.mem_cons_self ..)), eq_all l m (fun z hz => hl z (List.mem_cons_of_mem _ hz)) (fun z hz => hm z (List.mem_cons_of_mem _ hz))]
theorem same_ty {x y : Nd} (h : x.ty ≠ y.ty) : sameN x y = false := by
  obtain ⟨ty, k, n, nm, xs, cs, ts, es⟩ := x
  obtain ⟨ty2, k2, n2, nm2, xs2, cs2, ts2, es2⟩ := y
  unfold sameN
  have : decide (ty = ty2) = false := by simpa [Nd.ty] using h
  simp [this]
theorem ty_of {ty : Ty} : ∀ {l : List Nd}, fitL ty l → ∀ x ∈ l, x.ty = ty
  | [], _ => fun x hx => by cases hx
  | y :: r, h => fun x hx => by
    unfold fitL at h
    rcases List.mem_cons.1 hx with rfl | hx
    · exact h.1
    · exact ty_of h.2.2 x hx
theorem same_app : ∀ (d1 s1 d2 s2 : List Nd), (∀ x ∈ d1, x.ty = .D) → (∀ x ∈ d2, x.ty = .D) → (∀ x ∈ s1, x.ty = .S) → (∀ x ∈ s2, x.ty = .S) → sameL (d1 ++ s1) (d2 ++ s2) = (sameL d1 d2 && sameL s1 s2)
  | [], s1, [], s2, _, _, _, _ => by rw [List.nil_append, List.nil_append, show sameL [] [] = true by rw [sameL]]; rfl
  | x :: d1, s1, y :: d2, s2, h1, h2, h3, h4 => by
    rw [List.cons_append, List.cons_append, sameL, sameL, same_app d1 s1 d2 s2 (fun z hz => h1 z (List.mem_cons_of_mem _ hz)) (fun z hz => h2 z (List.mem_cons_of_mem _ hz)) h3 h4, Bool.and_assoc]
  | [], [], y :: d2, s2, _, _, _, _ => by simp [sameL]
  | [], z :: s1, y :: d2, s2, _, h2, h3, _ => by
    rw [List.nil_append, List.cons_append, sameL, same_ty (by rw [h3 z (List.mem_cons_self ..), h2 y (List.mem_cons_self ..)]; decide)]
    simp [sameL]
  | x :: d1, s1, [], [], _, _, _, _ => by simp [sameL]
  | x :: d1, s1, [], z :: s2, h1, _, _, h4 => by
    rw [List.nil_append, List.cons_append, sameL, same_ty (by rw [h4 z (List.mem_cons_self ..), h1 x (List.mem_cons_self ..)]; decide)]
    simp [sameL]
end Go.Proofs.YtbhbmoppipohjaaGreatDoor
