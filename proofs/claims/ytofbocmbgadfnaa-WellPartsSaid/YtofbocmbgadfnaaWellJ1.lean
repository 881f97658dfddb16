/-
  The project's Check (package well): proved is what it tells of a program that lies in memory, and that it turns nothing that lay.
-/
import Derived.Test.YtofbocmbgadfnaaThru
import Derived.ChangeKeysEq
import Derived.Laws.StructEq
import Derived.Test.YtofbocmbgadfnaaSameE
import Derived.Test.YtofbocmbgadfnaaTops
import Derived.Test.YtofbocmbgadfnaaPlainC
import Derived.Deep.RegionHeld3
import Derived.Test.YtofbocmbgadfnaaSameS
import Derived.Test.YtofbocmbgadfnaaWalked
import Derived.Test.YtofbocmbgadfnaaFormS
import Derived.Test.YtofbocmbgadfnaaFormD
import Derived.Test.YtofbocmbgadfnaaPlainD
import Derived.Test.YtofbocmbgadfnaaNamesP
import Derived.BigQuiet
import Derived.Test.YtofbocmbgadfnaaUsesS
import Derived.Deep.RegionWith
import Derived.Maps.OwnOps
import Derived.Maps.Views
import Derived.WalkMore
import Derived.Deep.QuietTactic
/-
  The project's label of a node (tree's labelOf): proved is what it holds: the node's type as a letter, its two numbers, its name, how many nodes each of its lists has; and that nothing that lay is turned.
-/
namespace Go.Proofs.Ytofbocmbgadfnaa
open Go Go.RowKit

def letter : Ty → Int | .E => 69 | .C => 67 | .S => 83 | .D => 68
def labV : Nd → Value
  | .mk ty k n s xs cs ts es => .agg #[.int .u8 (letter ty), .int .i64 k, .int .i64 n, .string s, .int .i64 cs.length, .int .i64 xs.length, .int .i64 ts.length, .int .i64 es.length]
end Go.Proofs.Ytofbocmbgadfnaa

/-
  Two labels of nodes are compared part by part: proved is what the comparison of the struct (with its array) answers.
-/
namespace Go.Proofs.Ytofbocmbgadfnaa
open Go Go.RowKit
theorem eq_intK {P : Program} {t : TypeId} {q : IntKind} (hu : P.underlying t = some (.int q)) (d : Nat) (a b : Int) (w : World) : (Op.equalIn (d + 1) t (.int q a) (.int q b)).run P w = .ok (a == b) w := by
  simp [Op.equalIn, run_underlying hu]
theorem eq_strK {P : Program} {t : TypeId} (hu : P.underlying t = some .string) (d : Nat) (a b : ByteArray) (w : World) : (Op.equalIn (d + 1) t (.string a) (.string b)).run P w = .ok (a.toList == b.toList) w := run_equalIn_string w d t a b hu
theorem eq_int (d : Nat) (a b : Int) (w : World) : (Op.equalIn (d + 1) 3 (.int .i64 a) (.int .i64 b)).run Try.prog w = .ok (a == b) w := eq_intK (by kernel_rfl) d a b w
theorem part_int (cs : Array Value) (i : Nat) (v : Value) (h : cs[i]? = some v) (w : World) : (part 3 cs i).run Try.prog w = .ok v w := by
  have h2 : Try.prog.underlying 3 = some (.int .i64) := by kernel_rfl
  simp [part, isAgg, run_underlying h2, h]
end Go.Proofs.Ytofbocmbgadfnaa

/-
  The project's alike, EqualFunc over two tours' nodes, and Equal of two programs (tree's): proved is what each answers, and that it turns nothing that lay.
-/
namespace Go.Proofs.Ytofbocmbgadfnaa
open Go Go.RowKit

/-- Two nodes have one label. -/
def labB : Nd → Nd → Bool
  | .mk ty k n s xs cs ts es, .mk ty2 k2 n2 s2 xs2 cs2 ts2 es2 => (letter ty == letter ty2) && (k == k2) && (n == n2) && (s.toList == s2.toList) && (((cs.length : Int) == cs2.length) && ((xs.length : Int) == xs2.length) && ((ts.length : Int) == ts2.length) && ((es.length : Int) == es2.length))

/-- Two rows of nodes have one row of labels. -/
def eqL : List Nd → List Nd → Bool
  | [], [] => true
  | x :: r, y :: s => labB x y && eqL r s
  | [], _ :: _ => false
  | _ :: _, [] => false
theorem eqL_len : ∀ {l m : List Nd}, eqL l m = true → l.length = m.length
  | [], [], _ => rfl
  | x :: r, y :: s, h => by
    unfold eqL at h
    simp only [Bool.and_eq_true] at h
    simpa using eqL_len h.2
  | [], _ :: _, h => by unfold eqL at h; cases h
  | _ :: _, [], h => by unfold eqL at h; cases h
theorem eqL_drop {l m : List Nd} {i : Nat} (h : i < l.length) (h2 : i < m.length) : eqL (l.drop i) (m.drop i) = (labB l[i] m[i] && eqL (l.drop (i + 1)) (m.drop (i + 1))) := by
  rw [List.drop_eq_getElem_cons h, List.drop_eq_getElem_cons h2, eqL]
theorem eqL_end {l m : List Nd} (h : l.length = m.length) : eqL (l.drop l.length) (m.drop l.length) = true := by
  rw [List.drop_length, h, List.drop_length, eqL]

end Go.Proofs.Ytofbocmbgadfnaa

/-
  Plain: two rows of all nodes of trees have the same labels just if the trees are the same.
-/
namespace Go.Proofs.Ytofbocmbgadfnaa
open Go Go.RowKit

mutual
/-- A node has what its type may have, and so do all within it. -/
def fitN : Nd → Prop
  | .mk ty k n s xs cs ts es => fits ty k n s xs cs ts es ∧ fitL .E xs ∧ fitL .C cs ∧ fitL .S ts ∧ fitL .S es
def fitL : Ty → List Nd → Prop
  | _, [] => True
  | ty, x :: r => x.ty = ty ∧ fitN x ∧ fitL ty r
end
theorem fit_sl {w : World} {ty : Ty} {l : List Nd} {v : Value} (hL : ∀ b o, RowIn w ty l b o → fitL ty l) (h : SlOf l.length (fun b o => RowIn w ty l b o) v) : fitL ty l := by
  obtain ⟨a, c, _, _, _, h0 | ⟨b, o, _, hr⟩⟩ := h
  · obtain rfl := List.eq_nil_of_length_eq_zero h0
    unfold fitL
    trivial
  · exact hL b o hr
mutual
theorem fit_N (w : World) : ∀ (x : Nd) (vs : List Value), NdIn w x vs → fitN x
  | .mk ty k n nm xs cs ts es, vs, h => by
    unfold NdIn at h
    obtain ⟨hf, _, _, _, vx, vc, vt, ve, _, hx, hc, ht, he⟩ := h
    unfold fitN
    exact ⟨hf, fit_sl (fit_L w .E xs) hx, fit_sl (fit_L w .C cs) hc, fit_sl (fit_L w .S ts) ht, fit_sl (fit_L w .S es) he⟩
theorem fit_L (w : World) : ∀ (ty : Ty) (l : List Nd) (b o : Nat), RowIn w ty l b o → fitL ty l
  | _, [], _, _, _ => by unfold fitL; trivial
  | ty, x :: r, b, o, h => by
    unfold RowIn at h
    obtain ⟨⟨h1, vs, _, h2⟩, h3⟩ := h
    unfold fitL
    exact ⟨h1, fit_N w x vs h2, fit_L w ty r (b + 0) (o + ty.size) h3⟩
end
theorem fit_list {w : World} {ty : Ty} {l : List Nd} {v : Value} (h : SlIn w ty l v) : fitL ty l := fit_sl (fit_L w ty l) h
theorem letter_inj {a b : Ty} (h : letter a = letter b) : a = b := by
  cases a <;> cases b <;> first | rfl | (exact absurd h (by decide))
theorem allL_app (l m : List Nd) : allL (l ++ m) = allL l ++ allL m := by
  induction l with
  | nil => rw [List.nil_append, allL, List.nil_append]
  | cons x r ih => rw [List.cons_append, allL, allL, ih, List.append_assoc]
theorem lab_of_same {x y : Nd} (h : sameN x y = true) : labB x y = true := by
  obtain ⟨ty, k, n, s, xs, cs, ts, es⟩ := x
  obtain ⟨ty2, k2, n2, s2, xs2, cs2, ts2, es2⟩ := y
  unfold sameN at h
  simp only [Bool.and_eq_true, decide_eq_true_eq, beq_iff_eq] at h
  obtain ⟨⟨⟨⟨⟨⟨⟨h1, h2⟩, h3⟩, h4⟩, h5⟩, h6⟩, h7⟩, h8⟩ := h
  have e5 := sameL_len h5
  have e6 := sameL_len h6
  have e7 := sameL_len h7
  have e8 := sameL_len h8
  unfold labB
  simp [h1, h2, h3, h4, e5, e6, e7, e8]
theorem lab_parts {ty ty2 : Ty} {k n k2 n2 : Int} {s s2 : ByteArray} {xs cs ts es xs2 cs2 ts2 es2 : List Nd} (h : labB (.mk ty k n s xs cs ts es) (.mk ty2 k2 n2 s2 xs2 cs2 ts2 es2) = true) :
    ty = ty2 ∧ k = k2 ∧ n = n2 ∧ s.toList = s2.toList ∧ cs.length = cs2.length ∧ xs.length = xs2.length ∧ ts.length = ts2.length ∧ es.length = es2.length := by
  unfold labB at h
  simp only [Bool.and_eq_true, beq_iff_eq] at h
  obtain ⟨⟨⟨⟨h1, h2⟩, h3⟩, h4⟩, ⟨⟨h5, h6⟩, h7⟩, h8⟩ := h
  exact ⟨letter_inj h1, h2, h3, h4, by omega, by omega, by omega, by omega⟩
mutual
theorem eq_N : ∀ (x y : Nd) (r s : List Nd), fitN x → fitN y → eqL (allN x ++ r) (allN y ++ s) = (sameN x y && eqL r s)
  | .mk ty k n nm xs cs ts es, .mk ty2 k2 n2 nm2 xs2 cs2 ts2 es2, r, s, hx, hy => by
    unfold fitN at hx hy
    obtain ⟨f1, f2, f3, f4, f5⟩ := hx
    obtain ⟨g1, g2, g3, g4, g5⟩ := hy
    unfold allN
    rw [List.cons_append, List.cons_append, eqL]
    cases hl : labB (.mk ty k n nm xs cs ts es) (.mk ty2 k2 n2 nm2 xs2 cs2 ts2 es2) with
    | false =>
      cases hs : sameN (.mk ty k n nm xs cs ts es) (.mk ty2 k2 n2 nm2 xs2 cs2 ts2 es2) with
      | false => rfl
      | true => rw [lab_of_same hs] at hl; cases hl
    | true =>
      obtain ⟨rfl, rfl, rfl, e4, e5, e6, e7, e8⟩ := lab_parts hl
      have hsame : sameN (.mk ty k n nm xs cs ts es) (.mk ty k n nm2 xs2 cs2 ts2 es2) = (sameL xs xs2 && sameL cs cs2 && sameL ts ts2 && sameL es es2) := by
        unfold sameN
        simp [e4]
      rw [hsame, Bool.true_and]
      have hnil : sameL [] [] = true := by rw [sameL]
      cases ty with
      | E =>
        obtain ⟨rfl, rfl, rfl⟩ := f1
        obtain ⟨rfl, rfl, rfl⟩ := g1
        simp only
        rw [eq_L .E xs xs2 r s f2 g2 e6, hnil]
        simp
      | C =>
        obtain ⟨rfl, rfl, rfl⟩ := f1
        obtain ⟨rfl, rfl, rfl⟩ := g1
        simp only
        rw [List.append_assoc, List.append_assoc, eq_L .E xs xs2 _ _ f2 g2 e6, eq_L .C cs cs2 r s f3 g3 e5, hnil]
        simp [Bool.and_assoc]
      | S =>
        simp only
        rw [List.append_assoc, List.append_assoc, List.append_assoc, List.append_assoc, List.append_assoc, List.append_assoc, eq_L .C cs cs2 _ _ f3 g3 e5, eq_L .E xs xs2 _ _ f2 g2 e6, eq_L .S ts ts2 _ _ f4 g4 e7, eq_L .S es es2 r s f5 g5 e8]
        cases sameL xs xs2 <;> cases sameL cs cs2 <;> simp [Bool.and_assoc]
      | D =>
        obtain ⟨_, rfl, rfl, rfl, rfl⟩ := f1
        obtain ⟨_, rfl, rfl, rfl, rfl⟩ := g1
        simp only
        rw [hnil]
        simp
theorem eq_L : ∀ (ty : Ty) (l m r s : List Nd), fitL ty l → fitL ty m → l.length = m.length → eqL (allL l ++ r) (allL m ++ s) = (sameL l m && eqL r s)
  | _, [], [], r, s, _, _, _ => by unfold allL sameL; simp
  | ty, x :: l, y :: m, r, s, hl, hm, hlen => by
    unfold fitL at hl hm
    unfold allL sameL
    rw [List.append_assoc, List.append_assoc, eq_N x y _ _ hl.2.1 hm.2.1, eq_L ty l m r s hl.2.2 hm.2.2 (by simpa using hlen), Bool.and_assoc]
  | _, [], _ :: _, _, _, _, _, h => by simp at h
  | _, _ :: _, [], _, _, _, _, h => by simp at h
end
/-- Nodes of any types, all fit. -/
def fitA (l : List Nd) : Prop := ∀ x ∈ l, fitN x
theorem fitA_of {ty : Ty} : ∀ {l : List Nd}, fitL ty l → fitA l
  | [], _ => fun x hx => by cases hx
  | y :: r, h => fun x hx => by
    unfold fitL at h
    rcases List.mem_cons.1 hx with rfl | hx
    · exact h.2.1
    · exact fitA_of h.2.2 x hx
theorem allN_ne (x : Nd) : ∃ y r, allN x = y :: r := by
  obtain ⟨ty, k, n, nm, xs, cs, ts, es⟩ := x
  unfold allN
  exact ⟨_, _, rfl⟩
theorem eq_all : ∀ (l m : List Nd), fitA l → fitA m → eqL (allL l) (allL m) = sameL l m
  | [], [], _, _ => by unfold allL sameL eqL; rfl
  | [], y :: m, _, _ => by
    obtain ⟨z, r, hz⟩ := allN_ne y
    rw [allL, allL, hz]
    simp [eqL, sameL]
  | x :: l, [], _, _ => by
    obtain ⟨z, r, hz⟩ := allN_ne x
    rw [allL, allL, hz]
    simp [eqL, sameL]
  | x :: l, y :: m, hl, hm => by
    rw [allL, allL, sameL, eq_N x y _ _ (hl x (List.mem_cons_self ..)) (hm y (List.mem_cons_self ..)), eq_all l m (fun z hz => hl z (List.mem_cons_of_mem _ hz)) (fun z hz => hm z (List.mem_cons_of_mem _ hz))]
theorem same_ty {x y : Nd} (h : x.ty ≠ y.ty) : sameN x y = false := by
  obtain ⟨ty, k, n, nm, xs, cs, ts, es⟩ := x
  obtain ⟨ty2, k2, n2, nm2, xs2, cs2, ts2, es2⟩ := y
  unfold sameN
  have : decide (ty = ty2) = false := by simpa [Nd.ty] using h
  simp [this]
theorem ty_of {ty : Ty} : ∀ {l : List Nd}, fitL ty l → ∀ x ∈ l, x.ty = ty
  | [], _ => fun x hx => by cases hx
  | y :: r, h => fun x hx => by
    unfold fitL at h
    rcases List.mem_cons.1 hx with rfl | hx
    · exact h.1
    · exact ty_of h.2.2 x hx
theorem same_app : ∀ (d1 s1 d2 s2 : List Nd), (∀ x ∈ d1, x.ty = .D) → (∀ x ∈ d2, x.ty = .D) → (∀ x ∈ s1, x.ty = .S) → (∀ x ∈ s2, x.ty = .S) → sameL (d1 ++ s1) (d2 ++ s2) = (sameL d1 d2 && sameL s1 s2)
  | [], s1, [], s2, _, _, _, _ => by rw [List.nil_append, List.nil_append, show sameL [] [] = true by rw [sameL]]; rfl
  | x :: d1, s1, y :: d2, s2, h1, h2, h3, h4 => by
    rw [List.cons_append, List.cons_append, sameL, sameL, same_app d1 s1 d2 s2 (fun z hz => h1 z (List.mem_cons_of_mem _ hz)) (fun z hz => h2 z (List.mem_cons_of_mem _ hz)) h3 h4, Bool.and_assoc]
  | [], [], y :: d2, s2, _, _, _, _ => by simp [sameL]
  | [], z :: s1, y :: d2, s2, _, h2, h3, _ => by
    rw [List.nil_append, List.cons_append, sameL, same_ty (by rw [h3 z (List.mem_cons_self ..), h2 y (List.mem_cons_self ..)]; decide)]
    simp [sameL]
  | x :: d1, s1, [], [], _, _, _, _ => by simp [sameL]
  | x :: d1, s1, [], z :: s2, h1, _, _, h4 => by
    rw [List.nil_append, List.cons_append, sameL, same_ty (by rw [h4 z (List.mem_cons_self ..), h1 x (List.mem_cons_self ..)]; decide)]
    simp [sameL]
/-- What the project answers for two programs: both are gone through to their end, and they are the same. -/
theorem progT_list {ds ss : List Nd} (h : (progT ds ss).lim = 0) : (progT ds ss).l = allL (ds ++ ss) := by
  unfold progT at h ⊢
  obtain ⟨h1, e1⟩ := if_lim h
  rw [e1] at h ⊢
  have l1 := list_L ds 1 ⟨[], 0, 0⟩ h1
  have l2 := list_L ss 1 _ h
  rw [l2, l1, allL_app]
  rfl
end Go.Proofs.Ytofbocmbgadfnaa

/-
  The project's Equal of two programs (tree's): proved is that it answers whether both are gone through to their end and their nodes have the same labels, and that it turns nothing that lay.
-/
namespace Go.Proofs.Ytofbocmbgadfnaa
open Go Go.RowKit

theorem below_alloc {w wA : World} (h : Below w.heap.size w wA) (o : Obj) : Below w.heap.size w (wA.alloc o) := h.alloc h.size o
theorem below_drew {w wA : World} (h : Below w.heap.size w wA) : Below w.heap.size w wA.drew := h.drew
theorem below_next {w wA w1 : World} (h : Below w.heap.size w wA) (hb : Below wA.heap.size wA w1) : Below w.heap.size w w1 := h.trans (hb.mono h.size)
theorem below_set3 {w wA : World} {b : Nat} (hb : w.heap.size ≤ b) (h : Below w.heap.size w wA) (u0 u1 u2 : Value) : Below w.heap.size w (((wA.setCell ⟨b, 0, none⟩ u0).setCell ⟨b, 1, none⟩ u1).setCell ⟨b, 2, none⟩ u2) :=
  ((h.setCell (p := ⟨b, 0, none⟩) hb u0).setCell (p := ⟨b, 1, none⟩) hb u1).setCell (p := ⟨b, 2, none⟩) hb u2
theorem Blk.next {w w' : World} {b : Nat} {cs : Array Value} {t : TypeId} (h : Blk w b cs t) (hb : Below w.heap.size w w') : Blk w' b cs t := h.below hb h.lt
theorem blk_facts {w : World} {B : Nat} {v0 v1 v2 : Value} {t : TypeId} (h : Blk w B #[v0, v1, v2] t) : w.cell? ⟨B, 0, none⟩ = some v0 ∧ w.cell? ⟨B, 1, none⟩ = some v1 ∧ w.cell? ⟨B, 2, none⟩ = some v2 ∧ w.frozen? ⟨B, 0, none⟩ = false ∧ w.frozen? ⟨B, 1, none⟩ = false ∧ w.frozen? ⟨B, 2, none⟩ = false :=
  ⟨h.cell 0, h.cell 1, h.cell 2, h.free 0, h.free 1, h.free 2⟩
theorem blk_set3 {w : World} {b : Nat} {v0 v1 v2 : Value} {t : TypeId} (h : Blk w b #[v0, v1, v2] t) (a0 a1 a2 : Value) : Blk (((w.setCell ⟨b, 0, none⟩ a0).setCell ⟨b, 1, none⟩ a1).setCell ⟨b, 2, none⟩ a2) b #[a0, a1, a2] t := ((h.set 0 a0).set 1 a1).set 2 a2
theorem blk_other3 {w : World} {b b' : Nat} {cs : Array Value} {t : TypeId} (hne : b ≠ b') (h : Blk w b cs t) (a0 a1 a2 : Value) : Blk (((w.setCell ⟨b', 0, none⟩ a0).setCell ⟨b', 1, none⟩ a1).setCell ⟨b', 2, none⟩ a2) b cs t := ((h.other (a := ⟨b', 0, none⟩) hne a0).other (a := ⟨b', 1, none⟩) hne a1).other (a := ⟨b', 2, none⟩) hne a2
/-- A list of nodes lies at a, in none of the blocks bs. -/
def LS (W : World) (l : List Nd) (a : Option Addr) (bs : List Nat) : Prop := l.length = 0 ∨ ∃ b wA, a = some ⟨b, 0, none⟩ ∧ CellsAre wA W l b 0 ∧ (l.length ≠ 0 → b < W.heap.size) ∧ ∀ k ∈ bs, b ≠ k
theorem CellsAre.lt {w0 w : World} {l : List Nd} {b o : Nat} (h : CellsAre w0 w l b o) (hl : l.length ≠ 0) : b < w.heap.size := by
  obtain ⟨vs, h1, _⟩ := h 0 (by omega)
  exact World.block_lt_of_cell? w ⟨b, o + 0, none⟩ h1
theorem LS.of {wA W : World} {l : List Nd} {a : Option Addr} {b : Nat} {bs : List Nat} (h : l.length = 0 ∨ (a = some ⟨b, 0, none⟩ ∧ CellsAre wA W l b 0 ∧ wA.heap.size ≤ b)) (hk : ∀ k ∈ bs, k < wA.heap.size) : LS W l a bs :=
  h.imp id fun ⟨h1, h2, h3⟩ => ⟨b, wA, h1, h2, h2.lt, fun k hb => by have := hk k hb; omega⟩
theorem LS.below {W W' : World} {l : List Nd} {a : Option Addr} {bs : List Nat} (h : LS W l a bs) (hb : Below W.heap.size W W') : LS W' l a bs :=
  h.imp id fun ⟨b, wA, h1, h2, h3, h4⟩ => ⟨b, wA, h1, h2.keep hb, fun hl => Nat.lt_of_lt_of_le (h3 hl) hb.size, h4⟩
theorem LS.alloc {W : World} {l : List Nd} {a : Option Addr} {bs : List Nat} (h : LS W l a bs) (o : Obj) : LS (W.alloc o) l a (W.heap.size :: bs) := by
  have hb : Below W.heap.size W (W.alloc o) := (Below.refl _ W).alloc (Nat.le_refl _) o
  rcases h with h | ⟨b, wA, h1, h2, h3, h4⟩
  · exact .inl h
  · by_cases hl : l.length = 0
    · exact .inl hl
    · exact .inr ⟨b, wA, h1, h2.keep hb, fun hl => Nat.lt_of_lt_of_le (h3 hl) hb.size, List.forall_mem_cons.2 ⟨Nat.ne_of_lt (h3 hl), h4⟩⟩
theorem LS.set {W : World} {l : List Nd} {a : Option Addr} {bs : List Nat} (h : LS W l a bs) {b : Nat} (hb : b ∈ bs) (o : Nat) (u : Value) : LS (W.setCell ⟨b, o, none⟩ u) l a bs :=
  h.imp id fun ⟨b', wA, h1, h2, h3, h4⟩ => ⟨b', wA, h1, fun i hi => by
    obtain ⟨vs, h5, h6⟩ := h2 i hi
    exact ⟨vs, (World.cell?_of_block (w := W) (Below.heap_setCell W ⟨b, o, none⟩ u b' (h4 b hb))).trans h5, h6⟩, fun hl => by rw [World.size_setCell]; exact h3 hl, h4⟩
theorem LS.set3 {W : World} {l : List Nd} {a : Option Addr} {bs : List Nat} (h : LS W l a bs) {b : Nat} (hb : b ∈ bs) (u0 u1 u2 : Value) : LS (((W.setCell ⟨b, 0, none⟩ u0).setCell ⟨b, 1, none⟩ u1).setCell ⟨b, 2, none⟩ u2) l a bs := ((h.set hb 0 u0).set hb 1 u1).set hb 2 u2
/-- A list of nodes lies at a. -/
def LL (W : World) (l : List Nd) (a : Option Addr) : Prop := l.length = 0 ∨ ∃ b wA, a = some ⟨b, 0, none⟩ ∧ CellsAre wA W l b 0
theorem LS.list {W : World} {l : List Nd} {a : Option Addr} {bs : List Nat} (h : LS W l a bs) : LL W l a := h.imp id fun ⟨b, wA, h1, h2, _⟩ => ⟨b, wA, h1, h2⟩
theorem LL.keep {W W' : World} {l : List Nd} {a : Option Addr} (h : LL W l a) (hb : Below W.heap.size W W') : LL W' l a := h.imp id fun ⟨b, wA, h1, h2⟩ => ⟨b, wA, h1, h2.keep hb⟩

/-- What the project answers for two programs. -/
def equalP (d1 s1 d2 s2 : List Nd) : Bool := decide ((progT d1 s1).lim = 0) && decide ((progT d2 s2).lim = 0) && eqL (progT d1 s1).l (progT d2 s2).l

end Go.Proofs.Ytofbocmbgadfnaa

/-
  The document's Equal of two programs (gnomonref3's): proved is that it answers whether both can be walked and are the same, and that it turns nothing that lay.
-/
namespace Go.Proofs.Ytofbocmbgadfnaa
open Go Go.RowKit

/-- What the document answers for two programs. -/
def equalR (d1 s1 d2 s2 : List Nd) : Bool := ((progW d1 s1).bad == 0) && ((progW d2 s2).bad == 0) && sameL d1 d2 && sameL s1 s2
theorem progW_T (ds ss : List Nd) : (progW ds ss).bad = (progT ds ss).lim := by
  have h1 := match_L ds 1 ⟨0, 0, 0⟩ ⟨[], 0, 0⟩ ⟨rfl, rfl, rfl⟩ rfl
  have h2 := match_if (F := fun s => walkL ss 1 s) (fun s hs => walkL_bad ss 1 s hs) h1 (fun hz => match_L ss 1 _ _ h1 hz)
  exact h2.2.2
theorem fitA_app {l m : List Nd} (hl : fitA l) (hm : fitA m) : fitA (l ++ m) := fun x hx => (List.mem_append.1 hx).elim (hl x) (hm x)
/-- The document's answer is the project's. -/
theorem equal_same {d1 s1 d2 s2 : List Nd} (hd1 : fitL .D d1) (hs1 : fitL .S s1) (hd2 : fitL .D d2) (hs2 : fitL .S s2) : equalR d1 s1 d2 s2 = equalP d1 s1 d2 s2 := by
  unfold equalR equalP
  rw [progW_T, progW_T]
  by_cases z1 : (progT d1 s1).lim = 0
  · by_cases z2 : (progT d2 s2).lim = 0
    · rw [progT_list z1, progT_list z2, eq_all _ _ (fitA_app (fitA_of hd1) (fitA_of hs1)) (fitA_app (fitA_of hd2) (fitA_of hs2)), same_app d1 s1 d2 s2 (ty_of hd1) (ty_of hd2) (ty_of hs1) (ty_of hs2)]
      simp [z1, z2]
    · simp [z2]
  · simp [z1]
mutual
theorem sameN_comm : ∀ (x y : Nd), sameN x y = sameN y x
  | .mk ty k n nm xs cs ts es, .mk ty2 k2 n2 nm2 xs2 cs2 ts2 es2 => by
    unfold sameN
    rw [sameL_comm xs xs2, sameL_comm cs cs2, sameL_comm ts ts2, sameL_comm es es2, (BEq.comm : (k == k2) = (k2 == k)), (BEq.comm : (n == n2) = (n2 == n)), (BEq.comm : (nm.toList == nm2.toList) = (nm2.toList == nm.toList)), show decide (ty = ty2) = decide (ty2 = ty) from decide_eq_decide.2 eq_comm]
theorem sameL_comm : ∀ (l m : List Nd), sameL l m = sameL m l
  | [], [] => rfl
  | x :: l, y :: m => by unfold sameL; rw [sameN_comm x y, sameL_comm l m]
  | [], _ :: _ => by unfold sameL; rfl
  | _ :: _, [] => by unfold sameL; rfl
end
theorem equalR_comm (d1 s1 d2 s2 : List Nd) : equalR d1 s1 d2 s2 = equalR d2 s2 d1 s1 := by
  unfold equalR
  rw [sameL_comm d1 d2, sameL_comm s1 s2, Bool.and_comm ((progW d1 s1).bad == 0)]

theorem neq_decl (n n' : Int) (s s' : ByteArray) (w : World) :
    (binOp .neq 44 (.agg #[.string s, .int .i64 n]) (.agg #[.string s', .int .i64 n'])).run Try.prog w = .ok (.bool (!((s.toList == s'.toList) && (n == n')))) w := by
  have h5 : Try.prog.underlying 3 = some (.int .i64) := by kernel_rfl
  have h8 : Try.prog.underlying 9 = some .string := by kernel_rfl
  have hst : Try.prog.stoodInHeld 44 = false := by kernel_rfl
  have hft : Try.prog.underlying 44 = some (.struct (Try.prog.fieldsOf 44)) := by kernel_rfl
  have hfs : (Try.prog.fieldsOf 44).toList.map (fun f => (f.name, f.type, f.offset)) = [("Name", 9, 0), ("Size", 3, 1)] := by kernel_rfl
  simp only [binOp, Op.equal, Op.maxDepth, Sem.run_bind]
  rw [show (10000 : Nat) = 9999 + 1 from rfl, run_equalIn_struct _ _ _ _ _ hft hst]
  obtain ⟨fs, hfs0⟩ : ∃ fs, (Try.prog.fieldsOf 44).toList = fs := ⟨_, rfl⟩
  rw [hfs0] at hfs ⊢
  clear hfs0 hft hst
  obtain ⟨f0, fs, rfl, hf0, hfs⟩ := List.map_eq_cons_iff.1 hfs
  obtain ⟨f1, fs, rfl, hf1, hfs⟩ := List.map_eq_cons_iff.1 hfs
  obtain rfl := List.map_eq_nil_iff.1 hfs
  simp only [Prod.mk.injEq] at hf0 hf1
  obtain ⟨n0, t0, o0⟩ := hf0
  obtain ⟨n1, t1, o1⟩ := hf1
  have m0 : ("Name" : String) ≠ "_" := by decide
  have m1 : ("Size" : String) ≠ "_" := by decide
  have q0 : ∀ w, (part 9 #[Value.string s, .int .i64 n] 0).run Try.prog w = .ok (.string s) w := fun w => by simp [part, isAgg, run_underlying h8]
  have q1 : ∀ w, (part 3 #[Value.string s, .int .i64 n] 1).run Try.prog w = .ok (.int .i64 n) w := fun w => by simp [part, isAgg, run_underlying h5]
  have r0 : ∀ w, (part 9 #[Value.string s', .int .i64 n'] 0).run Try.prog w = .ok (.string s') w := fun w => by simp [part, isAgg, run_underlying h8]
  have r1 : ∀ w, (part 3 #[Value.string s', .int .i64 n'] 1).run Try.prog w = .ok (.int .i64 n') w := fun w => by simp [part, isAgg, run_underlying h5]
  have e0 : ∀ w, (Op.equalIn 9999 9 (.string s) (.string s')).run Try.prog w = .ok (s.toList == s'.toList) w := fun w => eq_strK h8 9998 s s' w
  have e1 : ∀ w, (Op.equalIn 9999 3 (.int .i64 n) (.int .i64 n')).run Try.prog w = .ok (n == n') w := fun w => eq_intK h5 9998 n n' w
  clear h5 h8
  simp only [Op.eqFields, n0, t0, o0, n1, t1, o1, m0, m1, ne_eq, not_false_eq_true, if_true, Sem.run_bind, q0, r0, e0, Result.andThen_ok]
  cases (s.toList == s'.toList) with
  | false => simp
  | true =>
    simp only [Bool.not_true, Bool.false_eq_true, if_false, Sem.run_bind, q1, r1, e1, Result.andThen_ok]
    cases (n == n') <;> simp
end Go.Proofs.Ytofbocmbgadfnaa

/-
  The document's Check and Size of a program (gnomonref3's): proved is what each answers, that Check's answer is the project's, and that neither turns anything that lay.
-/
namespace Go.Proofs.Ytofbocmbgadfnaa
open Go Go.RowKit

/-- What the document's Check makes of the declarations. -/
def okD (n : Int) : Bool := decide (0 ≤ n) && decide (n ≤ 2147483647)
def declF : Nd → Fm → Fm | .mk _ _ n nm _ _ _ _, f => nameF nm true ⟨f.ok && okD n, f.names⟩
def declL : List Nd → Fm → Fm
  | [], f => f
  | x :: r, f => declL r (declF x f)
theorem declL_app : ∀ (l m : List Nd) (f : Fm), declL (l ++ m) f = declL m (declL l f)
  | [], m, f => by rw [List.nil_append]; rfl
  | y :: r, m, f => by rw [List.cons_append, declL, declL]; exact declL_app r m _
theorem declL_take {l : List Nd} {i : Nat} (hi : i < l.length) (f : Fm) : declL (l.take (i + 1)) f = declF l[i] (declL (l.take i) f) := by
  rw [← List.take_append_getElem hi, declL_app]; rfl
/-- What the document's Check answers. -/
def docP (ds ss : List Nd) : Int := if (progW ds ss).bad ≠ 0 then (progW ds ss).bad else toldF (formL ss (declL ds ⟨true, true⟩))

set_option maxRecDepth 100000 in
set_option maxHeartbeats 8000000 in
theorem rcheck_any (ds ss : List Nd) (v0 v1 : Value) (w : World) (hd : SlIn w .D ds v0) (hs : SlIn w .S ss v1) :
    Calls Try.prog 19 #[.agg #[v0, v1]] w (fun e w' => e = .returned (.int .i64 (docP ds ss)) ∧ Below w.heap.size w w') := by
  have hb0 : Below w.heap.size w (w.alloc (.cells #[v0, v1] 25)) := (Below.refl _ w).alloc (Nat.le_refl _) _
  have hC := walked_any ds ss v0 v1 (w.alloc (.cells #[v0, v1] 25)) (hd.keep (keeps_below hb0)) (hs.keep (keeps_below hb0))
  unfold docP
  obtain ⟨Q, hQ⟩ : ∃ Q, progW ds ss = Q := ⟨_, rfl⟩
  rw [hQ] at hC ⊢
  clear hQ
  unfold Wk.cells at hC
  obtain ⟨a0, c0, rfl, hlc0, hcm1, hrow0⟩ := hd
  obtain ⟨a1, c1, rfl, hlc1, hcm2, hrow1⟩ := hs
  have HROW1 := Lib.hid hrow0; clear hrow0
  have HROW2 := Lib.hid hrow1; clear hrow1
  have HC := Lib.hid hC; clear hC
  have HBW := Lib.hid hb0; clear hb0
  by_cases hz : Q.bad = 0
  · rw [if_neg (by simpa using hz)]
    have hz2 : (Q.bad != 0) = false := by simpa using hz
    clear hz
    obtain ⟨R, hR⟩ : ∃ R, toldF (formL ss (declL ds ⟨true, true⟩)) = R := ⟨_, rfl⟩
    rw [hR]
    have HR := Lib.hid hR; clear hR
    go_enter Try.func19, Try.ntmps19
    go_upto_block 0 with (first | (go_at_call 29; (with_reducible refine HC.out.mono ?_); rintro e w1 ⟨rfl, hb1⟩) | fail)
    clear hz2
    have hbw1 : Below w.heap.size w w1 := HBW.out.trans (hb1.mono HBW.out.size)
    have hs1 : w.heap.size < w1.heap.size := by have := hb1.size; simp at this; omega
    obtain ⟨W1, hW1⟩ : ∃ W1, (w1.alloc (.cells #[.int .i64 Q.n, .int .i64 Q.dep, .int .i64 Q.bad] 75)).alloc (.cells #[.bool true, .bool true] 78) = W1 := ⟨_, rfl⟩
    have hb : Below w.heap.size w W1 := by
      rw [← hW1]
      exact (hbw1.alloc hbw1.size _).alloc (by have := hbw1.size; simp; omega) _
    have hP1 : Blk W1 w.heap.size #[.slice a0 ds.length c0, .slice a1 ss.length c1] 25 := by
      rw [← hW1]
      have h := (Blk.new w #[.slice a0 ds.length c0, .slice a1 ss.length c1] 25).below hb1 (by simp)
      exact (h.alloc _).alloc _
    obtain ⟨B, hB⟩ : ∃ B, w1.heap.size + 1 = B := ⟨_, rfl⟩
    have hB1 : Blk W1 B (Fm.cells ⟨true, true⟩) 78 := by
      rw [← hW1, ← hB]
      have h := Blk.new (w1.alloc (.cells #[.int .i64 Q.n, .int .i64 Q.dep, .int .i64 Q.bad] 75)) #[.bool true, .bool true] 78
      rw [World.size_alloc] at h
      exact h
    rw [hB, hW1]
    have hne : w.heap.size ≠ B := by omega
    have hB0 : w.heap.size ≤ B := by omega
    have hb1' := Lib.hid hb; clear hb hb1 hbw1 hs1 hW1 hB HC HBW
    have HB1 := Lib.hid hB1; clear hB1
    have HX1 := Lib.hid hP1; clear hP1
    have HO1 := Lib.hid (Only.refl B W1)
    go_cut [5] (fun _ wx => Blk wx B (declL ds ⟨true, true⟩).cells 78 ∧ Blk wx w.heap.size #[.slice a0 ds.length c0, .slice a1 ss.length c1] 25 ∧ Only B W1 wx)
    case first =>
      go_wp2_with fail
      go_loopw [5] (fun x wr => ∃ i : Nat, x = .int .i64 i ∧ i ≤ ds.length ∧ Blk wr B (declL (ds.take i) ⟨true, true⟩).cells 78 ∧ Blk wr w.heap.size #[.slice a0 ds.length c0, .slice a1 ss.length c1] 25 ∧ Only B W1 wr) (fun x _ => ds.length - (intOf x).toNat)
      case atStart => exact ⟨0, rfl, by omega, by rw [List.take_zero, declL]; exact HB1.out, HX1.out, HO1.out⟩
      case round =>
        obtain ⟨i, rfl, hi, hBr, hXr, hOr⟩ := hrel
        clear HB1 HX1 HO1
        have e3 : wr.cell? ⟨w.heap.size, 0, none⟩ = some (.slice a0 ds.length c0) := hXr.cell 0
        have htk := fun h => declL_take (l := ds) (i := i) h ⟨true, true⟩
        have HX := Lib.hid hXr; clear hXr
        have HO := Lib.hid hOr; clear hOr
        by_cases hlt2 : i < ds.length
        · have hbi : (i : Int) + 1 ≤ 9223372036854775807 := by unfold maxLen at hcm1; omega
          have htk2 := htk hlt2
          clear htk
          obtain ⟨S, hS⟩ : ∃ S, declL (ds.take i) ⟨true, true⟩ = S := ⟨_, rfl⟩
          rw [hS] at hBr htk2
          clear hS
          have hxl : ¬ ds.length = 0 := by omega
          obtain ⟨b, o, rfl, hrow⟩ := HROW1.out.resolve_left hxl
          have hold : Below w.heap.size w wr := hb1'.out.trans (HO.out.old (by omega) hb1'.out.size)
          obtain ⟨hty, u0, u1, m0, m1, hnd⟩ := SlIn.item2 rfl hrow i hlt2
          have hbl : b < w.heap.size := World.block_lt_of_cell? w ⟨b, _, none⟩ m0
          have kk := keeps_below hold
          have k0 := kk _ _ _ m0
          have k1 := kk _ _ _ m1
          obtain ⟨X, hX⟩ : ∃ X, ds[i] = X := ⟨_, rfl⟩
          rw [hX] at hnd hty htk2
          clear hX m0 m1 kk hold hrow
          obtain ⟨ty, k, n, nm, xs, cs, ts, es⟩ := X
          simp only [Nd.ty] at hty
          subst hty
          unfold NdIn at hnd
          obtain ⟨hz, -, -, hnm, vx, vc, vt, ve, hvs, -⟩ := hnd
          simp only [lay, List.cons.injEq, and_true] at hvs
          obtain ⟨rfl, rfl⟩ := hvs
          clear hz
          simp only [declF] at htk2
          obtain ⟨ok, names⟩ := S
          have HTK := Lib.hid htk2; clear htk2
          have hb0 : wr.cell? ⟨B, 0, none⟩ = some (.bool ok) := hBr.cell 0
          have hf0 := hBr.free 0
          have HBr := Lib.hid hBr; clear hBr
          have HNM := Lib.hid hnm; clear hnm
          have hnb : b ≠ B := by omega
          go_upto_region 8 with fail
          go_cut [42] (fun _ wx => Blk wx B (Fm.cells ⟨ok && okD n, names⟩) 78 ∧ Blk wx w.heap.size #[.slice (some ⟨b, o, none⟩) ds.length c0, .slice a1 ss.length c1] 25 ∧ Only B W1 wx)
          case first =>
            cases ok with
            | false =>
              go_wp2_with fail
              go_meet
              exact ⟨by rw [Bool.false_and]; exact HBr.out.set 0 (.bool false), HX.out.only ((Only.refl B _).setCell (by rfl) _) hne, HO.out.setCell (by rfl) _⟩
            | true =>
            cases h1 : decide (0 ≤ n) with
            | false =>
              have e : okD n = false := by unfold okD; rw [h1]; rfl
              have E := Lib.hid e; clear e
              go_wp2_with fail
              go_meet
              exact ⟨by rw [E.out]; exact HBr.out.set 0 (.bool false), HX.out.only ((Only.refl B _).setCell (by rfl) _) hne, HO.out.setCell (by rfl) _⟩
            | true =>
              cases h2 : decide (n ≤ 2147483647) with
              | false =>
                have e : okD n = false := by unfold okD; rw [h1, h2]; rfl
                have E := Lib.hid e; clear e
                go_wp2_with fail
                go_meet
                exact ⟨by rw [E.out]; exact HBr.out.set 0 (.bool false), HX.out.only ((Only.refl B _).setCell (by rfl) _) hne, HO.out.setCell (by rfl) _⟩
              | true =>
                have e : okD n = true := by unfold okD; rw [h1, h2]; rfl
                have E := Lib.hid e; clear e
                go_wp2_with fail
                go_meet
                exact ⟨by rw [E.out]; exact HBr.out.set 0 (.bool true), HX.out.only ((Only.refl B _).setCell (by rfl) _) hne, HO.out.setCell (by rfl) _⟩
          case rest =>
            obtain ⟨hB2, hX2, hO2⟩ := hcut
            have k0 : wc.cell? ⟨b, o + i * 2, none⟩ = some (.string nm) := by
              have h := (HO.out.block b (by have := hb1'.out.size; omega) hnb)
              have h2 := (hO2.block b (by have := hb1'.out.size; omega) hnb)
              exact (World.cell?_of_block (a := ⟨b, o + i * 2, none⟩) (h2.trans h.symm)).trans k0
            have e3 : wc.cell? ⟨w.heap.size, 0, none⟩ = some (.slice (some ⟨b, o, none⟩) ds.length c0) := hX2.cell 0
            have HC := Lib.hid (fname_any nm true ⟨ok && okD n, names⟩ B wc HNM.out hB2)
            clear k1 hb0 hf0 HBr HX HO
            have HX := Lib.hid hX2; clear hX2
            have HO := Lib.hid hO2; clear hO2
            clear hB2
            go_wp2_with fail
            refine HC.out.mono ?_
            rintro e w2 ⟨rfl, hB3, hO3⟩
            rw [← HTK.out] at hB3
            have hX3 := HX.out.only hO3 hne
            have hO4 := HO.out.trans hO3
            have HB3 := Lib.hid hB3; clear hB3
            have HX3 := Lib.hid hX3; clear hX3
            clear hO3
            have HO4 := Lib.hid hO4; clear hO4
            go_wp2_with fail
            go_roundw
            case rel => exact ⟨i + 1, by go_num, by omega, HB3.out, HX3.out, HO4.out⟩
            case measure => simp [intOf]; omega
        · obtain rfl : i = ds.length := by omega
          rw [List.take_length] at hBr
          have HBr := Lib.hid hBr; clear hBr
          clear htk
          go_wp2_with fail
          go_meet
          exact ⟨HBr.out, HX.out, HO.out⟩
    case rest =>
      obtain ⟨hB2, hX2, hO2⟩ := hcut
      have HB2 := Lib.hid hB2; clear hB2
      have HX2 := Lib.hid hX2; clear hX2
      have HO2 := Lib.hid hO2; clear hO2
      clear HB1 HX1 HO1 HROW1
      obtain ⟨S1, hS1⟩ : ∃ S, declL ds ⟨true, true⟩ = S := ⟨_, rfl⟩
      rw [hS1] at HB2 HR
      clear hS1
      go_upto_block 2 with fail
      go_cut [6] (fun _ wx => Blk wx B (formL ss S1).cells 78 ∧ Blk wx w.heap.size #[.slice a0 ds.length c0, .slice a1 ss.length c1] 25 ∧ Only B W1 wx)
      case first =>
        go_wp2_with fail
        go_loopw [6] (fun x wr => ∃ i : Nat, x = .int .i64 i ∧ i ≤ ss.length ∧ Blk wr B (formL (ss.take i) S1).cells 78 ∧ Blk wr w.heap.size #[.slice a0 ds.length c0, .slice a1 ss.length c1] 25 ∧ Only B W1 wr) (fun x _ => ss.length - (intOf x).toNat)
        case atStart => exact ⟨0, rfl, by omega, by rw [List.take_zero, formL]; exact HB2.out, HX2.out, HO2.out⟩
        case round =>
          obtain ⟨i, rfl, hi, hBr, hXr, hOr⟩ := hrel
          clear HB2 HX2 HO2
          have e3 : wr.cell? ⟨w.heap.size, 1, none⟩ = some (.slice a1 ss.length c1) := hXr.cell 1
          have b2 : wr.cell? ⟨B, 0, none⟩ = some (.bool (formL (ss.take i) S1).ok) := hBr.cell 0
          have hstop := formL_stop (l := ss) (i := i) (f := S1)
          have htk := fun h => formL_take (l := ss) (i := i) h S1
          have HX := Lib.hid hXr; clear hXr
          have HO := Lib.hid hOr; clear hOr
          by_cases hlt2 : i < ss.length
          · have hbi : (i : Int) + 1 ≤ 9223372036854775807 := by unfold maxLen at hcm2; omega
            obtain ⟨S, hS⟩ : ∃ S, formL (ss.take i) S1 = S := ⟨_, rfl⟩
            rw [hS] at hBr b2 hstop htk
            clear hS
            have HBr := Lib.hid hBr; clear hBr
            have hxl : ¬ ss.length = 0 := by omega
            obtain ⟨b, o, rfl, hrow⟩ := HROW2.out.resolve_left hxl
            cases hb : S.ok with
            | true =>
              rw [hb] at b2
              have hold : Below w.heap.size w wr := hb1'.out.trans (HO.out.old (by omega) hb1'.out.size)
              obtain ⟨hty, u0, u1, u2, u3, u4, u5, m0, m1, m2, m3, m4, m5, hnd⟩ := SlIn.item6 rfl hrow i hlt2
              have kk := keeps_below hold
              have k0 := kk _ _ _ m0
              have k1 := kk _ _ _ m1
              have k2 := kk _ _ _ m2
              have k3 := kk _ _ _ m3
              have k4 := kk _ _ _ m4
              have k5 := kk _ _ _ m5
              have HC := Lib.hid (fstmt_any w B hB0 _ ss[i] u0 u1 u2 u3 u4 u5 S wr (Nat.le_refl _) hty hnd hold HBr.out)
              have HTK := Lib.hid (htk hlt2 hb)
              clear m0 m1 m2 m3 m4 m5 hnd hty hold kk hstop htk hrow hb
              go_wp2_with fail
              refine HC.out.mono ?_
              rintro e w2 ⟨rfl, hB2, hO2⟩
              rw [← HTK.out] at hB2
              have hX2 := HX.out.only hO2 hne
              have hO3 := HO.out.trans hO2
              have HB2 := Lib.hid hB2; clear hB2
              have HX2 := Lib.hid hX2; clear hX2
              clear hO2
              have HO3 := Lib.hid hO3; clear hO3
              go_wp2_with fail
              go_roundw
              case rel => exact ⟨i + 1, by go_num, by omega, HB2.out, HX2.out, HO3.out⟩
              case measure => simp [intOf]; omega
            | false =>
              rw [hb] at b2
              have HST := Lib.hid (hstop hb)
              clear hstop htk hb
              go_wp2_with fail
              go_meet
              exact ⟨by rw [HST.out]; exact HBr.out, HX.out, HO.out⟩
          · obtain rfl : i = ss.length := by omega
            rw [List.take_length] at hBr
            have HBr := Lib.hid hBr; clear hBr
            clear hstop htk b2
            go_wp2_with fail
            go_meet
            exact ⟨HBr.out, HX.out, HO.out⟩
      case rest =>
        obtain ⟨hB3, hX3, hO3⟩ := hcut
        clear HB2 HX2 HO2 HROW2 hX3
        obtain ⟨G, hG⟩ : ∃ G, formL ss S1 = G := ⟨_, rfl⟩
        rw [hG] at hB3 HR
        clear hG
        have l0 : wc.cell? ⟨B, 0, none⟩ = some (.bool G.ok) := hB3.cell 0
        have l1 : wc.cell? ⟨B, 1, none⟩ = some (.bool G.names) := hB3.cell 1
        have HO3 := Lib.hid hO3; clear hO3 hB3
        have HT := Lib.hid (told_any G wc)
        rw [HR.out] at HT
        go_wp2_with (first | (go_at_call 32; (with_reducible refine HT.out.mono ?_); rintro e w3 ⟨rfl, hb3⟩) | fail)
        go_ret
        have hb := hb1'.out.trans (HO3.out.old (by omega) hb1'.out.size)
        exact ⟨rfl, hb.trans (hb3.mono hb.size)⟩
  · rw [if_pos (by simpa using hz)]
    have hz2 : (Q.bad != 0) = true := by simpa using hz
    clear hz
    go_enter Try.func19, Try.ntmps19
    go_wp2_with (first | (go_at_call 29; (with_reducible refine HC.out.mono ?_); rintro e w1 ⟨rfl, hb1⟩) | fail)
    go_ret
    have hbw1 : Below w.heap.size w w1 := HBW.out.trans (hb1.mono HBW.out.size)
    exact ⟨rfl, hbw1.alloc hbw1.size _⟩

theorem formed_D : ∀ (ds : List Nd) (f : Fm), fitL .D ds → Formed (allL ds) f (declL ds f)
  | [], f, _ => by rw [allL, declL]; exact Formed.nil f
  | x :: r, f, h => by
    unfold fitL at h
    obtain ⟨hty, hx, hr⟩ := h
    rw [allL, declL]
    refine Formed.app ?_ (formed_D r _ hr)
    obtain ⟨ty, k, n, nm, xs, cs, ts, es⟩ := x
    simp only [Nd.ty] at hty
    subst hty
    unfold fitN at hx
    obtain ⟨⟨rfl, rfl, rfl, rfl, rfl⟩, -⟩ := hx
    have e : allN (.mk .D 0 n nm [] [] [] []) = [.mk .D 0 n nm [] [] [] []] := by
      unfold allN
      simp
    rw [e]
    refine Formed.one ?_ ?_
    · simp only [declF, nameF, if_true, wellN, wellD, okD]
      rw [Bool.not_or]
      congr 2
      · simp [← decide_not]
      · simp [← decide_not]
    · simp [declF, nameF, named, namelessB, mustN, ownNm]
theorem docP_same {ds ss : List Nd} (hd : fitL .D ds) (hs : ∀ y ∈ allL ss, y.ty ≠ .D) : docP ds ss = faultT (progT ds ss) := by
  unfold docP faultT
  rw [progW_T]
  by_cases hz : (progT ds ss).lim = 0
  · rw [if_neg (by simpa using hz), if_neg (by simpa using hz), progT_list hz, allL_app]
    obtain ⟨h1, h2⟩ := (formed_D ds ⟨true, true⟩ hd).app (formed_L ss (declL ds ⟨true, true⟩) hs)
    simp only [Bool.true_and] at h1 h2
    have ea : (allL ds ++ allL ss).any (fun x => !wellN x) = !(allL ds ++ allL ss).all wellN := by rw [List.not_all_eq_any_not]
    have eb : (allL ds ++ allL ss).any namelessB = !(allL ds ++ allL ss).all named := by
      rw [List.not_all_eq_any_not]
      congr 1
      funext y
      simp [named]
    rw [ea, eb]
    unfold toldF
    rw [h1] at h2 ⊢
    cases hw : (allL ds ++ allL ss).all wellN with
    | false => rfl
    | true =>
      rw [h2 hw]
      cases (allL ds ++ allL ss).all named <;> rfl
  · rw [if_pos (by simpa using hz), if_pos (by simpa using hz)]
theorem noD_list {w : World} {l : List Nd} {v : Value} (h : SlIn w .S l v) : ∀ y ∈ allL l, y.ty ≠ .D := noD_sl (ty := .S) (fun b o => noD_L w .S l (by decide) b o) h
theorem progW_match (ds ss : List Nd) : Match (progW ds ss) (progT ds ss) :=
  match_if (F := fun s => walkL ss 1 s) (fun s hs => walkL_bad ss 1 s hs) (match_L ds 1 ⟨0, 0, 0⟩ ⟨[], 0, 0⟩ ⟨rfl, rfl, rfl⟩ rfl) (fun hz => match_L ss 1 _ _ (match_L ds 1 ⟨0, 0, 0⟩ ⟨[], 0, 0⟩ ⟨rfl, rfl, rfl⟩ rfl) hz)

end Go.Proofs.Ytofbocmbgadfnaa

/-
  Two lists of texts held against one another (gnomonhelp's Texts): proved is that it answers whether they are the same; and plain: the names of both sides are the same.
-/
namespace Go.Proofs.Ytofbocmbgadfnaa
open Go Go.RowKit

/-- Two lists of texts are the same. -/
def sameT : List ByteArray → List ByteArray → Bool
  | [], [] => true
  | x :: r, y :: s => (x.toList == y.toList) && sameT r s
  | [], _ :: _ => false
  | _ :: _, [] => false
theorem sameT_refl : ∀ l : List ByteArray, sameT l l = true
  | [] => rfl
  | x :: r => by simp [sameT, sameT_refl r]
theorem sameT_len : ∀ {l m : List ByteArray}, sameT l m = true → l.length = m.length
  | [], [], _ => rfl
  | x :: r, y :: s, h => by
    simp only [sameT, Bool.and_eq_true] at h
    simpa using sameT_len h.2
theorem sameT_drop {l m : List ByteArray} {i : Nat} (h : i < l.length) (h2 : i < m.length) : sameT (l.drop i) (m.drop i) = ((l[i].toList == m[i].toList) && sameT (l.drop (i + 1)) (m.drop (i + 1))) := by
  rw [List.drop_eq_getElem_cons h, List.drop_eq_getElem_cons h2, sameT]
theorem sameT_end {l m : List ByteArray} (h : l.length = m.length) : sameT (l.drop l.length) (m.drop l.length) = true := by
  rw [List.drop_length, h, List.drop_length, sameT]
/-- A list of texts lies at a slice. -/
def StrsIn (w : World) (l : List ByteArray) (v : Value) : Prop := ∃ a c, v = .slice a l.length c ∧ l.length ≤ c ∧ (l.length = 0 ∨ ∃ g o, a = some ⟨g, o, none⟩ ∧ ∀ i (hi : i < l.length), w.cell? ⟨g, o + i, none⟩ = some (.string l[i]))
theorem strs_own {w : World} {base : Nat} {v : Value} {l : List ByteArray} (h : w.ownsRow base 9 1 v l.length (cellsT l)) : StrsIn w l v := by
  obtain ⟨a, c, h1, h2, h3⟩ := own_str h
  exact ⟨a, c, h1, h2, h3.imp id fun ⟨g, hg, hc⟩ => ⟨g, 0, hg, fun i hi => by rw [Nat.zero_add]; exact hc i hi⟩⟩
theorem StrsIn.keep {w w' : World} {l : List ByteArray} {v : Value} (h : StrsIn w l v) (hb : Below w.heap.size w w') : StrsIn w' l v := by
  obtain ⟨a, c, h1, h2, h3⟩ := h
  exact ⟨a, c, h1, h2, h3.imp id fun ⟨g, o, hg, hc⟩ => ⟨g, o, hg, fun i hi => (hb.cell (p := ⟨g, o + i, none⟩) (World.block_lt_of_cell? w ⟨g, o + i, none⟩ (hc i hi))).trans (hc i hi)⟩⟩

set_option maxRecDepth 100000 in
set_option maxHeartbeats 4000000 in
theorem texts_any (l m : List ByteArray) (v u : Value) (w : World) (hv : StrsIn w l v) (hu : StrsIn w m u) (hll : l.length ≤ 1099511627776) :
    Calls Try.prog 11 #[v, u] w (fun e w' => e = .returned (.bool (sameT l m)) ∧ Below w.heap.size w w') := by
  obtain ⟨a, c, rfl, hlc, hc1⟩ := hv
  obtain ⟨a', c', rfl, hlc', hc2⟩ := hu
  have HC1 := Lib.hid hc1; clear hc1
  have HC2 := Lib.hid hc2; clear hc2
  obtain ⟨Q, hQ⟩ : ∃ Q, sameT l m = Q := ⟨_, rfl⟩
  rw [hQ]
  cases hne : ((l.length : Int) != (m.length : Int)) with
  | true =>
    have e : Q = false := by
      rw [← hQ]
      cases hs : sameT l m with
      | false => rfl
      | true =>
        have := sameT_len hs
        simp [this] at hne
    clear hQ HC1 HC2
    subst e
    go_enter Try.func11, Try.ntmps11
    go_wp2_with fail
    go_ret
    exact ⟨rfl, Below.refl _ _⟩
  | false =>
  have HLEN := Lib.hid (show l.length = m.length by rw [bne, Bool.not_eq_false', beq_iff_eq] at hne; omega)
  have HQ := Lib.hid hQ.symm; clear hQ
  go_enter Try.func11, Try.ntmps11
  go_wp2_with fail
  go_loopw [5] (fun x wr => ∃ i : Nat, x = .int .i64 i ∧ i ≤ l.length ∧ Hid (Q = sameT (l.drop i) (m.drop i)) ∧ Below w.heap.size w wr) (fun x _ => l.length - (intOf x).toNat)
  case atStart => exact ⟨0, rfl, by omega, HQ, Below.refl _ _⟩
  case round =>
    obtain ⟨i, rfl, hi, heq, hbr⟩ := hrel
    by_cases hlt : i < l.length
    · have hlt2 : i < m.length := by have := HLEN.out; omega
      have hbi : (i : Int) + 1 ≤ 9223372036854775807 := by omega
      have hxl : ¬ l.length = 0 := by omega
      have hxl2 : ¬ m.length = 0 := by omega
      obtain ⟨g, o, rfl, hcell⟩ := HC1.out.resolve_left hxl
      obtain ⟨g', o', rfl, hcell'⟩ := HC2.out.resolve_left hxl2
      have m0 := hcell i hlt
      have m1 := hcell' i hlt2
      have k0 := (hbr.cell (p := ⟨g, o + i, none⟩) (World.block_lt_of_cell? w ⟨g, o + i, none⟩ m0)).trans m0
      have k1 := (hbr.cell (p := ⟨g', o' + i, none⟩) (World.block_lt_of_cell? w ⟨g', o' + i, none⟩ m1)).trans m1
      have HD := heq.out.trans (sameT_drop hlt hlt2)
      obtain ⟨X, hX⟩ : ∃ X, l[i] = X := ⟨_, rfl⟩
      obtain ⟨Y, hY⟩ : ∃ Y, m[i] = Y := ⟨_, rfl⟩
      rw [hX] at k0 HD
      rw [hY] at k1 HD
      clear hX hY hcell hcell' m0 m1 heq HQ
      have HBR := Lib.hid hbr; clear hbr
      have HDD := Lib.hid HD; clear HD
      obtain ⟨S, hS⟩ : ∃ S, (X.toList != Y.toList) = S := ⟨_, rfl⟩
      have HS := Lib.hid hS; clear hS
      go_upto_region 6 with fail
      go_cut [25] (fun s wx => s = .bool S ∧ Below w.heap.size w wx)
      case first =>
        go_region
        go_wp2_with fail
        go_meet
        exact ⟨by first | rfl | (rw [← HS.out]; rfl), HBR.out.drew⟩
      case rest =>
        obtain ⟨rfl, hb⟩ := hcut
        clear k0 k1 HBR
        cases S with
        | true =>
          have h1 : (X.toList == Y.toList) = false := by have := HS.out; rw [bne, Bool.not_eq_true'] at this; exact this
          have e : Q = false := by rw [HDD.out, h1]; rfl
          clear HDD HS h1
          subst e
          go_wp2_with fail
          go_ret
          exact ⟨rfl, hb⟩
        | false =>
          have h1 : (X.toList == Y.toList) = true := by have := HS.out; rw [bne, Bool.not_eq_false'] at this; exact this
          have e : Q = sameT (l.drop (i + 1)) (m.drop (i + 1)) := by rw [HDD.out, h1]; rfl
          have HE2 := Lib.hid e; clear e HDD HS h1
          go_wp2_with fail
          go_roundw
          case rel => exact ⟨i + 1, by go_num, by omega, HE2, hb⟩
          case measure => simp [intOf]; omega
    · obtain rfl : i = l.length := by omega
      have e : Q = true := heq.out.trans (sameT_end HLEN.out)
      clear heq HQ
      subst e
      go_wp2_with fail
      go_ret
      exact ⟨rfl, hbr⟩

/-! ### plain -/
theorem nmsOf_cons (x : Nd) (l : List Nd) : nmsOf (x :: l) = (if mustN x then [ownNm x] else []) ++ nmsOf l := by
  unfold nmsOf
  cases h : mustN x <;> simp [h]
theorem headU_fst (nm : ByteArray) (a b : Bool) : (headU nm a b).map Prod.fst = if (a || b) then [nm] else [] := by
  unfold headU
  split <;> simp_all
mutual
theorem nms_N : ∀ (x : Nd), (∀ y ∈ allN x, y.ty ≠ .D) → nmsOf (allN x) = (usesN x).map Prod.fst
  | .mk ty k n nm xs cs ts es, h => by
    cases ty with
    | E =>
      unfold allN at h ⊢
      have hx := nms_L xs (fun y hy => h y (by simp [hy]))
      unfold usesN
      simp only [nmsOf_cons, List.map_append, headU_fst, hx]
      simp [mustN, ownNm]
    | C =>
      unfold allN at h ⊢
      have hx := nms_L xs (fun y hy => h y (by simp [hy]))
      have hc := nms_L cs (fun y hy => h y (by simp [hy]))
      unfold usesN
      simp only [nmsOf_cons, nmsOf_app, List.map_append, hx, hc]
      simp [mustN]
    | S =>
      unfold allN at h ⊢
      have hx := nms_L xs (fun y hy => h y (by simp [hy]))
      have hc := nms_L cs (fun y hy => h y (by simp [hy]))
      have ht := nms_L ts (fun y hy => h y (by simp [hy]))
      have he := nms_L es (fun y hy => h y (by simp [hy]))
      unfold usesN
      simp only [nmsOf_cons, nmsOf_app, List.map_append, headU_fst, hx, hc, ht, he]
      simp [mustN, ownNm]
    | D =>
      unfold allN at h
      exact absurd rfl (h _ (List.mem_cons_self ..))
theorem nms_L : ∀ (l : List Nd), (∀ y ∈ allL l, y.ty ≠ .D) → nmsOf (allL l) = (usesL l).map Prod.fst
  | [], _ => by unfold allL usesL; rfl
  | x :: r, h => by
    unfold allL at h ⊢
    unfold usesL
    rw [nmsOf_app, List.map_append, nms_N x (fun y hy => h y (by simp [hy])), nms_L r (fun y hy => h y (by simp [hy]))]
end
theorem nms_D : ∀ (ds : List Nd), fitL .D ds → nmsOf (allL ds) = ds.map ownNm
  | [], _ => by unfold allL; rfl
  | x :: r, h => by
    unfold fitL at h
    obtain ⟨hty, hx, hr⟩ := h
    obtain ⟨ty, k, n, nm, xs, cs, ts, es⟩ := x
    simp only [Nd.ty] at hty
    subst hty
    unfold fitN at hx
    obtain ⟨⟨rfl, rfl, rfl, rfl, rfl⟩, -⟩ := hx
    unfold allL
    rw [nmsOf_app, nms_D r hr, List.map_cons]
    have e : allN (.mk .D 0 n nm [] [] [] []) = [.mk .D 0 n nm [] [] [] []] := by
      unfold allN
      simp
    rw [e, nmsOf_cons]
    simp [mustN, ownNm, nmsOf]
theorem names_same {ds ss : List Nd} (hd : fitL .D ds) (hs : ∀ y ∈ allL ss, y.ty ≠ .D) (hz : (progT ds ss).lim = 0) : namesP (progT ds ss).l = namesR ds ss := by
  rw [progT_list hz, allL_app]
  unfold namesP namesR
  rw [nmsOf_app, nms_D ds hd, nms_L ss hs, List.foldl_append]
theorem names_few {ds ss : List Nd} (hd : fitL .D ds) (hs : ∀ y ∈ allL ss, y.ty ≠ .D) (hz : (progT ds ss).lim = 0) : ds.length + (usesL ss).length ≤ 4096 := by
  have h := (progT_ok ds ss).1
  rw [progT_list hz, allL_app, List.length_append] at h
  have h1 := congrArg List.length (nms_D ds hd)
  have h2 := congrArg List.length (nms_L ss hs)
  have h3 : ∀ l, (nmsOf l).length ≤ l.length := fun l => by unfold nmsOf; rw [List.length_map]; exact List.length_filter_le ..
  have h4 := h3 (allL ds)
  have h5 := h3 (allL ss)
  simp only [List.length_map] at h1 h2
  omega
theorem fault_lim {t : Tr} (h : faultT t = 0) : t.lim = 0 := by
  unfold faultT at h
  split at h
  · exact h
  · rename_i hn
    simpa using hn
end Go.Proofs.Ytofbocmbgadfnaa

/-
  The project's names in expressions (well's inExprs): proved is that they are put behind the list that is handed on.
-/
namespace Go.Proofs.Ytofbocmbgadfnaa
open Go Go.RowKit

def kindB (b : Bool) : Int := if b then 2 else 1
def cellsK (l : List Us) : List Value := l.flatMap fun u => [.string u.1, .int .i64 (kindB u.2)]
theorem cellsK_snoc (l : List Us) (s : ByteArray) (b : Bool) : cellsK (l ++ [(s, b)]) = cellsK l ++ [.string s, .int .i64 (kindB b)] := by simp [cellsK]
theorem cellsK_len (l : List Us) : (cellsK l).length = l.length * 2 := by induction l with
  | nil => rfl
  | cons x r ih => simp [cellsK] at ih ⊢; omega
theorem info_wuse : (Try.prog.info? 73).map (fun i => (i.zero, i.size, i.bytes)) = some (some (.agg #[.string ⟨#[]⟩, .int .i64 0]), 2, 24) := by kernel_rfl
theorem kuse_one (nm : ByteArray) (k : Int) : ∀ u ∈ ([.string nm, .int .i64 k] : List Value), u.oneCell' = true := by
  intro u hu
  simp at hu
  rcases hu with rfl | rfl <;> rfl
theorem news_kuse (w : World) (nm : ByteArray) (k : Int) (c : Nat) (hc : w.heap.size = c) : ∀ j u, ([.string nm, .int .i64 k] : List Value)[j]? = some u → (w.alloc (.cells #[.string nm, .int .i64 k] 73)).cell? ((⟨c, 0, none⟩ : Addr).add j) = some u := by
  rw [← hc]
  exact World.news_of_block (cs := #[.string nm, .int .i64 k]) (t := 73) (fr := (0, 0)) (heap_alloc_new w _)
/-- A list of used names is handed on (the project's). -/
def KUsedTo (w : World) (base : Nat) (v : Value) (L : List Us) : Ending → World → Prop := fun e w' => ∃ v', e = .returned v' ∧ w'.ownsRow base 73 2 v' L.length (cellsK L) ∧ Gr v.ownBlock v'.ownBlock w w'

set_option maxRecDepth 100000 in
set_option maxHeartbeats 16000000 in
theorem inExprs_any (w0 : World) (base : Nat) (hB0 : w0.heap.size ≤ base) : ∀ (N : Nat) (l : List Nd) (vl : Value) (L : List Us) (v : Value) (w : World), SizeOf.sizeOf l ≤ N → SlIn w0 .E l vl → Below w0.heap.size w0 w → base ≤ w.heap.size → w.ownsRow base 73 2 v L.length (cellsK L) → L.length + (usesL l).length ≤ 1099511627776 →
    Calls Try.prog 43 #[v, vl] w (KUsedTo w base v (L ++ usesL l)) := by
  intro N
  induction N with
  | zero =>
    intro l vl L v w hN
    cases l <;> simp at hN
  | succ N ih =>
    intro l vl L v w hN hl hw hbw hown hlen
    obtain ⟨A, C, rfl, hlC, hcmC, hROW⟩ := hl
    have HROW := Lib.hid hROW; clear hROW
    have HIH := Lib.hid ih; clear ih
    obtain ⟨i0, hi0, hz0, hz1, hz2⟩ := info_parts info_wuse
    have HI0 := Lib.hid hi0; clear hi0
    have HZ0 := Lib.hid hz0; clear hz0
    have HZ1 := Lib.hid hz1; clear hz1
    have HZ2 := Lib.hid hz2; clear hz2
    obtain ⟨POST, hPOST⟩ : ∃ l', L ++ usesL l = l' := ⟨_, rfl⟩
    rw [hPOST]
    have HPOST := Lib.hid hPOST; clear hPOST
    have HOR0 := Lib.hid (fun g hg => (hown.lt g hg).1)
    have HO0 := Lib.hid hown; clear hown
    have HHW := Lib.hid hw; clear hw
    go_enter Try.func43, Try.ntmps43
    go_wp2_with fail
    go_loopw [0, 9] (fun y x wr => ∃ (vo : Value) (ii : Nat), vo = y ∧ x = .int .i64 ii ∧ ii ≤ l.length ∧ wr.ownsRow base 73 2 vo (L ++ usesL (l.take ii)).length (cellsK (L ++ usesL (l.take ii))) ∧ Gr v.ownBlock vo.ownBlock w wr) (fun _ x _ => l.length - (intOf x).toNat)
    case atStart => exact ⟨v, 0, rfl, rfl, by omega, by rw [List.take_zero, usesL, List.append_nil]; exact HO0.out, Gr.refl _ _⟩
    case round =>
      obtain ⟨vo, ii, rfl, rfl, hii, hOo, hGo⟩ := hrel
      have HOO := Lib.hid hOo; clear hOo
      have HGO := Lib.hid hGo; clear hGo
      by_cases hlt : ii < l.length
      · have hbii : (ii : Int) + 1 ≤ 9223372036854775807 := by unfold maxLen at hcmC; omega
        have hxl0 : ¬ l.length = 0 := by omega
        obtain ⟨b0, o0, rfl, hrow⟩ := HROW.out.resolve_left hxl0
        have hold0 : Below w0.heap.size w0 wr := HHW.out.trans (HGO.out.old HHW.out.size (fun g hg => Nat.le_trans hB0 (HOR0.out g hg)))
        obtain ⟨hty, u0, u1, u2, u3, m0, m1, m2, m3, hnd⟩ := SlIn.item4 rfl hrow ii hlt
        have hsz0 := List.sizeOf_lt_of_mem (List.getElem_mem hlt)
        have kk := keeps_below hold0
        have g0 := kk _ _ _ m0
        have g1 := kk _ _ _ m1
        have g2 := kk _ _ _ m2
        have g3 := kk _ _ _ m3
        have hle0 := usesL_at_le hlt
        have htk0 := usesL_take hlt
        clear m0 m1 m2 m3 kk hrow
        obtain ⟨X, hX⟩ : ∃ X, l[ii] = X := ⟨_, rfl⟩
        rw [hX] at hnd hty htk0 hle0 hsz0
        clear hX
        obtain ⟨ty, k, n, nm, xs, cs, ts, es⟩ := X
        simp only [Nd.ty] at hty
        subst hty
        unfold NdIn at hnd
        obtain ⟨hz, -, -, -, vx, vc, vt, ve, hvs, hxs, hcs, hts, hes⟩ := hnd
        simp only [fits] at hz
        obtain ⟨rfl, rfl, rfl⟩ := hz
        simp only [lay, List.cons.injEq, and_true] at hvs
        obtain ⟨rfl, rfl, rfl, rfl⟩ := hvs
        have hu : usesN (.mk .E k n nm xs [] [] []) = headU nm (k == 2) (k == 4) ++ usesL xs := by unfold usesN; rfl
        rw [hu] at htk0 hle0
        clear hu
        simp only [Nd.mk.sizeOf_spec] at hsz0
        have HT := Lib.hid (fun L v w => HIH.out xs _ L v w (by omega) hxs)
        obtain ⟨a1, c1, rfl, -⟩ := hxs
        obtain ⟨b2, hb2⟩ : ∃ b, (k == 2) = b := ⟨_, rfl⟩
        obtain ⟨b4, hb4⟩ : ∃ b, (k == 4) = b := ⟨_, rfl⟩
        rw [hb2, hb4] at htk0 hle0
        have HB2 := Lib.hid hb2; clear hb2
        have HB4 := Lib.hid hb4; clear hb4
        rw [List.length_append] at hle0
        obtain ⟨LB, hLB⟩ : ∃ x, L ++ usesL (l.take ii) = x := ⟨_, rfl⟩
        have hOo := HOO.out; clear HOO
        rw [hLB] at hOo
        obtain ⟨FIN, hFN⟩ : ∃ x, L ++ usesL (l.take (ii + 1)) = x := ⟨_, rfl⟩
        have hlenLB := congrArg List.length hLB
        simp only [List.length_append] at hlenLB
        have HFN := Lib.hid hFN
        have hfin : LB ++ (headU nm b2 b4 ++ usesL xs) = FIN := by rw [← hLB, ← hFN, htk0, List.append_assoc]
        have HFIN := Lib.hid hfin; clear hfin htk0 hLB hsz0 hFN
        have hor : ∀ g, vo.ownBlock = some g → base ≤ g ∧ g < wr.heap.size := hOo.lt
        obtain ⟨W1, hW1⟩ : ∃ W1, wr.alloc (.cells #[.int .i64 k, .int .i64 n, .string nm, .slice a1 xs.length c1] 106) = W1 := ⟨_, rfl⟩
        obtain ⟨B, hBe⟩ : ∃ B, wr.heap.size = B := ⟨_, rfl⟩
        have hX1 : Blk W1 B #[.int .i64 k, .int .i64 n, .string nm, .slice a1 xs.length c1] 106 := by rw [← hW1, ← hBe]; exact Blk.new wr _ _
        have hO1 : W1.ownsRow base 73 2 vo LB.length (cellsK LB) := by rw [← hW1]; exact hOo.alloc _
        have hG1 : Gr vo.ownBlock vo.ownBlock wr W1 := by rw [← hW1]; exact (Gr.refl _ wr).alloc _
        have hS1 : W1.heap.size = B + 1 := by rw [← hW1, ← hBe, World.size_alloc]
        have hbw2 : base ≤ B := by have := HGO.out.size; omega
        rw [hBe] at hor
        have hvB : vo.ownBlock ≠ some B := fun e => by have := (hor B e).2; omega
        have HX1 := Lib.hid hX1; clear hX1
        have HO1 := Lib.hid hO1; clear hO1 hOo
        have HG1 := Lib.hid hG1; clear hG1
        have HS1 := Lib.hid hS1; clear hS1
        have HW1 := Lib.hid hW1; clear hW1
        have HBE := Lib.hid hBe; clear hBe
        have HOR := Lib.hid (fun g hg => (hor g hg).1); clear hor
        have HWB := Lib.hid (hold0.trans (HG1.out.old hold0.size (fun g hg => Nat.le_trans hB0 (HOR.out g hg)))); clear hold0
        go_upto_region 4 with fail
        rw [HW1.out, HBE.out]
        clear HW1 g0 g1 g2 g3
        have k0 : W1.cell? ⟨B, 0, none⟩ = some (.int .i64 k) := HX1.out.cell 0
        have kn : W1.cell? ⟨B, 2, none⟩ = some (.string nm) := HX1.out.cell 2
        go_upto_block 2 with fail
        go_cut [0] (fun s wx => ∃ v1, v1 = s ∧ wx.ownsRow base 73 2 v1 (LB ++ headU nm b2 b4).length (cellsK (LB ++ headU nm b2 b4)) ∧ Blk wx B #[.int .i64 k, .int .i64 n, .string nm, .slice a1 xs.length c1] 106 ∧ Gr vo.ownBlock v1.ownBlock W1 wx)
        case first =>
          have hl1 : LB.length + 1 ≤ maxLen := by unfold maxLen; omega
          have hs1 : W1.heap.size = B + 1 := HS1.out
          have hb2 := HB2.out
          have hb4 := HB4.out
          cases b2 with
          | true =>
            have e4 : b4 = false := by rw [← hb4]; have h := eq_of_beq hb2; subst h; rfl
            clear hb4
            subst e4
            have HNW := Lib.hid (news_kuse W1 nm 1 (B + 1) HS1.out)
            have hSZ : base ≤ (W1.alloc (.cells #[.string nm, .int .i64 1] 73)).heap.size := by rw [World.size_alloc, HS1.out]; omega
            have HSZ := Lib.hid hSZ; clear hSZ
            go_wp2_with (first | (at_builtin; (with_reducible refine wpList_append_lies _ rfl (.tmp 17) (.tmp 21) 70 rfl base 73 i0 _ 2 24 Try.underlying70 HI0.out HZ0.out HZ1.out HZ2.out rfl (by omega) vo LB.length (cellsK LB) rfl (HO1.out.alloc _) ⟨_, 0, none⟩ 1 1 [.string nm, .int .i64 1] rfl rfl HNW.out (kuse_one _ _) (by omega) hl1 (by omega) HSZ.out _ rfl ?_); (intro gg cap w4 hown4 hgrow hat hlt2)) | fail)
            go_meet
            exact ⟨_, rfl, by simpa [headU, cellsK, kindB] using hown4, blk_grown (HX1.out.alloc _) hgrow hvB, gr_grown ((Gr.refl _ W1).alloc _) hgrow (own_new hat)⟩
          | false =>
            cases b4 with
            | true =>
              have HNW := Lib.hid (news_kuse W1 nm 2 (B + 1) HS1.out)
              have hSZ : base ≤ (W1.alloc (.cells #[.string nm, .int .i64 2] 73)).heap.size := by rw [World.size_alloc, HS1.out]; omega
              have HSZ := Lib.hid hSZ; clear hSZ
              go_wp2_with (first | (at_builtin; (with_reducible refine wpList_append_lies _ rfl (.tmp 25) (.tmp 29) 70 rfl base 73 i0 _ 2 24 Try.underlying70 HI0.out HZ0.out HZ1.out HZ2.out rfl (by omega) vo LB.length (cellsK LB) rfl (HO1.out.alloc _) ⟨_, 0, none⟩ 1 1 [.string nm, .int .i64 2] rfl rfl HNW.out (kuse_one _ _) (by omega) hl1 (by omega) HSZ.out _ rfl ?_); (intro gg cap w4 hown4 hgrow hat hlt2)) | fail)
              go_meet
              exact ⟨_, rfl, by simpa [headU, cellsK, kindB] using hown4, blk_grown (HX1.out.alloc _) hgrow hvB, gr_grown ((Gr.refl _ W1).alloc _) hgrow (own_new hat)⟩
            | false =>
              clear hl1 hs1
              go_wp2_with fail
              go_meet
              exact ⟨_, rfl, by simpa [headU] using HO1.out, HX1.out, Gr.refl _ _⟩
        case rest =>
          obtain ⟨v1, rfl, hO2, hX2, hG2⟩ := hcut
          clear HX1 HO1 HB2 HB4 k0 kn
          have j3 : wc.cell? ⟨B, 3, none⟩ = some (.slice a1 xs.length c1) := hX2.cell 3
          have hold : Below w0.heap.size w0 wc := HWB.out.trans (hG2.old HWB.out.size (fun g hg => Nat.le_trans hB0 (HOR.out g hg)))
          have hsz : base ≤ wc.heap.size := by have := hG2.size; have := HS1.out; omega
          have HC := Lib.hid (HT.out _ _ wc hold hsz hO2 (by rw [List.length_append]; omega))
          have hf := HFIN.out; clear HFIN
          rw [← List.append_assoc] at hf
          rw [hf] at HC
          have HG2 := Lib.hid hG2; clear hG2
          clear hold hsz hO2 hX2 hf
          go_wp2_with fail
          refine HC.out.mono ?_
          rintro e w2 ⟨v3, rfl, hO3, hG3⟩
          rw [← HFN.out] at hO3
          have HO3 := Lib.hid hO3; clear hO3
          have HG3 := Lib.hid (HGO.out.trans (HG1.out.trans (HG2.out.trans hG3))); clear hG3
          go_wp2_with fail
          go_roundw
          case rel => exact ⟨v3, ii + 1, rfl, by go_num, by omega, HO3.out, HG3.out⟩
          case measure => simp [intOf]; omega
      · obtain rfl : ii = l.length := by omega
        have h0 := HOO.out
        rw [List.take_length, HPOST.out] at h0
        have HO3 := Lib.hid h0; clear h0
        go_wp2_with fail
        go_ret
        exact ⟨vo, rfl, HO3.out, HGO.out⟩
end Go.Proofs.Ytofbocmbgadfnaa

/-
  The project's names in conditions (well's inConds): proved is that they are put behind the list that is handed on.
-/
namespace Go.Proofs.Ytofbocmbgadfnaa
open Go Go.RowKit

set_option maxRecDepth 100000 in
set_option maxHeartbeats 16000000 in
theorem inConds_any (w0 : World) (base : Nat) (hB0 : w0.heap.size ≤ base) : ∀ (N : Nat) (l : List Nd) (vl : Value) (L : List Us) (v : Value) (w : World), SizeOf.sizeOf l ≤ N → SlIn w0 .C l vl → Below w0.heap.size w0 w → base ≤ w.heap.size → w.ownsRow base 73 2 v L.length (cellsK L) → L.length + (usesL l).length ≤ 1099511627776 →
    Calls Try.prog 44 #[v, vl] w (KUsedTo w base v (L ++ usesL l)) := by
  intro N
  induction N with
  | zero =>
    intro l vl L v w hN
    cases l <;> simp at hN
  | succ N ih =>
    intro l vl L v w hN hl hw hbw hown hlen
    obtain ⟨A, C, rfl, hlC, hcmC, hROW⟩ := hl
    have HROW := Lib.hid hROW; clear hROW
    have HIH := Lib.hid ih; clear ih
    obtain ⟨i0, hi0, hz0, hz1, hz2⟩ := info_parts info_wuse
    have HI0 := Lib.hid hi0; clear hi0
    have HZ0 := Lib.hid hz0; clear hz0
    have HZ1 := Lib.hid hz1; clear hz1
    have HZ2 := Lib.hid hz2; clear hz2
    obtain ⟨POST, hPOST⟩ : ∃ l', L ++ usesL l = l' := ⟨_, rfl⟩
    rw [hPOST]
    have HPOST := Lib.hid hPOST; clear hPOST
    have HOR0 := Lib.hid (fun g hg => (hown.lt g hg).1)
    have HO0 := Lib.hid hown; clear hown
    have HHW := Lib.hid hw; clear hw
    go_enter Try.func44, Try.ntmps44
    go_wp2_with fail
    go_loopw [0, 9] (fun y x wr => ∃ (vo : Value) (ii : Nat), vo = y ∧ x = .int .i64 ii ∧ ii ≤ l.length ∧ wr.ownsRow base 73 2 vo (L ++ usesL (l.take ii)).length (cellsK (L ++ usesL (l.take ii))) ∧ Gr v.ownBlock vo.ownBlock w wr) (fun _ x _ => l.length - (intOf x).toNat)
    case atStart => exact ⟨v, 0, rfl, rfl, by omega, by rw [List.take_zero, usesL, List.append_nil]; exact HO0.out, Gr.refl _ _⟩
    case round =>
      obtain ⟨vo, ii, rfl, rfl, hii, hOo, hGo⟩ := hrel
      have HOO := Lib.hid hOo; clear hOo
      have HGO := Lib.hid hGo; clear hGo
      by_cases hlt : ii < l.length
      · have hbii : (ii : Int) + 1 ≤ 9223372036854775807 := by unfold maxLen at hcmC; omega
        have hxl0 : ¬ l.length = 0 := by omega
        obtain ⟨b0, o0, rfl, hrow⟩ := HROW.out.resolve_left hxl0
        have hold0 : Below w0.heap.size w0 wr := HHW.out.trans (HGO.out.old HHW.out.size (fun g hg => Nat.le_trans hB0 (HOR0.out g hg)))
        obtain ⟨hty, u0, u1, u2, u3, m0, m1, m2, m3, hnd⟩ := SlIn.item4 rfl hrow ii hlt
        have hsz0 := List.sizeOf_lt_of_mem (List.getElem_mem hlt)
        have kk := keeps_below hold0
        have g0 := kk _ _ _ m0
        have g1 := kk _ _ _ m1
        have g2 := kk _ _ _ m2
        have g3 := kk _ _ _ m3
        have hle0 := usesL_at_le hlt
        have htk0 := usesL_take hlt
        clear m0 m1 m2 m3 kk hrow
        obtain ⟨X, hX⟩ : ∃ X, l[ii] = X := ⟨_, rfl⟩
        rw [hX] at hnd hty htk0 hle0 hsz0
        clear hX
        obtain ⟨ty, k, n, nm, xs, cs, ts, es⟩ := X
        simp only [Nd.ty] at hty
        subst hty
        unfold NdIn at hnd
        obtain ⟨hz, -, -, -, vx, vc, vt, ve, hvs, hxs, hcs, hts, hes⟩ := hnd
        simp only [fits] at hz
        obtain ⟨rfl, rfl, rfl⟩ := hz
        simp only [lay, List.cons.injEq, and_true] at hvs
        obtain ⟨rfl, rfl, rfl, rfl⟩ := hvs
        have hu : usesN (.mk .C k n ⟨#[]⟩ xs cs [] []) = usesL xs ++ usesL cs := by unfold usesN; rfl
        rw [hu] at htk0 hle0
        clear hu
        simp only [Nd.mk.sizeOf_spec] at hsz0
        have HT2 := Lib.hid (fun L v w => HIH.out cs _ L v w (by omega) hcs)
        have HT1 := Lib.hid (fun L v w => inExprs_any w0 base hB0 _ xs _ L v w (Nat.le_refl _) hxs)
        obtain ⟨a1, c1, rfl, -⟩ := hxs
        obtain ⟨a2, c2, rfl, -⟩ := hcs
        rw [List.length_append] at hle0
        obtain ⟨LB, hLB⟩ : ∃ x, L ++ usesL (l.take ii) = x := ⟨_, rfl⟩
        have hOo := HOO.out; clear HOO
        rw [hLB] at hOo
        obtain ⟨FIN, hFN⟩ : ∃ x, L ++ usesL (l.take (ii + 1)) = x := ⟨_, rfl⟩
        have hlenLB := congrArg List.length hLB
        simp only [List.length_append] at hlenLB
        have HFN := Lib.hid hFN
        have hfin : LB ++ (usesL xs ++ usesL cs) = FIN := by rw [← hLB, ← hFN, htk0, List.append_assoc]
        have HFIN := Lib.hid hfin; clear hfin htk0 hLB hsz0 hFN
        have hor : ∀ g, vo.ownBlock = some g → base ≤ g ∧ g < wr.heap.size := hOo.lt
        obtain ⟨W1, hW1⟩ : ∃ W1, wr.alloc (.cells #[.int .i64 k, .int .i64 n, .slice a1 xs.length c1, .slice a2 cs.length c2] 103) = W1 := ⟨_, rfl⟩
        obtain ⟨B, hBe⟩ : ∃ B, wr.heap.size = B := ⟨_, rfl⟩
        have hX1 : Blk W1 B #[.int .i64 k, .int .i64 n, .slice a1 xs.length c1, .slice a2 cs.length c2] 103 := by rw [← hW1, ← hBe]; exact Blk.new wr _ _
        have hO1 : W1.ownsRow base 73 2 vo LB.length (cellsK LB) := by rw [← hW1]; exact hOo.alloc _
        have hG1 : Gr vo.ownBlock vo.ownBlock wr W1 := by rw [← hW1]; exact (Gr.refl _ wr).alloc _
        have hS1 : W1.heap.size = B + 1 := by rw [← hW1, ← hBe, World.size_alloc]
        have hbw2 : base ≤ B := by have := HGO.out.size; omega
        rw [hBe] at hor
        have hvB : vo.ownBlock ≠ some B := fun e => by have := (hor B e).2; omega
        have HX1 := Lib.hid hX1; clear hX1
        have HO1 := Lib.hid hO1; clear hO1 hOo
        have HG1 := Lib.hid hG1; clear hG1
        have HS1 := Lib.hid hS1; clear hS1
        have HW1 := Lib.hid hW1; clear hW1
        have HBE := Lib.hid hBe; clear hBe
        have HOR := Lib.hid (fun g hg => (hor g hg).1); clear hor
        have HWB := Lib.hid (hold0.trans (HG1.out.old hold0.size (fun g hg => Nat.le_trans hB0 (HOR.out g hg)))); clear hold0
        go_upto_region 4 with fail
        rw [HW1.out, HBE.out]
        clear HW1 g0 g1 g2 g3
        have k2 : W1.cell? ⟨B, 2, none⟩ = some (.slice a1 xs.length c1) := HX1.out.cell 2
        have k3 : W1.cell? ⟨B, 3, none⟩ = some (.slice a2 cs.length c2) := HX1.out.cell 3
        have hsz1 : base ≤ W1.drew.heap.size := by rw [show W1.drew.heap.size = W1.heap.size from rfl, HS1.out]; omega
        have HC1 := Lib.hid (HT1.out LB vo W1.drew HWB.out.drew hsz1 HO1.out.drew (by omega))
        clear hsz1
        have hf := HFIN.out; clear HFIN
        rw [← List.append_assoc] at hf
        have HF := Lib.hid hf; clear hf
        go_region_with (first | (go_at_call 43; (with_reducible refine HC1.out.mono ?_); rintro e w2 ⟨v2, rfl, hO2, hG2⟩; (have k3b : w2.cell? ⟨B, 3, none⟩ = some (.slice a2 cs.length c2) := (HX1.out.gr ((Gr.refl vo.ownBlock W1).drew.trans hG2) hvB).cell 3); (have hG3 : Gr vo.ownBlock v2.ownBlock W1 w2 := (Gr.refl vo.ownBlock W1).drew.trans hG2); (have hold : Below w0.heap.size w0 w2 := HWB.out.trans (hG3.old HWB.out.size (fun g hg => Nat.le_trans hB0 (HOR.out g hg)))); (have hsz : base ≤ w2.heap.size := by have := hG3.size; have := HS1.out; omega); (have HC2 := Lib.hid (HT2.out _ _ w2 hold hsz hO2 (by rw [List.length_append]; omega))); (rw [HF.out] at HC2); (have HG3 := Lib.hid hG3); clear hG3 hG2 hO2 hold hsz) | (go_at_call 44; (with_reducible refine HC2.out.mono ?_); rintro e w3 ⟨v3, rfl, hO3, hG4⟩; (have HO3 := Lib.hid hO3); (have HG4 := Lib.hid (HG3.out.trans hG4)); clear hO3 hG4))
        all_goals
          go_wp2_with fail
          go_roundw
          case rel => exact ⟨_, ii + 1, rfl, by go_num, by omega, by rw [HFN.out]; exact HO3.out, HGO.out.trans (HG1.out.trans HG4.out)⟩
          case measure => simp [intOf]; omega
      · obtain rfl : ii = l.length := by omega
        have h0 := HOO.out
        rw [List.take_length, HPOST.out] at h0
        have HO3 := Lib.hid h0; clear h0
        go_wp2_with fail
        go_ret
        exact ⟨vo, rfl, HO3.out, HGO.out⟩
end Go.Proofs.Ytofbocmbgadfnaa

/-
  The project's names of one statement (well's uses): proved is that they stand in a list of its own.
-/
namespace Go.Proofs.Ytofbocmbgadfnaa
open Go Go.RowKit

/-- The names that a statement uses itself. -/
def ownU : Nd → List Us
  | .mk _ k _ nm xs cs _ _ => headU nm (k == 1) (k == 2) ++ (usesL cs ++ usesL xs)
set_option maxRecDepth 100000 in
set_option maxHeartbeats 16000000 in
theorem suses_any (w0 : World) (x : Nd) (us : List Value) (w : World) (hty : x.ty = .S) (hin : NdIn w0 x us) (hw : Below w0.heap.size w0 w) (hlen : (ownU x).length ≤ 1099511627776) :
    Calls Try.prog 27 #[.agg us.toArray] w (fun e w' => ∃ v', e = .returned v' ∧ w'.ownsRow w.heap.size 73 2 v' (ownU x).length (cellsK (ownU x)) ∧ Below w.heap.size w w') := by
  obtain ⟨ty, k, n, nm, xs, cs, ts, es⟩ := x
  simp only [Nd.ty] at hty
  subst hty
  unfold NdIn at hin
  obtain ⟨hz, -, -, -, vx, vc, vt, ve, rfl, hxs, hcs, hts, hes⟩ := hin
  simp only [fits] at hz
  subst hz
  have hB0 := hw.size
  obtain ⟨base, hbase⟩ : ∃ b, w.heap.size = b := ⟨_, rfl⟩
  rw [hbase] at hB0 ⊢
  have HT2 := Lib.hid (fun L v w => inConds_any w0 base hB0 _ cs _ L v w (Nat.le_refl _) hcs)
  have HT1 := Lib.hid (fun L v w => inExprs_any w0 base hB0 _ xs _ L v w (Nat.le_refl _) hxs)
  obtain ⟨a1, c1, rfl, -⟩ := hcs
  obtain ⟨a2, c2, rfl, -⟩ := hxs
  obtain ⟨a3, c3, rfl, -⟩ := hts
  obtain ⟨a4, c4, rfl, -⟩ := hes
  change Calls _ _ #[.agg #[.int .i64 k, .string nm, .slice a2 xs.length c2, .slice a1 cs.length c1, .slice a3 ts.length c3, .slice a4 es.length c4]] w _
  obtain ⟨FIN, hFIN⟩ : ∃ l, ownU (.mk .S k 0 nm xs cs ts es) = l := ⟨_, rfl⟩
  rw [hFIN] at hlen ⊢
  change headU nm (k == 1) (k == 2) ++ (usesL cs ++ usesL xs) = FIN at hFIN
  obtain ⟨i0, hi0, hz0, hz1, hz2⟩ := info_parts info_wuse
  have HI0 := Lib.hid hi0; clear hi0
  have HZ0 := Lib.hid hz0; clear hz0
  have HZ1 := Lib.hid hz1; clear hz1
  have HZ2 := Lib.hid hz2; clear hz2
  obtain ⟨b2, hb2⟩ : ∃ b, (k == 1) = b := ⟨_, rfl⟩
  obtain ⟨b4, hb4⟩ : ∃ b, (k == 2) = b := ⟨_, rfl⟩
  rw [hb2, hb4] at hFIN
  have hle0 := congrArg List.length hFIN
  simp only [List.length_append] at hle0
  have HFIN := Lib.hid hFIN; clear hFIN
  have HB2 := Lib.hid hb2; clear hb2
  have HB4 := Lib.hid hb4; clear hb4
  obtain ⟨W1, hW1⟩ : ∃ W1, w.alloc (.cells #[.int .i64 k, .string nm, .slice a2 xs.length c2, .slice a1 cs.length c1, .slice a3 ts.length c3, .slice a4 es.length c4] 69) = W1 := ⟨_, rfl⟩
  obtain ⟨B, hBe⟩ : ∃ B, base = B := ⟨_, rfl⟩
  have hX1 : Blk W1 B #[.int .i64 k, .string nm, .slice a2 xs.length c2, .slice a1 cs.length c1, .slice a3 ts.length c3, .slice a4 es.length c4] 69 := by rw [← hW1, ← hBe, ← hbase]; exact Blk.new w _ _
  obtain ⟨vo, hvo⟩ : ∃ v, Value.slice none 0 0 = v := ⟨_, rfl⟩
  obtain ⟨LB, hLB⟩ : ∃ l : List Us, [] = l := ⟨_, rfl⟩
  have hO1 : W1.ownsRow base 73 2 vo LB.length (cellsK LB) := by rw [← hvo, ← hLB]; exact World.ownsRow_nil _ _ _ _
  have hG1 : Below base w W1 := by rw [← hW1]; exact (Below.refl _ w).alloc (by omega) _
  have hS1 : W1.heap.size = B + 1 := by rw [← hW1, World.size_alloc]; omega
  have hvB : vo.ownBlock ≠ some B := by rw [← hvo]; intro h; cases h
  have hor : ∀ g, vo.ownBlock = some g → base ≤ g := by rw [← hvo]; intro g h; cases h
  have hwb : Below w0.heap.size w0 W1 := hw.trans (hG1.mono hB0)
  have hbB : base ≤ B := by omega
  have hfi : LB ++ headU nm b2 b4 ++ (usesL cs ++ usesL xs) = FIN := by rw [← hLB]; exact HFIN.out
  have hlb : LB.length ≤ 0 := by rw [← hLB]; exact Nat.le_refl _
  clear hLB HFIN
  have HFIN := Lib.hid hfi; clear hfi
  have HX1 := Lib.hid hX1; clear hX1
  have HO1 := Lib.hid hO1; clear hO1
  have HG1 := Lib.hid hG1; clear hG1 hw
  have HS1 := Lib.hid hS1; clear hS1
  have HW1 := Lib.hid hW1; clear hW1
  have HBE := Lib.hid hBe; clear hBe
  have HBA := Lib.hid hbase; clear hbase
  have HOR := Lib.hid hor; clear hor
  have HWB := Lib.hid hwb; clear hwb
  have HVO := Lib.hid hvo; clear hvo
  go_enter Try.func27, Try.ntmps27
  go_upto_region 2 with fail
  rw [HW1.out, HBA.out, HBE.out, HVO.out]
  clear HW1
  have k0 : W1.cell? ⟨B, 0, none⟩ = some (.int .i64 k) := HX1.out.cell 0
  have kn : W1.cell? ⟨B, 1, none⟩ = some (.string nm) := HX1.out.cell 1
  go_upto_block 0 with fail
  go_cut [3] (fun s wx => ∃ v1, v1 = s ∧ wx.ownsRow base 73 2 v1 (LB ++ headU nm b2 b4).length (cellsK (LB ++ headU nm b2 b4)) ∧ Blk wx B #[.int .i64 k, .string nm, .slice a2 xs.length c2, .slice a1 cs.length c1, .slice a3 ts.length c3, .slice a4 es.length c4] 69 ∧ Gr vo.ownBlock v1.ownBlock W1 wx)
  case first =>
    have hl1 : LB.length + 1 ≤ maxLen := by unfold maxLen; omega
    have hs1 : W1.heap.size = B + 1 := HS1.out
    have hb2 := HB2.out
    have hb4 := HB4.out
    cases b2 with
    | true =>
      have e4 : b4 = false := by rw [← hb4]; have h := eq_of_beq hb2; subst h; rfl
      clear hb4
      subst e4
      have HNW := Lib.hid (news_kuse W1 nm 1 (B + 1) HS1.out)
      have hSZ : base ≤ (W1.alloc (.cells #[.string nm, .int .i64 1] 73)).heap.size := by rw [World.size_alloc, HS1.out]; omega
      have HSZ := Lib.hid hSZ; clear hSZ
      go_wp2_with (first | (at_builtin; (with_reducible refine wpList_append_lies _ rfl (.tmp 8) (.tmp 12) 70 rfl base 73 i0 _ 2 24 Try.underlying70 HI0.out HZ0.out HZ1.out HZ2.out rfl (by omega) vo LB.length (cellsK LB) rfl (HO1.out.alloc _) ⟨_, 0, none⟩ 1 1 [.string nm, .int .i64 1] rfl rfl HNW.out (kuse_one _ _) (by omega) hl1 (by omega) HSZ.out _ rfl ?_); (intro gg cap w4 hown4 hgrow hat hlt2)) | fail)
      go_meet
      exact ⟨_, rfl, by simpa [headU, cellsK, kindB] using hown4, blk_grown (HX1.out.alloc _) hgrow hvB, gr_grown ((Gr.refl _ W1).alloc _) hgrow (own_new hat)⟩
    | false =>
      cases b4 with
      | true =>
        have HNW := Lib.hid (news_kuse W1 nm 2 (B + 1) HS1.out)
        have hSZ : base ≤ (W1.alloc (.cells #[.string nm, .int .i64 2] 73)).heap.size := by rw [World.size_alloc, HS1.out]; omega
        have HSZ := Lib.hid hSZ; clear hSZ
        go_wp2_with (first | (at_builtin; (with_reducible refine wpList_append_lies _ rfl (.tmp 16) (.tmp 20) 70 rfl base 73 i0 _ 2 24 Try.underlying70 HI0.out HZ0.out HZ1.out HZ2.out rfl (by omega) vo LB.length (cellsK LB) rfl (HO1.out.alloc _) ⟨_, 0, none⟩ 1 1 [.string nm, .int .i64 2] rfl rfl HNW.out (kuse_one _ _) (by omega) hl1 (by omega) HSZ.out _ rfl ?_); (intro gg cap w4 hown4 hgrow hat hlt2)) | fail)
        go_meet
        exact ⟨_, rfl, by simpa [headU, cellsK, kindB] using hown4, blk_grown (HX1.out.alloc _) hgrow hvB, gr_grown ((Gr.refl _ W1).alloc _) hgrow (own_new hat)⟩
      | false =>
        clear hl1 hs1
        go_wp2_with fail
        go_meet
        exact ⟨_, rfl, by simpa [headU] using HO1.out, HX1.out, Gr.refl _ _⟩
  case rest =>
    obtain ⟨v1, rfl, hO2, hX2, hG2⟩ := hcut
    clear HX1 HO1 HB2 HB4 k0 kn
    obtain ⟨L1, hL1⟩ : ∃ l, LB ++ headU nm b2 b4 = l := ⟨_, rfl⟩
    have hln1 : L1.length + ((usesL cs).length + (usesL xs).length) ≤ 1099511627776 := by rw [← hL1, List.length_append]; omega
    have hf := HFIN.out; clear HFIN
    rw [hL1] at hf hO2
    rw [← List.append_assoc] at hf
    have HF := Lib.hid hf; clear hf hL1
    have k3 : wc.cell? ⟨B, 3, none⟩ = some (.slice a1 cs.length c1) := hX2.cell 3
    have k2 : wc.cell? ⟨B, 2, none⟩ = some (.slice a2 xs.length c2) := hX2.cell 2
    have hold1 : Below base W1 wc := hG2.old (by have := HS1.out; omega) HOR.out
    have HWC := Lib.hid (HWB.out.trans (hold1.mono hB0))
    have HWD := Lib.hid (HG1.out.trans hold1)
    have hsz1 : base ≤ wc.drew.heap.size := by rw [show wc.drew.heap.size = wc.heap.size from rfl]; have := hG2.size; have := HS1.out; omega
    have hor1 : ∀ g, v1.ownBlock = some g → base ≤ g := fun g hg => (hO2.lt g hg).1
    have hvr : v1.ownBlock ≠ some B := fun e => by
      rcases hG2.2 with h | h
      · exact hvB (h.symm.trans e)
      · have := h B e; have := HS1.out; omega
    have HC1 := Lib.hid (HT2.out L1 v1 wc.drew HWC.out.drew hsz1 hO2.drew (by omega))
    have HOR1 := Lib.hid hor1; clear hor1
    have HX2 := Lib.hid hX2; clear hX2
    clear hsz1 hO2 hG2 hold1
    go_upto_region 7 with fail
    go_region_with (first | (go_at_call 44; (with_reducible refine HC1.out.mono ?_); rintro e w2 ⟨v2, rfl, hO2, hG2⟩; (have hG3 : Gr v1.ownBlock v2.ownBlock wc w2 := (Gr.refl v1.ownBlock wc).drew.trans hG2); (have k2b : w2.cell? ⟨B, 2, none⟩ = some (.slice a2 xs.length c2) := (HX2.out.gr hG3 hvr).cell 2); (have hold : Below base wc w2 := hG3.old (by have := HWD.out.size; have := HBA.out; omega) HOR1.out); (have hsz : base ≤ w2.heap.size := by have := hG3.size; have := HWD.out.size; have := HBA.out; omega); (have HC2 := Lib.hid (HT1.out _ _ w2 (HWC.out.trans (hold.mono hB0)) hsz hO2 (by rw [List.length_append]; omega))); (rw [HF.out] at HC2); (have HH2 := Lib.hid (HWD.out.trans hold)); (have HOR2 := Lib.hid (fun g hg => (hO2.lt g hg).1)); (have HSZ2 := Lib.hid hsz); clear hG3 hG2 hO2 hold hsz) | (go_at_call 43; (with_reducible refine HC2.out.mono ?_); rintro e w3 ⟨v3, rfl, hO3, hG4⟩; (have HO3 := Lib.hid hO3); (have HH3 := Lib.hid (HH2.out.trans (hG4.old HSZ2.out HOR2.out))); clear hO3 hG4))
    all_goals
      go_wp2_with fail
      go_ret
      exact ⟨_, rfl, HO3.out, HH3.out⟩
end Go.Proofs.Ytofbocmbgadfnaa

/-
  The project's list of all statements (well's stmts): proved is that it holds the statements' own cells, each ahead of the ones within it.
-/
namespace Go.Proofs.Ytofbocmbgadfnaa
open Go Go.RowKit

/-- Statements' cells, one behind the other. -/
def Sts (w0 : World) : List Nd → List Value → Prop
  | [], cs => cs = []
  | x :: r, cs => ∃ u0 u1 u2 u3 u4 u5 rest, cs = u0 :: u1 :: u2 :: u3 :: u4 :: u5 :: rest ∧ x.ty = .S ∧ NdIn w0 x [u0, u1, u2, u3, u4, u5] ∧ Sts w0 r rest
theorem Sts.app {w0 : World} : ∀ {a b : List Nd} {xs ys : List Value}, Sts w0 a xs → Sts w0 b ys → Sts w0 (a ++ b) (xs ++ ys)
  | [], b, xs, ys, h, k => by unfold Sts at h; subst h; exact k
  | x :: r, b, xs, ys, h, k => by
    unfold Sts at h
    obtain ⟨u0, u1, u2, u3, u4, u5, rest, rfl, h1, h2, h3⟩ := h
    rw [List.cons_append, Sts]
    exact ⟨u0, u1, u2, u3, u4, u5, rest ++ ys, rfl, h1, h2, h3.app k⟩
theorem Sts.len {w0 : World} : ∀ {a : List Nd} {xs : List Value}, Sts w0 a xs → xs.length = a.length * 6
  | [], xs, h => by unfold Sts at h; subst h; rfl
  | x :: r, xs, h => by
    unfold Sts at h
    obtain ⟨u0, u1, u2, u3, u4, u5, rest, rfl, h1, h2, h3⟩ := h
    have := h3.len
    simp only [List.length_cons]
    omega
theorem Sts.at {w0 : World} : ∀ {a : List Nd} {xs : List Value} (_ : Sts w0 a xs) (i : Nat) (hi : i < a.length), ∃ u0 u1 u2 u3 u4 u5, (a[i]).ty = .S ∧ NdIn w0 a[i] [u0, u1, u2, u3, u4, u5] ∧ xs[i * 6]? = some u0 ∧ xs[i * 6 + 1]? = some u1 ∧ xs[i * 6 + 2]? = some u2 ∧ xs[i * 6 + 3]? = some u3 ∧ xs[i * 6 + 4]? = some u4 ∧ xs[i * 6 + 5]? = some u5
  | [], xs, h, i, hi => by simp at hi
  | x :: r, xs, h, 0, hi => by
    unfold Sts at h
    obtain ⟨u0, u1, u2, u3, u4, u5, rest, rfl, h1, h2, h3⟩ := h
    exact ⟨u0, u1, u2, u3, u4, u5, h1, h2, rfl, rfl, rfl, rfl, rfl, rfl⟩
  | x :: r, xs, h, i + 1, hi => by
    unfold Sts at h
    obtain ⟨u0, u1, u2, u3, u4, u5, rest, rfl, h1, h2, h3⟩ := h
    obtain ⟨z0, z1, z2, z3, z4, z5, g1, g2, e0, e1, e2, e3, e4, e5⟩ := h3.at i (by simpa using hi)
    refine ⟨z0, z1, z2, z3, z4, z5, g1, g2, ?_⟩
    simp only [show (i + 1) * 6 = i * 6 + 5 + 1 by omega, List.getElem?_cons_succ]
    exact ⟨e0, e1, e2, e3, e4, e5⟩
mutual
/-- A statement and those within it. -/
def flatN : Nd → List Nd
  | .mk ty k n nm xs cs ts es => .mk ty k n nm xs cs ts es :: (flatL ts ++ flatL es)
def flatL : List Nd → List Nd
  | [] => []
  | x :: r => flatN x ++ flatL r
end
theorem flatL_app : ∀ (l m : List Nd), flatL (l ++ m) = flatL l ++ flatL m
  | [], m => by simp [flatL]
  | x :: r, m => by rw [List.cons_append, flatL, flatL, flatL_app r m, List.append_assoc]
theorem flatL_take {l : List Nd} {i : Nat} (hi : i < l.length) : flatL (l.take (i + 1)) = flatL (l.take i) ++ flatN l[i] := by
  rw [← List.take_append_getElem hi, flatL_app]
  simp [flatL]
theorem flatL_take_le {l : List Nd} (i : Nat) : (flatL (l.take i)).length ≤ (flatL l).length := by
  conv => rhs; rw [← List.take_append_drop i l, flatL_app]
  simp
theorem flatL_at_le {l : List Nd} {i : Nat} (hi : i < l.length) : (flatL (l.take i)).length + (flatN l[i]).length ≤ (flatL l).length := by
  have h := flatL_take_le (l := l) (i + 1)
  rw [flatL_take hi, List.length_append] at h
  exact h
mutual
/-- The names of statements are those of each of them and of those within it, in order. -/
theorem flat_N (w : World) : ∀ (x : Nd) (vs : List Value), NdIn w x vs → x.ty = .S → usesN x = (flatN x).flatMap ownU
  | .mk ty k n nm xs cs ts es, vs, h, hty => by
    simp only [Nd.ty] at hty
    subst hty
    unfold NdIn at h
    obtain ⟨_, _, _, _, vx, vc, vt, ve, _, _, _, ht, he⟩ := h
    have h3 : usesL ts = (flatL ts).flatMap ownU := by
      obtain ⟨a, c, _, _, _, h0 | ⟨b, o, _, hr⟩⟩ := ht
      · obtain rfl := List.eq_nil_of_length_eq_zero h0; simp [usesL, flatL]
      · exact flat_L w ts b o hr
    have h4 : usesL es = (flatL es).flatMap ownU := by
      obtain ⟨a, c, _, _, _, h0 | ⟨b, o, _, hr⟩⟩ := he
      · obtain rfl := List.eq_nil_of_length_eq_zero h0; simp [usesL, flatL]
      · exact flat_L w es b o hr
    unfold usesN flatN
    rw [List.flatMap_cons, List.flatMap_append, ← h3, ← h4]
    simp only [ownU, List.append_assoc]
theorem flat_L (w : World) : ∀ (l : List Nd) (b o : Nat), RowIn w .S l b o → usesL l = (flatL l).flatMap ownU
  | [], _, _, _ => by simp [usesL, flatL]
  | x :: r, b, o, h => by
    unfold RowIn at h
    obtain ⟨⟨h1, vs, _, h2⟩, h3⟩ := h
    rw [usesL, flatL, List.flatMap_append, flat_N w x vs h2 h1, flat_L w r _ _ h3]
end
theorem flat_sl {w : World} {l : List Nd} {v : Value} (h : SlIn w .S l v) : usesL l = (flatL l).flatMap ownU := by
  obtain ⟨a, c, _, _, _, h0 | ⟨b, o, _, hr⟩⟩ := h
  · obtain rfl := List.eq_nil_of_length_eq_zero h0; simp [usesL, flatL]
  · exact flat_L w l b o hr
theorem info_wstmt : (Try.prog.info? 69).map (fun i => (i.zero, i.size, i.bytes)) = some (some (.agg #[.int .i64 0, .string ⟨#[]⟩, .slice none 0 0, .slice none 0 0, .slice none 0 0, .slice none 0 0]), 6, 120) := by kernel_rfl
theorem stmt_one (k : Int) (nm : ByteArray) (a b c d : Option Addr) (n1 n2 n3 n4 c1 c2 c3 c4 : Nat) : ∀ u ∈ ([.int .i64 k, .string nm, .slice a n1 c1, .slice b n2 c2, .slice c n3 c3, .slice d n4 c4] : List Value), u.oneCell' = true := by
  intro u hu
  simp at hu
  rcases hu with rfl | rfl | rfl | rfl | rfl | rfl <;> rfl
theorem news_stmt (w : World) (u0 u1 u2 u3 u4 u5 : Value) (c : Nat) (hc : w.heap.size = c) : ∀ j u, ([u0, u1, u2, u3, u4, u5] : List Value)[j]? = some u → (w.alloc (.cells #[u0, u1, u2, u3, u4, u5] 69)).cell? ((⟨c, 0, none⟩ : Addr).add j) = some u := by
  rw [← hc]
  exact World.news_of_block (cs := #[u0, u1, u2, u3, u4, u5]) (t := 69) (fr := (0, 0)) (heap_alloc_new w _)
/-- A list of statements is handed on. -/
def StTo (w0 w : World) (base : Nat) (v : Value) (L : List Nd) : Ending → World → Prop := fun e w' => ∃ v' CS', e = .returned v' ∧ w'.ownsRow base 69 6 v' L.length CS' ∧ Sts w0 L CS' ∧ Gr v.ownBlock v'.ownBlock w w'

set_option maxRecDepth 100000 in
set_option maxHeartbeats 16000000 in
theorem wstmts_any (w0 : World) (base : Nat) (hB0 : w0.heap.size ≤ base) : ∀ (N : Nat) (l : List Nd) (vl : Value) (L : List Nd) (CS : List Value) (v : Value) (w : World), SizeOf.sizeOf l ≤ N → SlIn w0 .S l vl → Below w0.heap.size w0 w → base ≤ w.heap.size → w.ownsRow base 69 6 v L.length CS → Sts w0 L CS → L.length + (flatL l).length ≤ 1099511627776 →
    Calls Try.prog 26 #[v, vl] w (StTo w0 w base v (L ++ flatL l)) := by
  intro N
  induction N with
  | zero =>
    intro l vl L CS v w hN
    cases l <;> simp at hN
  | succ N ih =>
    intro l vl L CS v w hN hl hw hbw hown hsts hlen
    obtain ⟨A, C, rfl, hlC, hcmC, hROW⟩ := hl
    have HROW := Lib.hid hROW; clear hROW
    have HIH := Lib.hid ih; clear ih
    obtain ⟨i0, hi0, hz0, hz1, hz2⟩ := info_parts info_wstmt
    have HI0 := Lib.hid hi0; clear hi0
    have HZ0 := Lib.hid hz0; clear hz0
    have HZ1 := Lib.hid hz1; clear hz1
    have HZ2 := Lib.hid hz2; clear hz2
    obtain ⟨POST, hPOST⟩ : ∃ l', L ++ flatL l = l' := ⟨_, rfl⟩
    rw [hPOST]
    have HPOST := Lib.hid hPOST; clear hPOST
    have HOR0 := Lib.hid (fun g hg => (hown.lt g hg).1)
    have HO0 := Lib.hid hown; clear hown
    have HS0 := Lib.hid hsts; clear hsts
    have HHW := Lib.hid hw; clear hw
    go_enter Try.func26, Try.ntmps26
    go_wp2_with fail
    go_loopw [0, 9] (fun y x wr => ∃ (vo : Value) (ii : Nat) (CO : List Value), vo = y ∧ x = .int .i64 ii ∧ ii ≤ l.length ∧ wr.ownsRow base 69 6 vo (L ++ flatL (l.take ii)).length CO ∧ Sts w0 (L ++ flatL (l.take ii)) CO ∧ Gr v.ownBlock vo.ownBlock w wr) (fun _ x _ => l.length - (intOf x).toNat)
    case atStart => exact ⟨v, 0, CS, rfl, rfl, by omega, by rw [List.take_zero, flatL, List.append_nil]; exact HO0.out, by rw [List.take_zero, flatL, List.append_nil]; exact HS0.out, Gr.refl _ _⟩
    case round =>
      obtain ⟨vo, ii, CO, rfl, rfl, hii, hOo, hSo, hGo⟩ := hrel
      have HOO := Lib.hid hOo; clear hOo
      have HGO := Lib.hid hGo; clear hGo
      by_cases hlt : ii < l.length
      · have hbii : (ii : Int) + 1 ≤ 9223372036854775807 := by unfold maxLen at hcmC; omega
        have hxl0 : ¬ l.length = 0 := by omega
        obtain ⟨b0, o0, rfl, hrow⟩ := HROW.out.resolve_left hxl0
        have hold0 : Below w0.heap.size w0 wr := HHW.out.trans (HGO.out.old HHW.out.size (fun g hg => Nat.le_trans hB0 (HOR0.out g hg)))
        obtain ⟨hty, u0, u1, u2, u3, u4, u5, m0, m1, m2, m3, m4, m5, hnd⟩ := SlIn.item6 rfl hrow ii hlt
        have hsz0 := List.sizeOf_lt_of_mem (List.getElem_mem hlt)
        have kk := keeps_below hold0
        have g0 := kk _ _ _ m0
        have g1 := kk _ _ _ m1
        have g2 := kk _ _ _ m2
        have g3 := kk _ _ _ m3
        have g4 := kk _ _ _ m4
        have g5 := kk _ _ _ m5
        have hle0 := flatL_at_le hlt
        have htk0 := flatL_take hlt
        clear m0 m1 m2 m3 m4 m5 kk hrow
        obtain ⟨X, hX⟩ : ∃ X, l[ii] = X := ⟨_, rfl⟩
        rw [hX] at hnd hty htk0 hle0 hsz0
        clear hX
        obtain ⟨ty, k, n, nm, xs, cs, ts, es⟩ := X
        simp only [Nd.ty] at hty
        subst hty
        have hND := Lib.hid hnd
        unfold NdIn at hnd
        obtain ⟨hz, -, -, -, vx, vc, vt, ve, hvs, hxs, hcs, hts, hes⟩ := hnd
        simp only [fits] at hz
        subst hz
        simp only [lay, List.cons.injEq, and_true] at hvs
        obtain ⟨rfl, rfl, rfl, rfl, rfl, rfl⟩ := hvs
        have hu : flatN (.mk .S k 0 nm xs cs ts es) = [.mk .S k 0 nm xs cs ts es] ++ (flatL ts ++ flatL es) := by rw [flatN]; rfl
        rw [hu] at htk0 hle0
        clear hu
        simp only [Nd.mk.sizeOf_spec] at hsz0
        simp only [List.length_append, List.length_cons, List.length_nil] at hle0
        have HT := Lib.hid (fun L C v w => HIH.out ts _ L C v w (by omega) hts)
        have HE := Lib.hid (fun L C v w => HIH.out es _ L C v w (by omega) hes)
        obtain ⟨a1, c1, rfl, -⟩ := hcs
        obtain ⟨a2, c2, rfl, -⟩ := hxs
        obtain ⟨a3, c3, rfl, -⟩ := hts
        obtain ⟨a4, c4, rfl, -⟩ := hes
        obtain ⟨X, hX⟩ : ∃ X, Nd.mk .S k 0 nm xs cs ts es = X := ⟨_, rfl⟩
        rw [hX] at hND htk0
        have hXS : X.ty = .S := by rw [← hX]; rfl
        clear hX
        obtain ⟨LB, hLB⟩ : ∃ x, L ++ flatL (l.take ii) = x := ⟨_, rfl⟩
        have hOo := HOO.out; clear HOO
        rw [hLB] at hOo hSo
        obtain ⟨FIN, hFN⟩ : ∃ x, L ++ flatL (l.take (ii + 1)) = x := ⟨_, rfl⟩
        have hlenLB := congrArg List.length hLB
        simp only [List.length_append] at hlenLB
        have HFN := Lib.hid hFN
        have hfin : LB ++ ([X] ++ (flatL ts ++ flatL es)) = FIN := by rw [← hLB, ← hFN, htk0, List.append_assoc]
        rw [← List.append_assoc, ← List.append_assoc] at hfin
        have HFIN := Lib.hid hfin; clear hfin htk0 hLB hsz0 hFN
        have hor : ∀ g, vo.ownBlock = some g → base ≤ g ∧ g < wr.heap.size := hOo.lt
        obtain ⟨W1, hW1⟩ : ∃ W1, wr.alloc (.cells #[.int .i64 k, .string nm, .slice a2 xs.length c2, .slice a1 cs.length c1, .slice a3 ts.length c3, .slice a4 es.length c4] 69) = W1 := ⟨_, rfl⟩
        obtain ⟨B, hBe⟩ : ∃ B, wr.heap.size = B := ⟨_, rfl⟩
        have hX1 : Blk W1 B #[.int .i64 k, .string nm, .slice a2 xs.length c2, .slice a1 cs.length c1, .slice a3 ts.length c3, .slice a4 es.length c4] 69 := by rw [← hW1, ← hBe]; exact Blk.new wr _ _
        have hO1 : W1.ownsRow base 69 6 vo LB.length CO := by rw [← hW1]; exact hOo.alloc _
        have hG1 : Gr vo.ownBlock vo.ownBlock wr W1 := by rw [← hW1]; exact (Gr.refl _ wr).alloc _
        have hS1 : W1.heap.size = B + 1 := by rw [← hW1, ← hBe, World.size_alloc]
        have hbw2 : base ≤ B := by have := HGO.out.size; omega
        rw [hBe] at hor
        have hvB : vo.ownBlock ≠ some B := fun e => by have := (hor B e).2; omega
        have HX1 := Lib.hid hX1; clear hX1
        have HO1 := Lib.hid hO1; clear hO1 hOo
        have HG1 := Lib.hid hG1; clear hG1
        have HS1 := Lib.hid hS1; clear hS1
        have HW1 := Lib.hid hW1; clear hW1
        have HBE := Lib.hid hBe; clear hBe
        have HOR := Lib.hid (fun g hg => (hor g hg).1); clear hor
        have HWB := Lib.hid (hold0.trans (HG1.out.old hold0.size (fun g hg => Nat.le_trans hB0 (HOR.out g hg)))); clear hold0
        go_upto_region 4 with fail
        rw [HW1.out, HBE.out]
        clear HW1 g0 g1 g2 g3 g4 g5
        have k0 : W1.cell? ⟨B, 0, none⟩ = some (.int .i64 k) := HX1.out.cell 0
        have k1 : W1.cell? ⟨B, 1, none⟩ = some (.string nm) := HX1.out.cell 1
        have k2 : W1.cell? ⟨B, 2, none⟩ = some (.slice a2 xs.length c2) := HX1.out.cell 2
        have k3 : W1.cell? ⟨B, 3, none⟩ = some (.slice a1 cs.length c1) := HX1.out.cell 3
        have k4 : W1.cell? ⟨B, 4, none⟩ = some (.slice a3 ts.length c3) := HX1.out.cell 4
        have k5 : W1.cell? ⟨B, 5, none⟩ = some (.slice a4 es.length c4) := HX1.out.cell 5
        have HNW := Lib.hid (news_stmt W1 (.int .i64 k) (.string nm) (.slice a2 xs.length c2) (.slice a1 cs.length c1) (.slice a3 ts.length c3) (.slice a4 es.length c4) (B + 1) HS1.out)
        have hSZ : base ≤ (W1.alloc (.cells #[.int .i64 k, .string nm, .slice a2 xs.length c2, .slice a1 cs.length c1, .slice a3 ts.length c3, .slice a4 es.length c4] 69)).heap.size := by rw [World.size_alloc, HS1.out]; omega
        have HSZ := Lib.hid hSZ; clear hSZ
        have HSO := Lib.hid hSo; clear hSo
        have hl1 : LB.length + 1 ≤ maxLen := by unfold maxLen; omega
        have hs1 : W1.heap.size = B + 1 := HS1.out
        go_upto_region 5 with (first | (at_builtin; (with_reducible refine wpList_append_lies _ rfl (.tmp 13) (.tmp 15) 23 rfl base 69 i0 _ 6 120 Try.underlying23 HI0.out HZ0.out HZ1.out HZ2.out rfl (by omega) vo LB.length CO rfl (HO1.out.alloc _) ⟨_, 0, none⟩ 1 1 [.int .i64 k, .string nm, .slice a2 xs.length c2, .slice a1 cs.length c1, .slice a3 ts.length c3, .slice a4 es.length c4] rfl rfl HNW.out (stmt_one _ _ _ _ _ _ _ _ _ _ _ _ _ _) (by omega) hl1 (by omega) HSZ.out _ rfl ?_); (intro gg cap w2 hown4 hgrow hat hlt2)) | fail)
        clear k0 k1 k2 k3 k4 k5 HNW HSZ hs1
        obtain ⟨v1, hv1⟩ : ∃ v, Value.slice (some ⟨gg, 0, none⟩) (LB.length + 1) cap = v := ⟨_, rfl⟩
        have hG2 : Gr vo.ownBlock v1.ownBlock W1 w2 := by rw [← hv1]; exact gr_grown ((Gr.refl _ W1).alloc _) hgrow (own_new hat)
        have hX2 : Blk w2 B #[.int .i64 k, .string nm, .slice a2 xs.length c2, .slice a1 cs.length c1, .slice a3 ts.length c3, .slice a4 es.length c4] 69 := blk_grown (HX1.out.alloc _) hgrow hvB
        have hS2 : Sts w0 (LB ++ [X]) (CO ++ [.int .i64 k, .string nm, .slice a2 xs.length c2, .slice a1 cs.length c1, .slice a3 ts.length c3, .slice a4 es.length c4]) := HSO.out.app ⟨_, _, _, _, _, _, [], rfl, hXS, hND.out, rfl⟩
        rw [hv1] at hown4
        rw [show LB.length + 1 = (LB ++ [X]).length by simp] at hown4
        have hold : Below w0.heap.size w0 w2 := HWB.out.trans (hG2.old HWB.out.size (fun g hg => Nat.le_trans hB0 (HOR.out g hg)))
        have hsz : base ≤ w2.heap.size := by have := hG2.size; have := HS1.out; omega
        have HC := Lib.hid (HT.out _ _ v1 w2 hold hsz hown4 hS2 (by simp only [List.length_append, List.length_cons, List.length_nil]; omega))
        have hvr : v1.ownBlock ≠ some B := fun e => by
          rcases hG2.2 with h | h
          · exact hvB (h.symm.trans e)
          · have := h B e; have := HS1.out; omega
        have k4 : w2.cell? ⟨B, 4, none⟩ = some (.slice a3 ts.length c3) := hX2.cell 4
        have HX2 := Lib.hid hX2; clear hX2
        have HG2 := Lib.hid hG2; clear hG2
        rw [hv1]
        clear hown4 hS2 hold hsz hgrow hat hlt2 hv1
        go_wp2_with fail
        refine HC.out.mono ?_
        rintro e w3 ⟨v2, C2, rfl, hO3, hS3, hG3⟩
        have hX3 := HX2.out.gr hG3 hvr
        have hG4 := HG2.out.trans hG3
        have j5 : w3.cell? ⟨B, 5, none⟩ = some (.slice a4 es.length c4) := hX3.cell 5
        have hold : Below w0.heap.size w0 w3 := HWB.out.trans (hG4.old HWB.out.size (fun g hg => Nat.le_trans hB0 (HOR.out g hg)))
        have hsz : base ≤ w3.heap.size := by have := hG4.size; have := HS1.out; omega
        have HC2 := Lib.hid (HE.out _ _ v2 w3 hold hsz hO3 hS3 (by simp only [List.length_append, List.length_cons, List.length_nil]; omega))
        rw [HFIN.out] at HC2
        clear hold hsz hO3 hX3 hG3 hS3 k4 HC HX2
        have HG4 := Lib.hid hG4; clear hG4
        go_wp2_with fail
        refine HC2.out.mono ?_
        rintro e w4 ⟨v3, C3, rfl, hO5, hS5, hG5⟩
        rw [← HFN.out] at hO5 hS5
        have HO5 := Lib.hid hO5; clear hO5
        have HS5 := Lib.hid hS5; clear hS5
        have HG5 := Lib.hid (HGO.out.trans (HG1.out.trans (HG4.out.trans hG5))); clear hG5
        go_wp2_with fail
        go_roundw
        case rel => exact ⟨v3, ii + 1, C3, rfl, by go_num, by omega, HO5.out, HS5.out, HG5.out⟩
        case measure => simp [intOf]; omega
      · obtain rfl : ii = l.length := by omega
        have h0 := HOO.out
        rw [List.take_length, HPOST.out] at h0 hSo
        have HO3 := Lib.hid h0; clear h0
        have HSO := Lib.hid hSo; clear hSo
        go_wp2_with fail
        go_ret
        exact ⟨vo, CO, rfl, HO3.out, HSO.out, HGO.out⟩
end Go.Proofs.Ytofbocmbgadfnaa

/-
  Plain: declarations that are gone through, and what a map of them tells of a name.
-/
namespace Go.Proofs.Ytofbocmbgadfnaa
open Go Go.RowKit Go.Maps

def dNm : Nd → ByteArray | .mk _ _ _ nm _ _ _ _ => nm
def dSz : Nd → Int | .mk _ _ n _ _ _ _ _ => n
def kD (n : Int) : Int := if n = 0 then 1 else 2
/-- What a name is declared as, the last one; 0: not at all. -/
def lookL (l : List Nd) (s : ByteArray) : Int := l.foldl (fun k x => if (dNm x).toList == s.toList then kD (dSz x) else k) 0
theorem lookL_snoc (l : List Nd) (x : Nd) (s : ByteArray) : lookL (l ++ [x]) s = if (dNm x).toList == s.toList then kD (dSz x) else lookL l s := by unfold lookL; rw [List.foldl_append]; rfl
def cntK (l : List Nd) (k : Int) : Nat := (l.filter (fun x => kD (dSz x) == k)).length
theorem cntK_snoc (l : List Nd) (x : Nd) (k : Int) : cntK (l ++ [x]) k = cntK l k + if kD (dSz x) == k then 1 else 0 := by
  unfold cntK
  rw [List.filter_append, List.length_append]
  congr 1
  by_cases h : (kD (dSz x) == k) = true
  · simp [h]
  · simp [h]
theorem cntK_le (l : List Nd) (k : Int) : cntK l k ≤ l.length := List.length_filter_le _ _
def mostK (k : Int) : Int := if k = 1 then 32 else 16
/-- What is wrong with a declaration behind those of l. -/
def dF (l : List Nd) (x : Nd) : Int := if lookL l (dNm x) ≠ 0 then 60 else if 1024 < dSz x then 61 else if mostK (kD (dSz x)) < (cntK l (kD (dSz x)) : Int) + 1 then 62 else 0
/-- The first declaration that is wrong, and why. -/
def declW : List Nd → List Nd → ByteArray × Int
  | _, [] => (⟨#[]⟩, 0)
  | p, x :: r => if dF p x ≠ 0 then (dNm x, dF p x) else declW (p ++ [x]) r
theorem declW_at {l : List Nd} {i : Nat} (hi : i < l.length) : declW (l.take i) (l.drop i) = if dF (l.take i) l[i] ≠ 0 then (dNm l[i], dF (l.take i) l[i]) else declW (l.take (i + 1)) (l.drop (i + 1)) := by
  rw [List.drop_eq_getElem_cons hi, declW, List.take_append_getElem hi]
theorem pick_60 {c n m k : Int} {nm : ByteArray} {r : ByteArray × Int} (h : c ≠ 0) : (if (if c ≠ 0 then (60 : Int) else if 1024 < n then 61 else if m < k then 62 else 0) ≠ 0 then (nm, (if c ≠ 0 then (60 : Int) else if 1024 < n then 61 else if m < k then 62 else 0)) else r) = (nm, 60) := by simp [h]
theorem pick_61 {n m k : Int} {nm : ByteArray} {r : ByteArray × Int} (h : 1024 < n) : (if (if (0 : Int) ≠ 0 then (60 : Int) else if 1024 < n then 61 else if m < k then 62 else 0) ≠ 0 then (nm, (if (0 : Int) ≠ 0 then (60 : Int) else if 1024 < n then 61 else if m < k then 62 else 0)) else r) = (nm, 61) := by simp [h]
theorem pick_62 {n m k : Int} {nm : ByteArray} {r : ByteArray × Int} (h1 : ¬ 1024 < n) (h : m < k) : (if (if (0 : Int) ≠ 0 then (60 : Int) else if 1024 < n then 61 else if m < k then 62 else 0) ≠ 0 then (nm, (if (0 : Int) ≠ 0 then (60 : Int) else if 1024 < n then 61 else if m < k then 62 else 0)) else r) = (nm, 62) := by simp [h1, h]
theorem pick_0 {n m k : Int} {nm : ByteArray} {r : ByteArray × Int} (h1 : ¬ 1024 < n) (h : ¬ m < k) : (if (if (0 : Int) ≠ 0 then (60 : Int) else if 1024 < n then 61 else if m < k then 62 else 0) ≠ 0 then (nm, (if (0 : Int) ≠ 0 then (60 : Int) else if 1024 < n then 61 else if m < k then 62 else 0)) else r) = r := by simp [h1, h]
/-- The map of declarations. -/
def mapD (l : List Nd) : DataW Unit := l.foldl (fun D x => D.put (keyS (dNm x)) (.lit (.int .i64 (kD (dSz x))))) (.map [])
theorem mapD_snoc (l : List Nd) (x : Nd) : mapD (l ++ [x]) = (mapD l).put (keyS (dNm x)) (.lit (.int .i64 (kD (dSz x)))) := by unfold mapD; rw [List.foldl_append]; rfl
theorem isMap_put {D : DataW Unit} (h : IsMap D) (k : Lit) (d : DataW Unit) : IsMap (D.put k d) := by
  obtain ⟨es, rfl⟩ := h
  exact ⟨_, rfl⟩
theorem isMap_foldl : ∀ (l : List Nd) (D : DataW Unit), IsMap D → IsMap (l.foldl (fun D x => D.put (keyS (dNm x)) (.lit (.int .i64 (kD (dSz x))))) D)
  | [], _, h => h
  | _ :: r, _, h => isMap_foldl r _ (isMap_put h _ _)
theorem isMap_mapD (l : List Nd) : IsMap (mapD l) := isMap_foldl l _ ⟨[], rfl⟩
theorem keyS_ne {a b : ByteArray} (h : ¬ a.toList = b.toList) : keyS b ≠ keyS a := by
  intro e
  unfold keyS at e
  simp only [Lit.string.injEq] at e
  exact h (by rw [ByteArray.toList_eq, ByteArray.toList_eq]; exact e.symm)
theorem keyS_eq {a b : ByteArray} (h : a.toList = b.toList) : keyS a = keyS b := by
  unfold keyS
  rw [ByteArray.toList_eq, ByteArray.toList_eq] at h
  rw [h]
theorem mapD_at_rev : ∀ (l : List Nd) (s : ByteArray), (mapD l.reverse).atKey (keyS s) (.lit (.int .i64 0)) = .lit (.int .i64 (lookL l.reverse s))
  | [], s => rfl
  | x :: r, s => by
    rw [List.reverse_cons, mapD_snoc, lookL_snoc]
    by_cases h : (dNm x).toList = s.toList
    · rw [if_pos (by simpa using h), keyS_eq h]
      exact atKey_put_same (isMap_mapD _) (show WideAt.IsKeyLit (keyS s) from True.intro) _ _
    · rw [if_neg (by simpa using h), atKey_put_other (keyS_ne h)]
      exact mapD_at_rev r s
theorem mapD_at (l : List Nd) (s : ByteArray) : (mapD l).atKey (keyS s) (.lit (.int .i64 0)) = .lit (.int .i64 (lookL l s)) := by
  have h := mapD_at_rev l.reverse s
  rwa [List.reverse_reverse] at h
/-- A look-up whose answer is known. -/
theorem wpList_lookup_at {P : Program} (w : World) {ops : Array Oper} {rest : List Oper} {o : Oper} {a : Act} {Q : Exit → Act → World → Prop}
    (hg : o.guard = none) (m x : Operand) (t : TypeId) (hop : o.op = Op.lookup t m x false)
    (k e : TypeId) (q : IntKind) (K : Keyed P k) (ht : P.underlying t = some (.map k e)) (he : P.underlying e = some (.int q)) (hz : (zeroValue e).run P w = .ok (.int q 0) w) (b n : Nat) (D : DataW Unit)
    (hm : a.eval m = .map (some b)) (hown : w.ownsMap P k (plainElem P e) b n D) (key : Value) (kl : Lit) (hx : a.eval x = key) (hkey : keyOf P k key = some kl) (c : Int) (hc : D.atKey kl (.lit (.int q 0)) = .lit (.int q c))
    (hK : wpList P ops Q rest (a.put o.dst (.int q c)) w) : wpList P ops Q (o :: rest) a w :=
  wpList_lookup_own_int w hg m x t hop k e q K ht he hz b n D hm hown key kl hx hkey (fun c' hat _ => by
    rw [hc] at hat
    simp only [DataW.lit.injEq, Lit.int.injEq, true_and] at hat
    subst hat
    exact hK)
theorem only_grown {B : Nat} {w w' : World} (h : Only B w w') : w.grownBy w' (some B) := ⟨h.os, h.tape, h.output, h.size, fun k hk hr => h.block k hk (fun e => hr (by rw [e]))⟩
theorem ownsMap_only {P : Program} {k : TypeId} {R : Value → Option (DataW Unit × List MemPlace)} {w w' : World} {M n B : Nat} {D : DataW Unit} (h : w.ownsMap P k R M n D) (ho : Only B w w') (hne : M ≠ B) : w'.ownsMap P k R M n D := h.kept (only_grown ho) (fun e => hne (by simpa using e))
theorem gr_only {r : Option Nat} {a w w' : World} {B : Nat} (h : Gr r r a w) (ho : Only B w w') (hB : a.heap.size ≤ B) : Gr r r a w' :=
  ⟨⟨ho.os.trans h.1.os, ho.tape.trans h.1.tape, ho.output.trans h.1.output, Nat.le_trans h.1.size ho.size, fun k hk hr => (ho.block k (Nat.lt_of_lt_of_le hk h.1.size) (by omega)).trans (h.1.block k hk hr)⟩, .inl rfl⟩
theorem gr_drewN {r r' : Option Nat} {a w : World} (h : Gr r r' a w) (n : Nat) : Gr r r' a (w.drewN n) := ⟨⟨h.1.os, h.1.tape, h.1.output, h.1.size, h.1.block⟩, h.2⟩
theorem ownM_drewN {P : Program} {k : TypeId} {R : Value → Option (DataW Unit × List MemPlace)} {w : World} {M n : Nat} {D : DataW Unit} (h : w.ownsMap P k R M n D) (m : Nat) : (w.drewN m).ownsMap P k R M n D := h
theorem kD_cases (n : Int) : kD n = 1 ∨ kD n = 2 := by unfold kD; split <;> simp
theorem i64_small (k : Int) (h : k = 1 ∨ k = 2) : (Lit.int .i64 k).wf = true := by rcases h with rfl | rfl <;> decide
theorem zeroI (w : World) : (zeroValue 3).run Try.prog w = .ok (.int .i64 0) w := by kernel_rfl
theorem under_int : Try.prog.underlying 3 = some (.int .i64) := by kernel_rfl
end Go.Proofs.Ytofbocmbgadfnaa

/-
  The project's kindOf, most and declare (package well): proved is what each answers, and that declare fills the map that it is handed.
-/
namespace Go.Proofs.Ytofbocmbgadfnaa
open Go Go.RowKit Go.Maps

set_option maxRecDepth 100000 in
theorem kindOf_any (nm : ByteArray) (n : Int) (w : World) : Calls Try.prog 22 #[.agg #[.string nm, .int .i64 n]] w (fun e w' => e = .returned (.int .i64 (kD n)) ∧ Below w.heap.size w w') := by
  unfold kD
  by_cases h : n = 0
  · rw [if_pos h]
    have h1 : (n == 0) = true := by simpa using h
    clear h
    go_enter Try.func22, Try.ntmps22
    go_wp2_with fail
    go_ret
    exact ⟨rfl, (Below.refl _ w).alloc (Nat.le_refl _) _⟩
  · rw [if_neg h]
    have h1 : (n == 0) = false := by simpa using h
    clear h
    go_enter Try.func22, Try.ntmps22
    go_wp2_with fail
    go_ret
    exact ⟨rfl, (Below.refl _ w).alloc (Nat.le_refl _) _⟩
theorem most_one (w : World) : Calls Try.prog 25 #[.int .i64 1] w (fun e w' => e = .returned (.int .i64 32) ∧ w' = w) := by
  go_enter Try.func25, Try.ntmps25
  go_wp2_with fail
  go_ret
  exact ⟨rfl, rfl⟩
theorem most_two (w : World) : Calls Try.prog 25 #[.int .i64 2] w (fun e w' => e = .returned (.int .i64 16) ∧ w' = w) := by
  go_enter Try.func25, Try.ntmps25
  go_wp2_with fail
  go_ret
  exact ⟨rfl, rfl⟩
abbrev OwnM (w : World) (M n : Nat) (D : DataW Unit) : Prop := w.ownsMap Try.prog 9 (plainElem Try.prog 3) M n D
/-- What declare tells, and leaves. -/
def DeclTo (w : World) (M : Nat) (ds : List Nd) : Ending → World → Prop := fun e w' => e = .returned (.tuple #[.string (declW [] ds).1, .int .i64 (declW [] ds).2]) ∧ w.grownBy w' (some M) ∧ ((declW [] ds).2 = 0 → OwnM w' M ds.length (mapD ds))

set_option maxRecDepth 100000 in
set_option maxHeartbeats 16000000 in
theorem declare_any (w0 : World) (ds : List Nd) (vd : Value) (w : World) (M : Nat) (hd : SlIn w0 .D ds vd) (hw : Below w0.heap.size w0 w) (hM0 : w0.heap.size ≤ M) (hm : OwnM w M 0 (mapD [])) :
    Calls Try.prog 16 #[.map (some M), vd] w (DeclTo w M ds) := by
  obtain ⟨A, C, rfl, hlC, hcmC, hROW⟩ := hd
  have HROW := Lib.hid hROW; clear hROW
  have hMw := hm.lt
  have HHW := Lib.hid hw; clear hw
  have HM0 := Lib.hid hm; clear hm
  obtain ⟨POST, hPOST⟩ : ∃ P, declW [] ds = P := ⟨_, rfl⟩
  unfold DeclTo
  rw [hPOST]
  have HPOST := Lib.hid hPOST; clear hPOST
  obtain ⟨B, hBe⟩ : ∃ B, w.heap.size = B := ⟨_, rfl⟩
  obtain ⟨W1, hW1⟩ : ∃ W1, w.alloc (.cells #[.int .i64 0, .int .i64 0, .int .i64 0] 63) = W1 := ⟨_, rfl⟩
  have hX1 : Blk W1 B #[.int .i64 0, .int .i64 0, .int .i64 0] 63 := by rw [← hW1, ← hBe]; exact Blk.new w _ _
  have hG1 : Gr (some M) (some M) w W1 := by rw [← hW1]; exact (Gr.refl _ w).alloc _
  have hM1 : OwnM W1 M 0 (mapD []) := by rw [← hW1]; exact HM0.out.alloc _
  have hS1 : B < W1.heap.size := by rw [← hW1, World.size_alloc]; omega
  rw [hBe] at hMw
  have hMB : M ≠ B := by omega
  have HX1 := Lib.hid hX1; clear hX1
  have HG1 := Lib.hid hG1; clear hG1
  have HM1 := Lib.hid hM1; clear hM1 HM0
  have HS1 := Lib.hid hS1; clear hS1
  have HW1 := Lib.hid hW1; clear hW1
  have HBE := Lib.hid hBe; clear hBe
  go_enter Try.func16, Try.ntmps16
  go_wp2_with fail
  go_step3
  go_wp2_with fail
  go_step3
  rw [HW1.out, HBE.out]
  clear HW1
  have hGW : w0.heap.size ≤ w.heap.size := HHW.out.size
  have HGW := Lib.hid hGW; clear hGW
  go_wp2_with fail
  go_loopw [4, 5, 12] (fun s4 s5 x wr => ∃ (i : Nat), s4 = .string ⟨#[]⟩ ∧ s5 = .int .i64 0 ∧ x = .int .i64 i ∧ i ≤ ds.length ∧ declW (ds.take i) (ds.drop i) = POST ∧ OwnM wr M i (mapD (ds.take i)) ∧ Blk wr B #[.int .i64 0, .int .i64 (cntK (ds.take i) 1), .int .i64 (cntK (ds.take i) 2)] 63 ∧ Gr (some M) (some M) w wr) (fun _ _ x _ => ds.length - (intOf x).toNat)
  case atStart => exact ⟨0, rfl, rfl, rfl, by omega, by rw [List.take_zero, List.drop_zero]; exact HPOST.out, by rw [List.take_zero]; exact HM1.out, by rw [List.take_zero]; exact HX1.out, HG1.out⟩
  case round =>
    obtain ⟨i, rfl, rfl, rfl, hi, hPr, hMr, hXr, hGr⟩ := hrel
    clear HM1 HX1 HG1 HPOST
    have HG := Lib.hid hGr; clear hGr
    by_cases hlt : i < ds.length
    · have hbi : (i : Int) + 1 ≤ 9223372036854775807 := by unfold maxLen at hcmC; omega
      have hxl : ¬ ds.length = 0 := by omega
      obtain ⟨b, o, rfl, hrow⟩ := HROW.out.resolve_left hxl
      have hold : Below w0.heap.size w0 wr := HHW.out.trans (HG.out.old HGW.out (fun g hg => by cases hg; exact hM0))
      obtain ⟨hty, u0, u1, m0, m1, hnd⟩ := SlIn.item2 rfl hrow i hlt
      have kk := keeps_below hold
      have g0 := kk _ _ _ m0
      have g1 := kk _ _ _ m1
      have hpa := declW_at hlt
      have hma := mapD_snoc (ds.take i) ds[i]
      have hc1 := cntK_snoc (ds.take i) ds[i] 1
      have hc2 := cntK_snoc (ds.take i) ds[i] 2
      rw [List.take_append_getElem hlt] at hma hc1 hc2
      clear m0 m1 kk hrow hold
      obtain ⟨X, hX⟩ : ∃ X, ds[i] = X := ⟨_, rfl⟩
      rw [hX] at hnd hty hpa hma hc1 hc2
      clear hX
      obtain ⟨ty, k, n, nm, xs, cs, ts, es⟩ := X
      simp only [Nd.ty] at hty
      subst hty
      unfold NdIn at hnd
      obtain ⟨hz, -, -, hnm, vx, vc, vt, ve, hvs, -⟩ := hnd
      simp only [lay, List.cons.injEq, and_true] at hvs
      obtain ⟨rfl, rfl⟩ := hvs
      clear hz
      simp only [dNm, dSz] at hma hc1 hc2
      rw [hPr] at hpa
      have hat := mapD_at (ds.take i) nm
      have hkey : keyOf Try.prog 9 (.string nm) = some (keyS nm) := WideMaps.keyOf_string_mk (by kernel_rfl) hnm
      have hdf : dF (ds.take i) (.mk .D k n nm xs cs ts es) = if lookL (ds.take i) nm ≠ 0 then 60 else if 1024 < n then 61 else if mostK (kD n) < (cntK (ds.take i) (kD n) : Int) + 1 then 62 else 0 := rfl
      have hdn : dNm (.mk .D k n nm xs cs ts es) = nm := rfl
      rw [hdf, hdn] at hpa
      clear hdf hdn
      have hcl1 := cntK_le (ds.take i) 1
      have hcl2 := cntK_le (ds.take i) 2
      rw [List.length_take] at hcl1 hcl2
      have hb1 : (cntK (ds.take i) 1 : Int) + 1 ≤ 9223372036854775807 := by unfold maxLen at hcmC; omega
      have hb2 : (cntK (ds.take i) 2 : Int) + 1 ≤ 9223372036854775807 := by unfold maxLen at hcmC; omega
      clear hcl1 hcl2
      obtain ⟨c0, hc0⟩ : ∃ c, lookL (ds.take i) nm = c := ⟨_, rfl⟩
      rw [hc0] at hat hpa
      obtain ⟨n1, hn1⟩ : ∃ c, cntK (ds.take i) 1 = c := ⟨_, rfl⟩
      obtain ⟨n2, hn2⟩ : ∃ c, cntK (ds.take i) 2 = c := ⟨_, rfl⟩
      rw [hn1] at hc1 hb1 hXr
      rw [hn2] at hc2 hb2 hXr
      obtain ⟨DM, hDM⟩ : ∃ D, mapD (ds.take i) = D := ⟨_, rfl⟩
      rw [hDM] at hat hma hMr
      obtain ⟨KY, hKY⟩ : ∃ D, keyS nm = D := ⟨_, rfl⟩
      rw [hKY] at hat hma hkey
      have hKind := kindOf_any nm n
      rcases kD_cases n with hk | hk
      · rw [hk] at hKind hma hpa
        simp only [hk] at hc1 hc2
        have hmo : mostK 1 = 32 := rfl
        rw [hmo, hn1] at hpa
        simp only [show ((1 : Int) == 1) = true from rfl, show ((1 : Int) == 2) = false from rfl, if_true, Bool.false_eq_true, if_false, Nat.add_zero] at hc1 hc2
        clear hmo hk hn1 hn2 hc0 hDM hKY
        obtain ⟨W2, hW2⟩ : ∃ W2, wr.alloc (.cells #[.string nm, .int .i64 n] 44) = W2 := ⟨_, rfl⟩
        obtain ⟨BD, hBD⟩ : ∃ x, wr.heap.size = x := ⟨_, rfl⟩
        have hX2 : Blk W2 B #[.int .i64 0, .int .i64 n1, .int .i64 n2] 63 := by rw [← hW2]; exact hXr.alloc _
        have hY2 : Blk W2 BD #[.string nm, .int .i64 n] 44 := by rw [← hW2, ← hBD]; exact Blk.new wr _ _
        have hM2 : OwnM W2 M i DM := by rw [← hW2]; exact hMr.alloc _
        have hG2 : Gr (some M) (some M) w W2 := by rw [← hW2]; exact HG.out.alloc _
        have hBlt : B < BD := by rw [← hBD]; exact hXr.lt
        have hMlt : M < BD := by rw [← hBD]; exact hMr.lt
        have hne1 : BD ≠ B := by omega
        have HC := Lib.hid (hKind W2)
        have HX2 := Lib.hid hX2; clear hX2 hXr
        have HY2 := Lib.hid hY2; clear hY2
        have HM2 := Lib.hid hM2; clear hM2 hMr
        have HG2 := Lib.hid hG2; clear hG2 HG
        have HW2 := Lib.hid hW2; clear hW2
        have HBD := Lib.hid hBD; clear hBD
        have HKEY := Lib.hid hkey; clear hkey
        have HAT := Lib.hid hat; clear hat
        have HMA := Lib.hid hma; clear hma
        have HC1 := Lib.hid hc1; clear hc1
        have HC2 := Lib.hid hc2; clear hc2
        have HPA := Lib.hid hpa; clear hpa hPr hKind
        go_upto_region 5 with fail
        rw [HW2.out, HBD.out]
        clear HW2 g0 g1
        have k0 : W2.cell? ⟨BD, 0, none⟩ = some (.string nm) := HY2.out.cell 0
        have k1 : W2.cell? ⟨BD, 1, none⟩ = some (.int .i64 n) := HY2.out.cell 1
        go_upto_region 6 with (first | (go_at_call 22; (with_reducible refine HC.out.mono ?_); rintro e w3 ⟨rfl, hb3⟩) | fail)
        have HX3 := Lib.hid (HX2.out.below hb3 HX2.out.lt)
        have HY3 := Lib.hid (HY2.out.below hb3 HY2.out.lt)
        have HM3 := Lib.hid (HM2.out.kept (row := none) (grown_below hb3) (by simp))
        have HG3 := Lib.hid (HG2.out.trans (Gr.below hb3))
        clear hb3 HX2 HY2 HM2 HG2 HC k0 k1
        have q1 : w3.cell? ⟨B, 1, none⟩ = some (.int .i64 n1) := HX3.out.cell 1
        have f1 := HX3.out.free 1
        go_upto_region 7 with fail
        obtain ⟨W4, hW4⟩ : ∃ W, w3.setCell ⟨B, 1, none⟩ (.int .i64 (↑n1 + 1)) = W := ⟨_, rfl⟩
        have hX4 : Blk W4 B #[.int .i64 0, .int .i64 (↑n1 + 1), .int .i64 n2] 63 := by rw [← hW4]; exact HX3.out.set 1 _
        have ho4 : Only B w3 W4 := by rw [← hW4]; exact (Only.refl B _).setCell (by rfl) _
        have hY4 : Blk W4 BD #[.string nm, .int .i64 n] 44 := HY3.out.only ho4 hne1
        have hM4 : OwnM W4 M i DM := ownsMap_only HM3.out ho4 hMB
        have hG4 : Gr (some M) (some M) w W4 := gr_only HG3.out ho4 (by have := HBE.out; omega)
        have r1 : W4.cell? ⟨B, 1, none⟩ = some (.int .i64 (↑n1 + 1)) := hX4.cell 1
        have k0 : W4.cell? ⟨BD, 0, none⟩ = some (.string nm) := hY4.cell 0
        have k1 : W4.cell? ⟨BD, 1, none⟩ = some (.int .i64 n) := hY4.cell 1
        obtain ⟨cn, hcn⟩ : ∃ c : Int, (n1 : Int) + 1 = c := ⟨_, rfl⟩
        rw [hW4, hcn]
        rw [hcn] at hX4 r1
        have HCN := Lib.hid (show (((n1 + 1 : Nat) : Int)) = cn by omega); clear hcn
        have HX4 := Lib.hid hX4; clear hX4
        have HM4 := Lib.hid hM4; clear hM4
        have HG4 := Lib.hid hG4; clear hG4
        clear q1 f1 ho4 hY4 hW4 HX3 HY3 HM3 HG3
        by_cases hz : c0 = 0
        · subst hz
          by_cases hs : 1024 < n
          · have ht : decide (1024 < n) = true := by simpa using hs
            have hpost : POST = (nm, 61) := HPA.out.trans (pick_61 hs)
            have HP := Lib.hid hpost; clear hpost HPA hs
            go_wp2_with (first | (at_lookup; (refine wpList_lookup_at _ rfl _ _ 47 rfl 9 3 .i64 law9 Try.underlying47 under_int (zeroI _) M i DM rfl HM4.out _ _ rfl HKEY.out _ HAT.out ?_)) | fail)
            try rw [Exit.noGoto_ret]
            go_ret2
            exact ⟨by rw [HP.out]; rfl, HG4.out.1, fun h => absurd h (by rw [HP.out]; simp)⟩
          · have ht : decide (1024 < n) = false := by simpa using hs
            by_cases hc : (32 : Int) < cn
            · have hu : decide ((32 : Int) < cn) = true := by simpa using hc
              have hpost : POST = (nm, 62) := (by have h := HPA.out; rw [show ((n1 : Int) + 1) = cn by have := HCN.out; omega] at h; exact h.trans (pick_62 hs hc))
              have HP := Lib.hid hpost; clear hpost HPA hs hc
              go_upto_region 11 with (first | (at_lookup; (refine wpList_lookup_at _ rfl _ _ 47 rfl 9 3 .i64 law9 Try.underlying47 under_int (zeroI _) M i DM rfl HM4.out _ _ rfl HKEY.out _ HAT.out ?_)) | fail)
              go_quiet ((go_at_call 25; exact Calls.quiet_of_same (most_one _)))
              all_goals
                go_wp2_with fail
                try rw [Exit.noGoto_ret]
                go_ret2
                exact ⟨by rw [HP.out]; rfl, (gr_drewN HG4.out _).1, fun h => absurd h (by rw [HP.out]; simp)⟩
            · have hu : decide ((32 : Int) < cn) = false := by simpa using hc
              have hpost : declW (ds.take (i + 1)) (ds.drop (i + 1)) = POST := (by have h := HPA.out; rw [show ((n1 : Int) + 1) = cn by have := HCN.out; omega] at h; exact (h.trans (pick_0 hs hc)).symm)
              have HP := Lib.hid hpost; clear hpost HPA hs hc
              have hix : i < maxLen := by omega
              go_upto_region 11 with (first | (at_lookup; (refine wpList_lookup_at _ rfl _ _ 47 rfl 9 3 .i64 law9 Try.underlying47 under_int (zeroI _) M i DM rfl HM4.out _ _ rfl HKEY.out _ HAT.out ?_)) | fail)
              go_quiet ((go_at_call 25; exact Calls.quiet_of_same (most_one _)))
              all_goals
                go_wp2_with (first | (at_mapUpdate; (refine wpList_mapUpdate_own _ rfl _ _ _ 47 rfl 9 3 law9 Try.underlying47 (plainElem Try.prog 3) M i DM rfl (ownM_drewN HM4.out _) hix _ _ _ rfl rfl HKEY.out _ [] (plainElem_int under_int (i64_small 1 (by decide))) ?_); (intro w5 hown5 hgrow5)) | fail)
                have HX5 := Lib.hid (blk_grown (show Blk (W4.drewN nq) B _ _ from HX4.out) hgrow5 (fun e => hMB (by simpa using e)))
                have HG5 := Lib.hid ((gr_drewN HG4.out nq).trans ⟨hgrow5, .inl rfl⟩)
                have HO5 := Lib.hid hown5
                clear hown5 hgrow5
                go_roundw
                case rel => exact ⟨i + 1, rfl, rfl, by go_num, by omega, HP.out, by rw [HMA.out]; exact HO5.out, by rw [HC1.out, HC2.out, HCN.out]; exact HX5.out, HG5.out⟩
                case measure => simp [intOf]; omega
        · have ht : (c0 != 0) = true := by simpa using hz
          have hpost : POST = (nm, 60) := HPA.out.trans (pick_60 hz)
          have HP := Lib.hid hpost; clear hpost HPA hz
          go_wp2_with (first | (at_lookup; (refine wpList_lookup_at _ rfl _ _ 47 rfl 9 3 .i64 law9 Try.underlying47 under_int (zeroI _) M i DM rfl HM4.out _ _ rfl HKEY.out _ HAT.out ?_)) | fail)
          try rw [Exit.noGoto_ret]
          go_ret2
          exact ⟨by rw [HP.out]; rfl, HG4.out.1, fun h => absurd h (by rw [HP.out]; simp)⟩
      · rw [hk] at hKind hma hpa
        simp only [hk] at hc1 hc2
        have hmo : mostK 2 = 16 := rfl
        rw [hmo, hn2] at hpa
        simp only [show ((2 : Int) == 2) = true from rfl, show ((2 : Int) == 1) = false from rfl, if_true, Bool.false_eq_true, if_false, Nat.add_zero] at hc1 hc2
        clear hmo hk hn1 hn2 hc0 hDM hKY
        obtain ⟨W2, hW2⟩ : ∃ W2, wr.alloc (.cells #[.string nm, .int .i64 n] 44) = W2 := ⟨_, rfl⟩
        obtain ⟨BD, hBD⟩ : ∃ x, wr.heap.size = x := ⟨_, rfl⟩
        have hX2 : Blk W2 B #[.int .i64 0, .int .i64 n1, .int .i64 n2] 63 := by rw [← hW2]; exact hXr.alloc _
        have hY2 : Blk W2 BD #[.string nm, .int .i64 n] 44 := by rw [← hW2, ← hBD]; exact Blk.new wr _ _
        have hM2 : OwnM W2 M i DM := by rw [← hW2]; exact hMr.alloc _
        have hG2 : Gr (some M) (some M) w W2 := by rw [← hW2]; exact HG.out.alloc _
        have hBlt : B < BD := by rw [← hBD]; exact hXr.lt
        have hMlt : M < BD := by rw [← hBD]; exact hMr.lt
        have hne1 : BD ≠ B := by omega
        have HC := Lib.hid (hKind W2)
        have HX2 := Lib.hid hX2; clear hX2 hXr
        have HY2 := Lib.hid hY2; clear hY2
        have HM2 := Lib.hid hM2; clear hM2 hMr
        have HG2 := Lib.hid hG2; clear hG2 HG
        have HW2 := Lib.hid hW2; clear hW2
        have HBD := Lib.hid hBD; clear hBD
        have HKEY := Lib.hid hkey; clear hkey
        have HAT := Lib.hid hat; clear hat
        have HMA := Lib.hid hma; clear hma
        have HC1 := Lib.hid hc1; clear hc1
        have HC2 := Lib.hid hc2; clear hc2
        have HPA := Lib.hid hpa; clear hpa hPr hKind
        go_upto_region 5 with fail
        rw [HW2.out, HBD.out]
        clear HW2 g0 g1
        have k0 : W2.cell? ⟨BD, 0, none⟩ = some (.string nm) := HY2.out.cell 0
        have k1 : W2.cell? ⟨BD, 1, none⟩ = some (.int .i64 n) := HY2.out.cell 1
        go_upto_region 6 with (first | (go_at_call 22; (with_reducible refine HC.out.mono ?_); rintro e w3 ⟨rfl, hb3⟩) | fail)
        have HX3 := Lib.hid (HX2.out.below hb3 HX2.out.lt)
        have HY3 := Lib.hid (HY2.out.below hb3 HY2.out.lt)
        have HM3 := Lib.hid (HM2.out.kept (row := none) (grown_below hb3) (by simp))
        have HG3 := Lib.hid (HG2.out.trans (Gr.below hb3))
        clear hb3 HX2 HY2 HM2 HG2 HC k0 k1
        have q2 : w3.cell? ⟨B, 2, none⟩ = some (.int .i64 n2) := HX3.out.cell 2
        have f2 := HX3.out.free 2
        go_upto_region 7 with fail
        obtain ⟨W4, hW4⟩ : ∃ W, w3.setCell ⟨B, 2, none⟩ (.int .i64 (↑n2 + 1)) = W := ⟨_, rfl⟩
        have hX4 : Blk W4 B #[.int .i64 0, .int .i64 n1, .int .i64 (↑n2 + 1)] 63 := by rw [← hW4]; exact HX3.out.set 2 _
        have ho4 : Only B w3 W4 := by rw [← hW4]; exact (Only.refl B _).setCell (by rfl) _
        have hY4 : Blk W4 BD #[.string nm, .int .i64 n] 44 := HY3.out.only ho4 hne1
        have hM4 : OwnM W4 M i DM := ownsMap_only HM3.out ho4 hMB
        have hG4 : Gr (some M) (some M) w W4 := gr_only HG3.out ho4 (by have := HBE.out; omega)
        have r2 : W4.cell? ⟨B, 2, none⟩ = some (.int .i64 (↑n2 + 1)) := hX4.cell 2
        have k0 : W4.cell? ⟨BD, 0, none⟩ = some (.string nm) := hY4.cell 0
        have k1 : W4.cell? ⟨BD, 1, none⟩ = some (.int .i64 n) := hY4.cell 1
        obtain ⟨cn, hcn⟩ : ∃ c : Int, (n2 : Int) + 1 = c := ⟨_, rfl⟩
        rw [hW4, hcn]
        rw [hcn] at hX4 r2
        have HCN := Lib.hid (show (((n2 + 1 : Nat) : Int)) = cn by omega); clear hcn
        have HX4 := Lib.hid hX4; clear hX4
        have HM4 := Lib.hid hM4; clear hM4
        have HG4 := Lib.hid hG4; clear hG4
        clear q2 f2 ho4 hY4 hW4 HX3 HY3 HM3 HG3
        by_cases hz : c0 = 0
        · subst hz
          by_cases hs : 1024 < n
          · have ht : decide (1024 < n) = true := by simpa using hs
            have hpost : POST = (nm, 61) := HPA.out.trans (pick_61 hs)
            have HP := Lib.hid hpost; clear hpost HPA hs
            go_wp2_with (first | (at_lookup; (refine wpList_lookup_at _ rfl _ _ 47 rfl 9 3 .i64 law9 Try.underlying47 under_int (zeroI _) M i DM rfl HM4.out _ _ rfl HKEY.out _ HAT.out ?_)) | fail)
            try rw [Exit.noGoto_ret]
            go_ret2
            exact ⟨by rw [HP.out]; rfl, HG4.out.1, fun h => absurd h (by rw [HP.out]; simp)⟩
          · have ht : decide (1024 < n) = false := by simpa using hs
            by_cases hc : (16 : Int) < cn
            · have hu : decide ((16 : Int) < cn) = true := by simpa using hc
              have hpost : POST = (nm, 62) := (by have h := HPA.out; rw [show ((n2 : Int) + 1) = cn by have := HCN.out; omega] at h; exact h.trans (pick_62 hs hc))
              have HP := Lib.hid hpost; clear hpost HPA hs hc
              go_upto_region 11 with (first | (at_lookup; (refine wpList_lookup_at _ rfl _ _ 47 rfl 9 3 .i64 law9 Try.underlying47 under_int (zeroI _) M i DM rfl HM4.out _ _ rfl HKEY.out _ HAT.out ?_)) | fail)
              go_quiet ((go_at_call 25; exact Calls.quiet_of_same (most_two _)))
              all_goals
                go_wp2_with fail
                try rw [Exit.noGoto_ret]
                go_ret2
                exact ⟨by rw [HP.out]; rfl, (gr_drewN HG4.out _).1, fun h => absurd h (by rw [HP.out]; simp)⟩
            · have hu : decide ((16 : Int) < cn) = false := by simpa using hc
              have hpost : declW (ds.take (i + 1)) (ds.drop (i + 1)) = POST := (by have h := HPA.out; rw [show ((n2 : Int) + 1) = cn by have := HCN.out; omega] at h; exact (h.trans (pick_0 hs hc)).symm)
              have HP := Lib.hid hpost; clear hpost HPA hs hc
              have hix : i < maxLen := by omega
              go_upto_region 11 with (first | (at_lookup; (refine wpList_lookup_at _ rfl _ _ 47 rfl 9 3 .i64 law9 Try.underlying47 under_int (zeroI _) M i DM rfl HM4.out _ _ rfl HKEY.out _ HAT.out ?_)) | fail)
              go_quiet ((go_at_call 25; exact Calls.quiet_of_same (most_two _)))
              all_goals
                go_wp2_with (first | (at_mapUpdate; (refine wpList_mapUpdate_own _ rfl _ _ _ 47 rfl 9 3 law9 Try.underlying47 (plainElem Try.prog 3) M i DM rfl (ownM_drewN HM4.out _) hix _ _ _ rfl rfl HKEY.out _ [] (plainElem_int under_int (i64_small 2 (by decide))) ?_); (intro w5 hown5 hgrow5)) | fail)
                have HX5 := Lib.hid (blk_grown (show Blk (W4.drewN nq) B _ _ from HX4.out) hgrow5 (fun e => hMB (by simpa using e)))
                have HG5 := Lib.hid ((gr_drewN HG4.out nq).trans ⟨hgrow5, .inl rfl⟩)
                have HO5 := Lib.hid hown5
                clear hown5 hgrow5
                go_roundw
                case rel => exact ⟨i + 1, rfl, rfl, by go_num, by omega, HP.out, by rw [HMA.out]; exact HO5.out, by rw [HC1.out, HC2.out, HCN.out]; exact HX5.out, HG5.out⟩
                case measure => simp [intOf]; omega
        · have ht : (c0 != 0) = true := by simpa using hz
          have hpost : POST = (nm, 60) := HPA.out.trans (pick_60 hz)
          have HP := Lib.hid hpost; clear hpost HPA hz
          go_wp2_with (first | (at_lookup; (refine wpList_lookup_at _ rfl _ _ 47 rfl 9 3 .i64 law9 Try.underlying47 under_int (zeroI _) M i DM rfl HM4.out _ _ rfl HKEY.out _ HAT.out ?_)) | fail)
          try rw [Exit.noGoto_ret]
          go_ret2
          exact ⟨by rw [HP.out]; rfl, HG4.out.1, fun h => absurd h (by rw [HP.out]; simp)⟩
    · obtain rfl : i = ds.length := by omega
      rw [List.take_length, List.drop_length, declW] at hPr
      rw [List.take_length] at hMr
      subst hPr
      have HMr := Lib.hid hMr; clear hMr hXr
      go_wp2_with fail
      try rw [Exit.noGoto_ret]
      go_ret2
      exact ⟨rfl, HG.out.1, fun _ => HMr.out⟩
end Go.Proofs.Ytofbocmbgadfnaa

/-
  The project's misused (package well): proved is which name it tells, and why.
-/
namespace Go.Proofs.Ytofbocmbgadfnaa
open Go Go.RowKit Go.Maps

/-- The first name that is used as what it isn't, by what f tells of names. -/
def badU (f : ByteArray → Int) : List Us → ByteArray × Int
  | [] => (⟨#[]⟩, 0)
  | u :: r => if f u.1 = 0 then (u.1, 63) else if f u.1 = kindB u.2 then badU f r else (u.1, 64)
theorem own_cells {w : World} {base k n : Nat} {t : TypeId} {v : Value} {xs : List Value} (h : w.ownsRow base t k v n xs) : ∃ a c, v = .slice a n c ∧ n ≤ c ∧ (n = 0 ∨ ∃ g, a = some ⟨g, 0, none⟩ ∧ ∀ (j : Nat) u, xs[j]? = some u → w.cell? ⟨g, j, none⟩ = some u) := by
  by_cases h0 : n = 0
  · rcases h.2 with ⟨rfl, _⟩ | ⟨g, cap, cur, rfl, _, _, hn, _⟩
    · exact ⟨none, 0, by rw [h0], by omega, .inl h0⟩
    · exact ⟨_, cap, rfl, hn, .inl h0⟩
  · have hc := fun g hg => h.cells (g := g) hg
    rcases h.2 with ⟨_, h1⟩ | ⟨g, cap, cur, rfl, _, _, hn, _⟩
    · exact absurd h1 h0
    · refine ⟨_, cap, rfl, hn, .inr ⟨g, rfl, fun j u hu => ?_⟩⟩
      have := hc g rfl j u hu
      rwa [add_none, Nat.zero_add] at this
theorem cellsK_at : ∀ (l : List Us) (i : Nat) (hi : i < l.length), (cellsK l)[i * 2]? = some (.string l[i].1) ∧ (cellsK l)[i * 2 + 1]? = some (.int .i64 (kindB l[i].2))
  | [], i, hi => by simp at hi
  | x :: r, 0, hi => ⟨rfl, rfl⟩
  | x :: r, i + 1, hi => by
    have h := cellsK_at r i (by simpa using hi)
    rw [show (i + 1) * 2 = i * 2 + 1 + 1 by omega]
    simpa [cellsK] using h
theorem headU_sz {nm : ByteArray} {a b : Bool} (h : nm.size ≤ maxLen) : ∀ u ∈ headU nm a b, u.1.size ≤ maxLen := by
  intro u hu
  unfold headU at hu
  split at hu
  · rw [List.mem_singleton] at hu
    subst hu
    exact h
  · cases hu
theorem sz_sl {w : World} {ty : Ty} {l : List Nd} {v : Value} (hL : ∀ b o, RowIn w ty l b o → ∀ u ∈ usesL l, u.1.size ≤ maxLen) (h : SlOf l.length (fun b o => RowIn w ty l b o) v) : ∀ u ∈ usesL l, u.1.size ≤ maxLen := by
  obtain ⟨a, c, _, _, _, h0 | ⟨b, o, _, hr⟩⟩ := h
  · obtain rfl := List.eq_nil_of_length_eq_zero h0
    intro u hu
    rw [usesL] at hu
    cases hu
  · exact hL b o hr
mutual
theorem sz_N (w : World) : ∀ (x : Nd) (vs : List Value), NdIn w x vs → ∀ u ∈ usesN x, u.1.size ≤ maxLen
  | .mk ty k n nm xs cs ts es, vs, h => by
    unfold NdIn at h
    obtain ⟨_, _, _, hs, vx, vc, vt, ve, _, hx, hc, ht, he⟩ := h
    have h0 := fun a b => headU_sz (a := a) (b := b) hs
    have h1 := sz_sl (sz_L w .E xs) hx
    have h2 := sz_sl (sz_L w .C cs) hc
    have h3 := sz_sl (sz_L w .S ts) ht
    have h4 := sz_sl (sz_L w .S es) he
    intro u hu
    unfold usesN at hu
    cases ty with
    | E => exact (List.mem_append.1 hu).elim (h0 _ _ u) (h1 u)
    | C => exact (List.mem_append.1 hu).elim (h1 u) (h2 u)
    | S => exact (List.mem_append.1 hu).elim (h0 _ _ u) (fun hu => (List.mem_append.1 hu).elim (h2 u) (fun hu => (List.mem_append.1 hu).elim (h1 u) (fun hu => (List.mem_append.1 hu).elim (h3 u) (h4 u))))
    | D => cases hu
theorem sz_L (w : World) : ∀ (ty : Ty) (l : List Nd) (b o : Nat), RowIn w ty l b o → ∀ u ∈ usesL l, u.1.size ≤ maxLen
  | _, [], _, _, _ => by intro u hu; rw [usesL] at hu; cases hu
  | ty, x :: r, b, o, h => by
    unfold RowIn at h
    obtain ⟨⟨_, vs, _, h2⟩, h3⟩ := h
    intro u hu
    rw [usesL] at hu
    exact (List.mem_append.1 hu).elim (sz_N w x vs h2 u) (sz_L w ty r b (o + ty.size) h3 u)
end
theorem sz_all {w : World} {ty : Ty} {l : List Nd} {v : Value} (h : SlIn w ty l v) : ∀ u ∈ usesL l, u.1.size ≤ maxLen := sz_sl (sz_L w ty l) h

set_option maxRecDepth 100000 in
set_option maxHeartbeats 16000000 in
theorem misused_any (w0 : World) (ds ss : List Nd) (vs : Value) (w : World) (M n0 : Nat) (hs : SlIn w0 .S ss vs) (hw : Below w0.heap.size w0 w) (hm : OwnM w M n0 (mapD ds)) (hfl : (flatL ss).length ≤ 1099511627776) (hul : (usesL ss).length ≤ 1099511627776) :
    Calls Try.prog 17 #[.map (some M), vs] w (fun e w' => e = .returned (.tuple #[.string (badU (lookL ds) (usesL ss)).1, .int .i64 (badU (lookL ds) (usesL ss)).2]) ∧ Below w.heap.size w w') := by
  have hszs := sz_all hs
  have hflat := flat_sl hs
  have HS := Lib.hid (wstmts_any w0 w.heap.size hw.size _ ss vs [] [] (.slice none 0 0) w (Nat.le_refl _) hs hw (Nat.le_refl _) (World.ownsRow_nil _ _ _ _) rfl (by simpa using hfl))
  obtain ⟨A, C, rfl, -⟩ := hs
  obtain ⟨POST, hPOST⟩ : ∃ P, badU (lookL ds) (usesL ss) = P := ⟨_, rfl⟩
  rw [hPOST]
  obtain ⟨FL, hFL⟩ : ∃ P, flatL ss = P := ⟨_, rfl⟩
  rw [hFL] at hflat hfl
  have HFL := Lib.hid hFL; clear hFL
  rw [hflat] at hPOST hul hszs
  have HPOST := Lib.hid hPOST; clear hPOST hflat
  have HSZS := Lib.hid hszs; clear hszs
  have HUL := Lib.hid hul; clear hul
  have hfun := mapD_at ds
  obtain ⟨LK, hLK⟩ : ∃ f, lookL ds = f := ⟨_, rfl⟩
  rw [hLK] at HPOST hfun
  obtain ⟨DM, hDM⟩ : ∃ f, mapD ds = f := ⟨_, rfl⟩
  rw [hDM] at hm hfun
  clear hLK hDM
  have HFUN := Lib.hid hfun; clear hfun
  have HM := Lib.hid hm; clear hm
  have HHW := Lib.hid hw; clear hw
  go_enter Try.func17, Try.ntmps17
  go_wp2_with fail
  go_step3
  go_wp2_with fail
  go_step3
  go_wp2_with fail
  refine HS.out.mono ?_
  rintro e w1 ⟨v1, CS, rfl, hO1, hS1, hG1⟩
  rw [List.nil_append, HFL.out] at hO1 hS1
  have hb1 : Below w.heap.size w w1 := hG1.old (Nat.le_refl _) (fun g hg => by cases hg)
  obtain ⟨a1, c1, rfl, hlc1, hcells⟩ := own_cells hO1
  have HM1 := Lib.hid (HM.out.kept (row := none) (grown_below hb1) (by simp))
  have HB1 := Lib.hid hb1; clear hb1
  have HS1 := Lib.hid hS1; clear hS1
  have HCELLS := Lib.hid hcells; clear hcells hO1 hG1 HS HM
  have HHW1 := Lib.hid (HHW.out.trans (HB1.out.mono HHW.out.size))
  go_wp2_with fail
  go_loopw [4, 5, 13] (fun s4 s5 x wr => ∃ (i : Nat), s4 = .string ⟨#[]⟩ ∧ s5 = .int .i64 0 ∧ x = .int .i64 i ∧ i ≤ FL.length ∧ badU LK ((FL.drop i).flatMap ownU) = POST ∧ Below w1.heap.size w1 wr) (fun _ _ x _ => FL.length - (intOf x).toNat)
  case atStart => exact ⟨0, rfl, rfl, rfl, by omega, by rw [List.drop_zero]; exact HPOST.out, Below.refl _ _⟩
  case round =>
    obtain ⟨wo, hwo⟩ : ∃ x, x = wr := ⟨_, rfl⟩
    subst hwo
    obtain ⟨i, rfl, rfl, rfl, hi, hPr, hBr⟩ := hrel
    have HBR := Lib.hid hBr; clear hBr
    by_cases hlt : i < FL.length
    · have hbi : (i : Int) + 1 ≤ 9223372036854775807 := by omega
      have hxl : ¬ FL.length = 0 := by omega
      obtain ⟨g1, rfl, hcl⟩ := HCELLS.out.resolve_left hxl
      obtain ⟨u0, u1, u2, u3, u4, u5, hty, hnd, m0, m1, m2, m3, m4, m5⟩ := HS1.out.at i hlt
      have kk := fun j u hu => keeps_below HBR.out _ _ _ (hcl j u hu)
      have h0 := kk _ _ m0
      have h1 := kk _ _ m1
      have h2 := kk _ _ m2
      have h3 := kk _ _ m3
      have h4 := kk _ _ m4
      have h5 := kk _ _ m5
      have hmemX : FL[i] ∈ FL := List.getElem_mem hlt
      have hszX : ∀ u ∈ ownU FL[i], u.1.size ≤ maxLen := fun u hu => HSZS.out u (List.mem_flatMap.2 ⟨_, hmemX, hu⟩)
      rw [List.drop_eq_getElem_cons hlt, List.flatMap_cons] at hPr
      have hulX : (ownU FL[i]).length ≤ 1099511627776 := by
        have h := HUL.out
        rw [← List.take_append_drop i FL, List.drop_eq_getElem_cons hlt, List.flatMap_append, List.flatMap_cons, List.length_append, List.length_append] at h
        omega
      obtain ⟨R, hR⟩ : ∃ R, (FL.drop (i + 1)).flatMap ownU = R := ⟨_, rfl⟩
      rw [hR] at hPr
      have HR := Lib.hid hR; clear hR
      clear m0 m1 m2 m3 m4 m5 kk hmemX
      obtain ⟨X, hX⟩ : ∃ X, FL[i] = X := ⟨_, rfl⟩
      rw [hX] at hnd hty hszX hulX hPr
      clear hX
      have HUS := Lib.hid (fun w2 (hb : Below w0.heap.size w0 w2) => suses_any w0 X [u0, u1, u2, u3, u4, u5] w2 hty hnd hb hulX)
      obtain ⟨UL, hUL⟩ : ∃ U, ownU X = U := ⟨_, rfl⟩
      rw [hUL] at hszX hulX hPr HUS
      clear hUL
      have HPr := Lib.hid hPr; clear hPr
      have HSX := Lib.hid hszX; clear hszX
      obtain ⟨ty, k, n, nm, xs, cs, ts, es⟩ := X
      simp only [Nd.ty] at hty
      subst hty
      unfold NdIn at hnd
      obtain ⟨-, -, -, -, vx, vc, vt, ve, hvs, hxs, hcs, hts, hes⟩ := hnd
      simp only [lay, List.cons.injEq, and_true] at hvs
      obtain ⟨rfl, rfl, rfl, rfl, rfl, rfl⟩ := hvs
      obtain ⟨a11, c11, rfl, -⟩ := hcs
      obtain ⟨a12, c12, rfl, -⟩ := hxs
      obtain ⟨a13, c13, rfl, -⟩ := hts
      obtain ⟨a14, c14, rfl, -⟩ := hes
      obtain ⟨W2, hW2⟩ : ∃ W2, wo.alloc (.cells #[.int .i64 k, .string nm, .slice a12 xs.length c12, .slice a11 cs.length c11, .slice a13 ts.length c13, .slice a14 es.length c14] 69) = W2 := ⟨_, rfl⟩
      obtain ⟨B, hBe⟩ : ∃ B, wo.heap.size = B := ⟨_, rfl⟩
      have hX2 : Blk W2 B #[.int .i64 k, .string nm, .slice a12 xs.length c12, .slice a11 cs.length c11, .slice a13 ts.length c13, .slice a14 es.length c14] 69 := by rw [← hW2, ← hBe]; exact Blk.new wo _ _
      have hb2 : Below w1.heap.size w1 W2 := by rw [← hW2]; exact HBR.out.alloc HBR.out.size _
      have HC := Lib.hid (HUS.out W2 (HHW1.out.trans (hb2.mono HHW1.out.size)))
      have HB2 := Lib.hid hb2; clear hb2
      have HX2 := Lib.hid hX2; clear hX2 HUS
      have HW2 := Lib.hid hW2; clear hW2
      have HBE := Lib.hid hBe; clear hBe HBR
      go_upto_region 4 with fail
      rw [HW2.out, HBE.out]
      clear HW2 h0 h1 h2 h3 h4 h5
      have h0 : W2.cell? ⟨B, 0, none⟩ = some (.int .i64 k) := HX2.out.cell 0
      have h1 : W2.cell? ⟨B, 1, none⟩ = some (.string nm) := HX2.out.cell 1
      have h2 : W2.cell? ⟨B, 2, none⟩ = some (.slice a12 xs.length c12) := HX2.out.cell 2
      have h3 : W2.cell? ⟨B, 3, none⟩ = some (.slice a11 cs.length c11) := HX2.out.cell 3
      have h4 : W2.cell? ⟨B, 4, none⟩ = some (.slice a13 ts.length c13) := HX2.out.cell 4
      have h5 : W2.cell? ⟨B, 5, none⟩ = some (.slice a14 es.length c14) := HX2.out.cell 5
      go_wp2_with fail
      refine HC.out.mono ?_
      rintro e w3 ⟨v3, rfl, hO3, hb3⟩
      obtain ⟨a3, c3, rfl, hlc3, hcells3⟩ := own_cells hO3
      have HCL3 := Lib.hid hcells3; clear hcells3 hO3
      have HB3 := Lib.hid (HB2.out.trans (hb3.mono HB2.out.size)); clear hb3 HC h0 h1 h2 h3 h4 h5 HX2
      have HM3 := Lib.hid (HM1.out.kept (row := none) (grown_below HB3.out) (by simp))
      go_wp2_with fail
      go_loopw [4, 5, 20] (fun s4 s5 x wr => ∃ (j : Nat), s4 = .string ⟨#[]⟩ ∧ s5 = .int .i64 0 ∧ x = .int .i64 j ∧ j ≤ UL.length ∧ badU LK (UL.drop j ++ R) = POST ∧ Below w3.heap.size w3 wr) (fun _ _ x _ => UL.length - (intOf x).toNat)
      case atStart => exact ⟨0, rfl, rfl, rfl, by omega, by rw [List.drop_zero]; exact HPr.out, Below.refl _ _⟩
      case round =>
        obtain ⟨j, rfl, rfl, rfl, hj, hPj, hBj⟩ := hrel
        clear HPr
        have HBJ := Lib.hid hBj; clear hBj
        by_cases hlj : j < UL.length
        · have hbj : (j : Int) + 1 ≤ 9223372036854775807 := by omega
          have hxj : ¬ UL.length = 0 := by omega
          obtain ⟨g3, rfl, hcl3⟩ := HCL3.out.resolve_left hxj
          obtain ⟨m0, m1⟩ := cellsK_at UL j hlj
          have h0 := keeps_below HBJ.out _ _ _ (hcl3 _ _ m0)
          have h1 := keeps_below HBJ.out _ _ _ (hcl3 _ _ m1)
          have hsu := HSX.out UL[j] (List.getElem_mem hlj)
          rw [List.drop_eq_getElem_cons hlj, List.cons_append, badU] at hPj
          clear m0 m1 hcl3
          obtain ⟨⟨un, ub⟩, hU⟩ : ∃ X, UL[j] = X := ⟨_, rfl⟩
          rw [hU] at h0 h1 hsu hPj
          clear hU
          simp only at h0 h1 hsu hPj
          have hat := HFUN.out un
          have hkey : keyOf Try.prog 9 (.string un) = some (keyS un) := WideMaps.keyOf_string_mk (by kernel_rfl) hsu
          obtain ⟨c0, hc0⟩ : ∃ c, LK un = c := ⟨_, rfl⟩
          obtain ⟨kb, hkb⟩ : ∃ c, kindB ub = c := ⟨_, rfl⟩
          rw [hc0] at hat hPj
          rw [hkb] at hPj h1
          clear hc0 hkb
          obtain ⟨KY, hKY⟩ : ∃ D, keyS un = D := ⟨_, rfl⟩
          rw [hKY] at hat hkey
          have HAT := Lib.hid hat; clear hat hKY hsu
          have HKEY := Lib.hid hkey; clear hkey
          have HPJ := Lib.hid hPj; clear hPj
          obtain ⟨W5, hW5⟩ : ∃ W2, wr.alloc (.cells #[.string un, .int .i64 kb] 73) = W2 := ⟨_, rfl⟩
          obtain ⟨B5, hBe5⟩ : ∃ B, wr.heap.size = B := ⟨_, rfl⟩
          have hX5 : Blk W5 B5 #[.string un, .int .i64 kb] 73 := by rw [← hW5, ← hBe5]; exact Blk.new wr _ _
          have hb5 : Below w3.heap.size w3 W5 := by rw [← hW5]; exact HBJ.out.alloc HBJ.out.size _
          have HM5 := Lib.hid (HM3.out.kept (row := none) (grown_below hb5) (by simp))
          have HB5 := Lib.hid hb5; clear hb5 HBJ
          have HX5 := Lib.hid hX5; clear hX5
          have HW5 := Lib.hid hW5; clear hW5
          have HBE5 := Lib.hid hBe5; clear hBe5
          go_upto_region 7 with fail
          rw [HW5.out, HBE5.out]
          clear HW5 h0 h1
          have h0 : W5.cell? ⟨B5, 0, none⟩ = some (.string un) := HX5.out.cell 0
          have h1 : W5.cell? ⟨B5, 1, none⟩ = some (.int .i64 kb) := HX5.out.cell 1
          by_cases hz : c0 = 0
          · subst hz
            have HP := Lib.hid (HPJ.out.symm.trans (if_pos rfl)); clear HPJ
            go_wp2_with (first | (at_lookup; (refine wpList_lookup_at _ rfl _ _ 47 rfl 9 3 .i64 law9 Try.underlying47 under_int (zeroI _) M n0 DM rfl HM5.out _ _ rfl HKEY.out _ HAT.out ?_)) | fail)
            try rw [Exit.noGoto_ret]
            go_ret2
            exact ⟨by rw [HP.out]; rfl, HB1.out.trans ((HB3.out.trans (HB5.out.mono HB3.out.size)).mono HB1.out.size)⟩
          · have hz1 : (c0 == 0) = false := by simpa using hz
            by_cases he : c0 = kb
            · have he1 : (c0 == kb) = true := by simpa using he
              have HP := Lib.hid (((if_neg hz).trans (if_pos he)).symm.trans HPJ.out); clear HPJ hz he
              go_wp2_with (first | (at_lookup; (refine wpList_lookup_at _ rfl _ _ 47 rfl 9 3 .i64 law9 Try.underlying47 under_int (zeroI _) M n0 DM rfl HM5.out _ _ rfl HKEY.out _ HAT.out ?_)) | fail)
              go_roundw
              case rel => exact ⟨j + 1, rfl, rfl, by go_num, by omega, HP.out, HB5.out⟩
              case measure => simp [intOf]; omega
            · have he1 : (c0 == kb) = false := by simpa using he
              have HP := Lib.hid (HPJ.out.symm.trans ((if_neg hz).trans (if_neg he))); clear HPJ hz he
              go_wp2_with (first | (at_lookup; (refine wpList_lookup_at _ rfl _ _ 47 rfl 9 3 .i64 law9 Try.underlying47 under_int (zeroI _) M n0 DM rfl HM5.out _ _ rfl HKEY.out _ HAT.out ?_)) | fail)
              try rw [Exit.noGoto_ret]
              go_ret2
              exact ⟨by rw [HP.out]; rfl, HB1.out.trans ((HB3.out.trans (HB5.out.mono HB3.out.size)).mono HB1.out.size)⟩
        · obtain rfl : j = UL.length := by omega
          rw [List.drop_length, List.nil_append, ← HR.out] at hPj
          have HPJ := Lib.hid hPj; clear hPj
          go_wp2_with fail
          go_roundw
          case rel => exact ⟨i + 1, rfl, rfl, by go_num, by omega, HPJ.out, HB3.out.trans (HBJ.out.mono HB3.out.size)⟩
          case measure => simp [intOf]; omega
    · obtain rfl : i = FL.length := by omega
      rw [List.drop_length, List.flatMap_nil, badU] at hPr
      subst hPr
      go_wp2_with fail
      try rw [Exit.noGoto_ret]
      go_ret2
      exact ⟨rfl, HB1.out.trans (HBR.out.mono HB1.out.size)⟩
end Go.Proofs.Ytofbocmbgadfnaa

/-
  Plain: what well's Check tells of a program, and how long the names of a tree are.
-/
namespace Go.Proofs.Ytofbocmbgadfnaa
open Go Go.RowKit Go.Maps

/-- What Check tells. -/
def wellP (ds ss : List Nd) : ByteArray × Int := if faultT (progT ds ss) ≠ 0 then (⟨#[]⟩, faultT (progT ds ss)) else if (declW [] ds).2 ≠ 0 then declW [] ds else badU (lookL ds) (usesL ss)
theorem nms_sz {ds ss : List Nd} (hd : fitL .D ds) (hs : ∀ y ∈ allL ss, y.ty ≠ .D) (hz : faultT (progT ds ss) = 0) : (∀ x ∈ ds, (ownNm x).size ≤ 128) ∧ (∀ u ∈ usesL ss, u.1.size ≤ 128) := by
  have h := fault_names hz
  rw [progT_list (fault_lim hz), allL_app] at h
  have h1 : ∀ n ∈ nmsOf (allL ds ++ allL ss), n.size ≤ 128 := by
    intro n hn
    unfold nmsOf at hn
    obtain ⟨x, hx, rfl⟩ := List.mem_map.1 hn
    obtain ⟨h2, h3⟩ := List.mem_filter.1 hx
    exact h x h2 h3
  rw [nmsOf_app, nms_D ds hd, nms_L ss hs] at h1
  exact ⟨fun x hx => h1 _ (List.mem_append_left _ (List.mem_map_of_mem hx)), fun u hu => h1 _ (List.mem_append_right _ (List.mem_map_of_mem hu))⟩
theorem dNm_own {x : Nd} (h : x.ty = .D) : dNm x = ownNm x := by
  obtain ⟨ty, k, n, s, xs, cs, ts, es⟩ := x
  simp only [Nd.ty] at h
  subst h
  rfl
theorem declW_sz (k : Nat) : ∀ (r p : List Nd), (∀ x ∈ r, (dNm x).size ≤ k) → (declW p r).1.size ≤ k
  | [], _, _ => Nat.zero_le _
  | x :: r, p, h => by
    rw [declW]
    split
    · exact h x List.mem_cons_self
    · exact declW_sz k r _ (fun y hy => h y (List.mem_cons_of_mem _ hy))
theorem badU_sz (f : ByteArray → Int) (k : Nat) : ∀ (l : List Us), (∀ u ∈ l, u.1.size ≤ k) → (badU f l).1.size ≤ k
  | [], _ => Nat.zero_le _
  | x :: r, h => by
    rw [badU]
    split
    · exact h x List.mem_cons_self
    · split
      · exact badU_sz f k r (fun y hy => h y (List.mem_cons_of_mem _ hy))
      · exact h x List.mem_cons_self
theorem flat_le_sl {w : World} {l : List Nd} {v : Value} (hL : ∀ b o, RowIn w .S l b o → (flatL l).length ≤ (allL l).length) (h : SlOf l.length (fun b o => RowIn w .S l b o) v) : (flatL l).length ≤ (allL l).length := by
  obtain ⟨a, c, _, _, _, h0 | ⟨b, o, _, hr⟩⟩ := h
  · obtain rfl := List.eq_nil_of_length_eq_zero h0
    rw [flatL]
    exact Nat.zero_le _
  · exact hL b o hr
mutual
theorem flat_le_N (w : World) : ∀ (x : Nd) (vs : List Value), NdIn w x vs → x.ty = .S → (flatN x).length ≤ (allN x).length
  | .mk ty k n nm xs cs ts es, vs, h, hty => by
    simp only [Nd.ty] at hty
    subst hty
    unfold NdIn at h
    obtain ⟨_, _, _, _, vx, vc, vt, ve, _, _, _, ht, he⟩ := h
    have h3 := flat_le_sl (flat_le_L w ts) ht
    have h4 := flat_le_sl (flat_le_L w es) he
    unfold flatN allN
    simp only [List.length_cons, List.length_append]
    omega
theorem flat_le_L (w : World) : ∀ (l : List Nd) (b o : Nat), RowIn w .S l b o → (flatL l).length ≤ (allL l).length
  | [], _, _, _ => by rw [flatL]; exact Nat.zero_le _
  | x :: r, b, o, h => by
    unfold RowIn at h
    obtain ⟨⟨h1, vs, _, h2⟩, h3⟩ := h
    have h4 := flat_le_N w x vs h2 h1
    have h5 := flat_le_L w r _ _ h3
    rw [flatL, allL, List.length_append, List.length_append]
    omega
end
theorem flat_few {w : World} {ds ss : List Nd} {v : Value} (hs : SlIn w .S ss v) (hz : faultT (progT ds ss) = 0) : (flatL ss).length ≤ 4096 := by
  have h := (progT_ok ds ss).1
  rw [progT_list (fault_lim hz), allL_app, List.length_append] at h
  have h2 := flat_le_sl (flat_le_L w ss) hs
  omega
theorem wellP_sz {ds ss : List Nd} (hd : fitL .D ds) (hs : ∀ y ∈ allL ss, y.ty ≠ .D) : (wellP ds ss).1.size ≤ 128 := by
  unfold wellP
  split
  · exact Nat.zero_le _
  · rename_i hz
    have hz : faultT (progT ds ss) = 0 := by simpa using hz
    obtain ⟨h1, h2⟩ := nms_sz hd hs hz
    split
    · exact declW_sz 128 ds [] (fun x hx => by rw [dNm_own (ty_of hd x hx)]; exact h1 x hx)
    · exact badU_sz _ 128 _ h2
theorem clone_w (s : ByteArray) (w : World) (hs : s.size ≤ 128) : Calls Try.prog 18 #[.string s] w fun e w' => e = .returned (.string s) ∧ Below w.heap.size w w' := clone_any s w (by omega)
end Go.Proofs.Ytofbocmbgadfnaa

/-
  The project's Check (package well): proved is what it tells of a program that lies in memory, and that it turns nothing that lay.
-/
namespace Go.Proofs.Ytofbocmbgadfnaa
open Go Go.RowKit Go.Maps

set_option maxRecDepth 100000 in
set_option maxHeartbeats 8000000 in
theorem wcheck_any (ds ss : List Nd) (v0 v1 : Value) (w : World) (hd : SlIn w .D ds v0) (hs : SlIn w .S ss v1) :
    Calls Try.prog 7 #[.agg #[v0, v1]] w (fun e w' => e = .returned (.tuple #[.string (wellP ds ss).1, .int .i64 (wellP ds ss).2]) ∧ Below w.heap.size w w') := by
  have hfd := fit_list hd
  have hnd := noD_list hs
  have hsz := wellP_sz hfd hnd
  have htc := fun w1 (hb : Below w.heap.size w w1) => tcheck_any ds ss v0 v1 w1 (hd.keep (keeps_below hb)) (hs.keep (keeps_below hb))
  have hde := fun w1 M (hb : Below w.heap.size w w1) (hM : w.heap.size ≤ M) hm => declare_any w ds v0 w1 M hd hb hM hm
  have hmi := fun (hz : faultT (progT ds ss) = 0) w1 M n (hb : Below w.heap.size w w1) hm => misused_any w ds ss v1 w1 M n hs hb hm (Nat.le_trans (flat_few hs hz) (by omega)) (by have := names_few hfd hnd (fault_lim hz); omega)
  unfold DeclTo at hde
  obtain ⟨POST, hPOST⟩ : ∃ p, wellP ds ss = p := ⟨_, rfl⟩
  rw [hPOST] at hsz ⊢
  unfold wellP at hPOST
  obtain ⟨FT, hFT⟩ : ∃ FT, faultT (progT ds ss) = FT := ⟨_, rfl⟩
  simp only [hFT] at htc hmi hPOST
  obtain ⟨⟨dn, de⟩, hDW⟩ : ∃ p, declW [] ds = p := ⟨_, rfl⟩
  rw [hDW] at hPOST
  simp only [hDW] at hde
  obtain ⟨⟨un, ue⟩, hBU⟩ : ∃ p, badU (lookL ds) (usesL ss) = p := ⟨_, rfl⟩
  rw [hBU] at hPOST
  simp only [hBU] at hmi
  clear hFT hDW hBU hfd hnd
  obtain ⟨a0, c0, rfl, -⟩ := hd
  obtain ⟨a1, c1, rfl, -⟩ := hs
  obtain ⟨W1, hW1⟩ : ∃ W1, w.alloc (.cells #[.slice a0 ds.length c0, .slice a1 ss.length c1] 25) = W1 := ⟨_, rfl⟩
  have hal : Below w.heap.size w W1 := by rw [← hW1]; exact (Below.refl _ w).alloc (Nat.le_refl _) _
  have hX1 : Blk W1 w.heap.size #[.slice a0 ds.length c0, .slice a1 ss.length c1] 25 := by rw [← hW1]; exact Blk.new w _ _
  have x0 : W1.cell? ⟨w.heap.size, 0, none⟩ = some (.slice a0 ds.length c0) := hX1.cell 0
  have y0 : W1.cell? ⟨w.heap.size, 1, none⟩ = some (.slice a1 ss.length c1) := hX1.cell 1
  have HT := Lib.hid (htc W1 hal); clear htc
  have HX1 := Lib.hid hX1; clear hX1
  have HAL := Lib.hid hal; clear hal
  have HW1 := Lib.hid hW1; clear hW1
  have HDE := Lib.hid hde; clear hde
  have HMI := Lib.hid hmi; clear hmi
  have HPOST := Lib.hid hPOST; clear hPOST
  have hmm := @run_makeMap Try.prog
  go_enter Try.func7, Try.ntmps7
  go_upto_region 1 with fail
  rw [HW1.out]
  clear HW1
  by_cases hz : FT = 0
  · subst hz
    go_wp2_with (first | (go_at_call 15; (with_reducible refine HT.out.mono ?_); rintro e w2 ⟨rfl, hb2⟩; have HX2 := Lib.hid (HX1.out.below hb2 HX1.out.lt); have HB2 := Lib.hid (below_next HAL.out hb2); have x2 := ((HX1.out.below hb2 HX1.out.lt).alloc (.map #[] 0)).cell 0; simp at x2; clear hb2) | fail)
    clear x0 y0 HT HX1 HAL x2
    obtain ⟨W3, hW3⟩ : ∃ W, w2.alloc (.map #[] 0) = W := ⟨_, rfl⟩
    obtain ⟨M, hM⟩ : ∃ M, w2.heap.size = M := ⟨_, rfl⟩
    have hmap : OwnM W3 M 0 (mapD []) := by rw [← hW3, ← hM]; exact World.ownsMap_made (H := Unit) w2 Try.prog 9 (plainElem Try.prog 3)
    have hb3 : Below w.heap.size w W3 := by rw [← hW3]; exact HB2.out.alloc HB2.out.size _
    have hX3 : Blk W3 w.heap.size #[.slice a0 ds.length c0, .slice a1 ss.length c1] 25 := by rw [← hW3]; exact HX2.out.alloc _
    have hMw : w.heap.size < M := by rw [← hM]; exact HX2.out.lt
    rw [hW3, hM]
    have HC := Lib.hid (HDE.out W3 M hb3 (by omega) hmap)
    have HX3 := Lib.hid hX3; clear hX3
    have HB3 := Lib.hid hb3; clear hb3 hW3 hM hmap HDE HB2 HX2 hmm
    refine HC.out.mono ?_
    rintro e w4 ⟨rfl, hg4, hmap4⟩
    have hG4 : Gr (some M) (some M) W3 w4 := ⟨hg4, .inl rfl⟩
    have hX4 : Blk w4 w.heap.size #[.slice a0 ds.length c0, .slice a1 ss.length c1] 25 := HX3.out.gr hG4 (fun e => by cases e; omega)
    have hb4 : Below w.heap.size w w4 := HB3.out.trans (hG4.old HB3.out.size (fun g hg => by cases hg; omega))
    have y4 : w4.cell? ⟨w.heap.size, 1, none⟩ = some (.slice a1 ss.length c1) := hX4.cell 1
    have HB4 := Lib.hid hb4; clear hb4
    have HMAP4 := Lib.hid hmap4; clear hmap4
    clear hg4 hG4 hX4 HX3 HB3 HC
    by_cases hd0 : de = 0
    · subst hd0
      have hp : POST = (un, ue) := by rw [← HPOST.out, if_neg (by simp), if_neg (by simp)]
      rw [hp] at hsz
      have HP := Lib.hid hp; clear hp HPOST
      have HC := Lib.hid (HMI.out (by simp) w4 M ds.length HB4.out (HMAP4.out rfl)); clear HMI HMAP4
      go_wp2_with fail
      refine HC.out.mono ?_
      rintro e w5 ⟨rfl, hb5⟩
      have HB5 := Lib.hid (below_next HB4.out hb5); clear hb5
      go_wp2_with (first | (go_at_call 18; (with_reducible refine (clone_w _ _ hsz).mono ?_); rintro e w6 ⟨rfl, hb6⟩; have HB6 := Lib.hid (below_next HB5.out hb6); clear hb6) | fail)
      go_ret2
      exact ⟨by rw [HP.out]; rfl, HB6.out⟩
    · have hd1 : (de == 0) = false := by simpa using hd0
      have hp : POST = (dn, de) := by rw [← HPOST.out, if_neg (by simp), if_pos hd0]
      rw [hp] at hsz
      have HP := Lib.hid hp; clear hp HPOST hd0 HMI HMAP4
      go_wp2_with (first | (go_at_call 18; (with_reducible refine (clone_w _ _ hsz).mono ?_); rintro e w6 ⟨rfl, hb6⟩; have HB6 := Lib.hid (below_next HB4.out hb6); clear hb6) | fail)
      go_ret2
      exact ⟨by rw [HP.out]; rfl, HB6.out⟩
  · have hz1 : (FT != 0) = true := by simpa using hz
    have hp : POST = (⟨#[]⟩, FT) := by rw [← HPOST.out, if_pos hz]
    have HP := Lib.hid hp; clear hp HPOST hz HDE HMI hmm
    go_wp2_with (first | (go_at_call 15; (with_reducible refine HT.out.mono ?_); rintro e w2 ⟨rfl, hb2⟩; have HB2 := Lib.hid (below_next HAL.out hb2); clear hb2) | fail)
    go_ret2
    exact ⟨by rw [HP.out]; rfl, HB2.out⟩
end Go.Proofs.Ytofbocmbgadfnaa
