/-
  A graph that is made, in memory: the lowering's block, its edges, its map of names; proved is that they stay where other blocks are written.
-/
import Derived.Test.YtjpopelbdhgidaaGreatDoorQGrP
import Derived.Test.YtjpopelbdhgidaaGreatDoorQLook
import Derived.Deep.RegionWith
import Derived.Deep.RegionLaw
import Derived.Deep.AppendLies
import Derived.Deep.DeepCutAuto
import Derived.Deep.CutBlock
/-
  Plain: what form a well program's trees have; how many nodes they are.
-/
namespace Go.Proofs.YtjpopelbdhgidaaGreatDoor
open Go Go.RowKit

def fmK (ty : Ty) (k n : Int) (xl cl : Nat) : Prop := match ty with
  | .E => 1 ≤ k ∧ k ≤ 10 ∧ (k = 1 → 0 ≤ n) ∧ (k ≤ 3 → xl = 0) ∧ (k = 4 ∨ k = 5 → xl = 1) ∧ (6 ≤ k → xl = 2)
  | .C => 1 ≤ k ∧ k ≤ 6 ∧ (k = 3 → xl = 2) ∧ (k = 4 → cl = 1) ∧ (5 ≤ k → cl = 2)
  | .S => 1 ≤ k ∧ k ≤ 7 ∧ (k = 1 → xl = 1) ∧ (k = 2 → xl = 2) ∧ (3 ≤ k ∧ k ≤ 6 → cl = 1)
  | .D => True
mutual
/-- A tree that is lowered. -/
def fmN : Nd → Prop
  | .mk ty k n _ xs cs ts es => fmK ty k n xs.length cs.length ∧ fmL .E xs ∧ fmL .C cs ∧ fmL .S ts ∧ fmL .S es
def fmL : Ty → List Nd → Prop
  | _, [] => True
  | ty, x :: r => x.ty = ty ∧ fmN x ∧ fmL ty r
end
theorem fmL_at : ∀ {ty : Ty} {l : List Nd} (_ : fmL ty l) (i : Nat) (hi : i < l.length), (l[i]).ty = ty ∧ fmN l[i]
  | _, x :: r, h, 0, _ => by unfold fmL at h; exact ⟨h.1, h.2.1⟩
  | _, x :: r, h, i + 1, hi => by
    unfold fmL at h
    have := fmL_at h.2.2 i (by simpa using hi)
    simpa using this
mutual
theorem fmN_of : ∀ (x : Nd), fitN x → (∀ y ∈ allN x, wellN y = true) → fmN x
  | .mk ty k n nm xs cs ts es, hf, hall => by
    unfold fitN at hf
    obtain ⟨hfit, hx, hc, ht, he⟩ := hf
    cases ty with
    | E =>
      simp only [fits] at hfit
      obtain ⟨rfl, rfl, rfl⟩ := hfit
      have e : allN (.mk .E k n nm xs [] [] []) = .mk .E k n nm xs [] [] [] :: allL xs := by unfold allN; rfl
      rw [e] at hall
      have h1 : wellE k n nm xs.length = true := hall _ (List.mem_cons_self ..)
      unfold wellE kindE ownE argsE at h1
      simp only [Bool.and_eq_true, Bool.or_eq_true, decide_eq_true_eq, beq_iff_eq] at h1
      obtain ⟨⟨hk, -⟩, hlen, hn⟩ := h1
      unfold fmN
      refine ⟨⟨hk.1, hk.2, fun h => by omega, fun h => ?_, fun h => ?_, fun h => ?_⟩, fmL_of .E xs hx (fun y hy => hall y (List.mem_cons_of_mem _ hy)), by unfold fmL; trivial, by unfold fmL; trivial, by unfold fmL; trivial⟩
      · rw [if_neg (by omega), if_neg (by omega)] at hlen; omega
      · rw [if_pos h] at hlen; omega
      · rw [if_neg (by omega), if_pos ⟨h, hk.2⟩] at hlen; omega
    | C =>
      simp only [fits] at hfit
      obtain ⟨-, rfl, rfl⟩ := hfit
      have e : allN (.mk .C k n nm xs cs [] []) = .mk .C k n nm xs cs [] [] :: (allL xs ++ allL cs) := by unfold allN; rfl
      rw [e] at hall
      have h1 : wellC k n xs.length cs.length = true := hall _ (List.mem_cons_self ..)
      unfold wellC kindC ownC exprsC partsC at h1
      simp only [Bool.and_eq_true, decide_eq_true_eq, beq_iff_eq] at h1
      obtain ⟨hk, -, hxl, hcl⟩ := h1
      unfold fmN
      refine ⟨⟨hk.1, hk.2, fun h => ?_, fun h => ?_, fun h => ?_⟩, fmL_of .E xs hx (fun y hy => hall y (List.mem_cons_of_mem _ (List.mem_append_left _ hy))), fmL_of .C cs hc (fun y hy => hall y (List.mem_cons_of_mem _ (List.mem_append_right _ hy))), by unfold fmL; trivial, by unfold fmL; trivial⟩
      · rw [if_pos h] at hxl; omega
      · rw [if_pos h] at hcl; omega
      · rw [if_neg (by omega), if_pos (by omega)] at hcl; omega
    | S =>
      have e : allN (.mk .S k n nm xs cs ts es) = .mk .S k n nm xs cs ts es :: (allL cs ++ (allL xs ++ (allL ts ++ allL es))) := by unfold allN; rfl
      rw [e] at hall
      have h1 : wellS k nm xs.length cs.length ts.length es.length = true := hall _ (List.mem_cons_self ..)
      unfold wellS kindS ownS exprsS condsS at h1
      simp only [Bool.and_eq_true, Bool.or_eq_true, decide_eq_true_eq, beq_iff_eq] at h1
      obtain ⟨⟨hk, -⟩, hxl, hcl, -⟩ := h1
      unfold fmN
      refine ⟨⟨hk.1, hk.2, fun h => ?_, fun h => ?_, fun h => ?_⟩, fmL_of .E xs hx (fun y hy => hall y (List.mem_cons_of_mem _ (List.mem_append_right _ (List.mem_append_left _ hy)))), fmL_of .C cs hc (fun y hy => hall y (List.mem_cons_of_mem _ (List.mem_append_left _ hy))), fmL_of .S ts ht (fun y hy => hall y (List.mem_cons_of_mem _ (List.mem_append_right _ (List.mem_append_right _ (List.mem_append_left _ hy))))), fmL_of .S es he (fun y hy => hall y (List.mem_cons_of_mem _ (List.mem_append_right _ (List.mem_append_right _ (List.mem_append_right _ hy)))))⟩
      · rw [if_pos h] at hxl; omega
      · rw [if_neg (by omega), if_pos h] at hxl; omega
      · rw [if_pos h] at hcl; omega
    | D =>
      simp only [fits] at hfit
      obtain ⟨-, rfl, rfl, rfl, rfl⟩ := hfit
      unfold fmN
      refine ⟨trivial, ?_, ?_, ?_, ?_⟩ <;> (unfold fmL; trivial)
theorem fmL_of : ∀ (ty : Ty) (l : List Nd), fitL ty l → (∀ y ∈ allL l, wellN y = true) → fmL ty l
  | ty, [], _, _ => by unfold fmL; trivial
  | ty, x :: r, hf, hall => by
    unfold fitL at hf
    have e : allL (x :: r) = allN x ++ allL r := by rw [allL]
    rw [e] at hall
    unfold fmL
    exact ⟨hf.1, fmN_of x hf.2.1 (fun y hy => hall y (List.mem_append_left _ hy)), fmL_of ty r hf.2.2 (fun y hy => hall y (List.mem_append_right _ hy))⟩
end
mutual
theorem szN_all : ∀ (x : Nd), fitN x → x.ty ≠ .D → szN x = (allN x).length
  | .mk ty k n nm xs cs ts es, hf, hD => by
    unfold fitN at hf
    obtain ⟨hfit, hx, hc, ht, he⟩ := hf
    have h1 := szL_all .E xs hx (by decide)
    have h2 := szL_all .C cs hc (by decide)
    have h3 := szL_all .S ts ht (by decide)
    have h4 := szL_all .S es he (by decide)
    rw [szN, h1, h2, h3, h4]
    cases ty with
    | E =>
      simp only [fits] at hfit
      obtain ⟨rfl, rfl, rfl⟩ := hfit
      rw [allN]
      simp [allL]
      omega
    | C =>
      simp only [fits] at hfit
      obtain ⟨-, rfl, rfl⟩ := hfit
      rw [allN]
      simp [allL]
      omega
    | S =>
      rw [allN]
      simp
      omega
    | D => exact absurd rfl hD
theorem szL_all : ∀ (ty : Ty) (l : List Nd), fitL ty l → ty ≠ .D → szL l = (allL l).length
  | ty, [], _, _ => by rw [szL, allL]; rfl
  | ty, x :: r, hf, hD => by
    unfold fitL at hf
    rw [szL, allL, List.length_append, szN_all x hf.2.1 (by rw [hf.1]; exact hD), szL_all ty r hf.2.2 hD]
end
/-- A well program has few nodes, and each has its form. -/
theorem prog_fm {ds ss : List Nd} (hs : fitL .S ss) (hz : (wellP ds ss).2 = 0) : fmL .S ss ∧ szL ss ≤ 4096 := by
  obtain ⟨h1, h2, h3⟩ := wellP_ok hz
  refine ⟨fmL_of .S ss hs (fun y hy => prog_all h1 y (List.mem_append_right _ hy)), ?_⟩
  have h := (progT_ok ds ss).1
  rw [progT_list (fault_lim h1), allL_app, List.length_append] at h
  rw [szL_all .S ss hs (by decide)]
  omega
end Go.Proofs.YtjpopelbdhgidaaGreatDoor

/-
  A graph that is made, in memory: the lowering's block, its edges, its map of names; proved is that they stay where other blocks are written.
-/
namespace Go.Proofs.YtjpopelbdhgidaaGreatDoor
open Go Go.RowKit Go.Maps

/-- Where its things lie. -/
structure Le where
  E : Lv
  M : Nat
  G : Nat
  gn : Nat
  D : DataW Unit
  vv : Value
  va : Value
  H0 : Nat
  B1 : Nat
def edV (e : Ed) : List Value := [.int .i64 e.fr, .int .i64 e.dt, .int .i64 e.kd, .int .i64 e.dst, .int .i64 e.arr, .int .i64 e.op, .int .i64 e.av, .int .i64 e.an, .int .i64 e.bv, .int .i64 e.bn]
def cellsE (l : List Ed) : List Value := l.flatMap edV
theorem cellsE_snoc (l : List Ed) (x : Ed) : cellsE (l ++ [x]) = cellsE l ++ edV x := by simp [cellsE]
/-- An edge as a value. -/
abbrev edgeV (e : Ed) : Value := .agg #[.int .i64 e.fr, .int .i64 e.dt, .int .i64 e.kd, .int .i64 e.dst, .int .i64 e.arr, .int .i64 e.op, .int .i64 e.av, .int .i64 e.an, .int .i64 e.bv, .int .i64 e.bn]
/-- What is so of its places. -/
structure Le.ok (K : Le) : Prop where
  look : ∀ nm, K.D.atKey (keyS nm) (.lit (.int .i64 0)) = .lit (.int .i64 (K.E.pl nm))
  m0 : K.H0 ≤ K.M
  b0 : K.H0 ≤ K.B1
  m1 : K.M < K.B1
  g1 : K.G < K.B1
  mg : K.M ≠ K.G
  vv : ∃ a c, K.vv = .slice a K.E.nv c
  few : K.E.nv ≤ 64
def lowV (K : Le) (s : Lw) (ve : Value) : Array Value := #[.map (some K.G), K.vv, .int .i64 s.tmp, K.va, .int .i64 s.pts, .int .i64 s.ext, ve]
/-- It lies in memory. -/
structure Lc (K : Le) (w : World) (s : Lw) (ve : Value) : Prop where
  mach : Blk w K.M (lowV K s ve) 82
  eds : w.ownsRow K.B1 40 10 ve s.eds.length (cellsE s.eds)
  map : OwnM w K.G K.gn K.D
  size : K.B1 ≤ w.heap.size
  p0 : 0 ≤ s.pts
  t0 : 0 ≤ s.tmp
  t1 : s.tmp ≤ 1099511627776
theorem Lc.next {K : Le} {w w' : World} {s : Lw} {ve : Value} (hk : K.ok) (h : Lc K w s ve) (hb : Below w.heap.size w w') : Lc K w' s ve where
  mach := h.mach.next hb
  eds := ownsRow_below h.eds hb
  map := ownsMap_only h.map (Only.below (B := K.M) hb) (fun e => hk.mg e.symm)
  size := Nat.le_trans h.size hb.size
  p0 := h.p0
  t0 := h.t0
  t1 := h.t1
/-- Its block is written. -/
theorem Lc.setM {K : Le} {w w' : World} {s s' : Lw} {ve ve' : Value} (hk : K.ok) (h : Lc K w s ve) (ho : Only K.M w w') (hX : Blk w' K.M (lowV K s' ve') 82) (he : w.ownsRow K.B1 40 10 ve' s'.eds.length (cellsE s'.eds)) (hp : 0 ≤ s'.pts) (ht : 0 ≤ s'.tmp) (ht1 : s'.tmp ≤ 1099511627776) : Lc K w' s' ve' where
  mach := hX
  eds := ownsRow_only he ho hk.m1
  map := ownsMap_only h.map ho (fun e => hk.mg e.symm)
  size := Nat.le_trans h.size ho.size
  p0 := hp
  t0 := ht
  t1 := ht1
/-- The edges turn. -/
theorem Lc.turn {K : Le} {w w' : World} {s : Lw} {ve : Value} (hk : K.ok) (h : Lc K w s ve) (hb : Below K.B1 w w') {s' : Lw} {ve' : Value} (he : w'.ownsRow K.B1 40 10 ve' s'.eds.length (cellsE s'.eds)) (hp : s'.pts = s.pts) (ht : s'.tmp = s.tmp) (hx : s'.ext = s.ext) : Lc K (w'.setCell ⟨K.M, 6, none⟩ ve') s' ve' := by
  have ho : Only K.M w' (w'.setCell ⟨K.M, 6, none⟩ ve') := (Only.refl K.M w').setCell (p := ⟨K.M, 6, none⟩) rfl _
  have hX : Blk w' K.M (lowV K s ve) 82 := h.mach.below hb hk.m1
  have hX2 := hX.set 6 ve'
  have e2 : (lowV K s ve).setIfInBounds 6 ve' = lowV K s' ve' := by unfold lowV; rw [hp, ht, hx]; rfl
  rw [e2] at hX2
  exact
  { mach := hX2
    eds := ownsRow_only he ho hk.m1
    map := by
      have h1 : OwnM w' K.G K.gn K.D := by
        obtain ⟨es, ck, hh, r⟩ := h.map
        exact ⟨es, ck, (hb.block _ hk.g1).trans hh, r⟩
      exact ownsMap_only h1 ho (fun e => hk.mg e.symm)
    size := Nat.le_trans h.size (Nat.le_trans hb.size ho.size)
    p0 := by rw [hp]; exact h.p0
    t0 := by rw [ht]; exact h.t0
    t1 := by rw [ht]; exact h.t1 }
/-- It lies in memory; its edges lie at block r. -/
def La (K : Le) (w : World) (s : Lw) (r : Option Nat) : Prop := ∃ ve, Lc K w s ve ∧ ve.ownBlock = r
theorem La.next {K : Le} {w w' : World} {s : Lw} {r : Option Nat} (hk : K.ok) (h : La K w s r) (hb : Below w.heap.size w w') : La K w' s r := by
  obtain ⟨ve, h, hr⟩ := h
  exact ⟨ve, h.next hk hb, hr⟩
theorem La.alloc {K : Le} {w : World} {s : Lw} {r : Option Nat} (hk : K.ok) (h : La K w s r) (o : Obj) : La K (w.alloc o) s r := h.next hk ((Below.refl _ w).alloc (Nat.le_refl _) o)
theorem La.drew {K : Le} {w : World} {s : Lw} {r : Option Nat} (hk : K.ok) (h : La K w s r) : La K w.drew s r := h.next hk (Below.refl _ w).drew
theorem La.size {K : Le} {w : World} {s : Lw} {r : Option Nat} (h : La K w s r) : K.B1 ≤ w.heap.size := by
  obtain ⟨ve, h, _⟩ := h
  exact h.size
theorem La.row {K : Le} {w : World} {s : Lw} {r : Option Nat} (h : La K w s r) : ∀ g, r = some g → K.B1 ≤ g ∧ g < w.heap.size := by
  obtain ⟨ve, h, hr⟩ := h
  intro g hg
  exact h.eds.lt g (hr.trans hg)
/-- w' is w but for the lowering's own blocks, its edges (at r, then at r') and new blocks. -/
structure Kl (K : Le) (r r' : Option Nat) (w w' : World) : Prop where
  os : w'.os = w.os
  tape : w'.tape = w.tape
  output : w'.output = w.output
  size : w.heap.size ≤ w'.heap.size
  block : ∀ b, b < w.heap.size → b ≠ K.M → r ≠ some b → w'.heap[b]? = w.heap[b]?
  row : r' = r ∨ ∀ g, r' = some g → w.heap.size ≤ g
theorem Kl.refl (K : Le) (r : Option Nat) (w : World) : Kl K r r w w := ⟨rfl, rfl, rfl, Nat.le_refl _, fun _ _ _ _ => rfl, .inl rfl⟩
theorem Kl.trans {K : Le} {r0 r1 r2 : Option Nat} {a b c : World} (h : Kl K r0 r1 a b) (k : Kl K r1 r2 b c) : Kl K r0 r2 a c where
  os := k.os.trans h.os
  tape := k.tape.trans h.tape
  output := k.output.trans h.output
  size := Nat.le_trans h.size k.size
  block := fun i hi h1 h4 => (k.block i (Nat.lt_of_lt_of_le hi h.size) h1 (fun e => by
    rcases h.row with h5 | h5
    · rw [h5] at e; exact h4 e
    · have := h5 i e; omega)).trans (h.block i hi h1 h4)
  row := by
    rcases k.row with h2 | h2
    · rw [h2]; exact h.row
    · exact .inr fun g hg => Nat.le_trans h.size (h2 g hg)
theorem Kl.below {K : Le} {r : Option Nat} {w w' : World} (h : Below w.heap.size w w') : Kl K r r w w' := ⟨h.os, h.tape, h.output, h.size, fun k hk _ _ => h.block k hk, .inl rfl⟩
theorem Kl.alloc {K : Le} {r r' : Option Nat} {a w : World} (h : Kl K r r' a w) (o : Obj) : Kl K r r' a (w.alloc o) := h.trans (Kl.below ((Below.refl _ w).alloc (Nat.le_refl _) o))
theorem Kl.drew {K : Le} {r r' : Option Nat} {a w : World} (h : Kl K r r' a w) : Kl K r r' a w.drew := h.trans (Kl.below (Below.refl _ w).drew)
theorem Kl.onlyM {K : Le} {r : Option Nat} {w w' : World} (h : Only K.M w w') : Kl K r r w w' := ⟨h.os, h.tape, h.output, h.size, fun k hk h1 _ => h.block k hk h1, .inl rfl⟩
theorem Kl.grown {K : Le} {r r' : Option Nat} {a w w' : World} (h : Kl K r r a w) (hg : w.grownBy w' r) (hr : r' = r ∨ ∀ g, r' = some g → w.heap.size ≤ g) : Kl K r r' a w' :=
  h.trans ⟨hg.os, hg.tape, hg.output, hg.size, fun b hb _ h4 => hg.block b hb (fun e => h4 e.symm), hr⟩
/-- A block is written that lies behind the beginning. -/
theorem Kl.one {K : Le} {r r' : Option Nat} {a w w' : World} {X : Nat} (h : Kl K r r' a w) (ho : Only X w w') (hX : a.heap.size ≤ X) : Kl K r r' a w' where
  os := ho.os.trans h.os
  tape := ho.tape.trans h.tape
  output := ho.output.trans h.output
  size := Nat.le_trans h.size ho.size
  block := fun b hb h1 h4 => (ho.block b (Nat.lt_of_lt_of_le hb h.size) (by omega)).trans (h.block b hb h1 h4)
  row := h.row
theorem Kl.old {K : Le} {r r' : Option Nat} {w w' : World} {s : Lw} (hk : K.ok) (h : Kl K r r' w w') (ha : La K w s r) : Below K.H0 w w' :=
  ⟨h.os, h.tape, h.output, h.size, fun k hlt => h.block k (Nat.lt_of_lt_of_le hlt (Nat.le_trans hk.b0 ha.size)) (fun e => by have := hk.m0; omega) (fun e => by have := (ha.row k e).1; have := hk.b0; omega)⟩
/-- A block of one's own, beside the lowering's. -/
structure Tl (K : Le) (w : World) (r : Option Nat) (X : Nat) (cs : Array Value) (t : TypeId) : Prop where
  blk : Blk w X cs t
  base : K.B1 ≤ X
  row : r ≠ some X
theorem Tl.kr {K : Le} (hk : K.ok) {r r' : Option Nat} {w w' : World} {X : Nat} {cs : Array Value} {t : TypeId} (h : Tl K w r X cs t) (hr : Kl K r r' w w') : Tl K w' r' X cs t where
  blk := (hr.block X h.blk.lt (fun e => by have := hk.m1; have := h.base; omega) h.row).trans h.blk
  base := h.base
  row := by
    rcases hr.row with h1 | h1
    · rw [h1]; exact h.row
    · intro e
      have h2 := h1 X e
      have h3 := h.blk.lt
      omega
theorem Tl.new {K : Le} {w : World} {s : Lw} {r : Option Nat} (ha : La K w s r) (cs : Array Value) (t : TypeId) : Tl K (w.alloc (.cells cs t)) r w.heap.size cs t where
  blk := Blk.new w cs t
  base := ha.size
  row := fun e => by have := (ha.row _ e).2; omega
theorem Tl.next {K : Le} {w w' : World} {r : Option Nat} {X : Nat} {cs : Array Value} {t : TypeId} (h : Tl K w r X cs t) (hb : Below w.heap.size w w') : Tl K w' r X cs t := ⟨h.blk.next hb, h.base, h.row⟩
theorem Tl.set {K : Le} {w : World} {r : Option Nat} {X : Nat} {cs : Array Value} {t : TypeId} (h : Tl K w r X cs t) (o : Nat) (u : Value) : Tl K (w.setCell ⟨X, o, none⟩ u) r X (cs.setIfInBounds o u) t := ⟨h.blk.set o u, h.base, h.row⟩
/-- Such a block is written: the lowering stays. -/
theorem La.tmp {K : Le} {w w' : World} {s : Lw} {r : Option Nat} {X : Nat} (hk : K.ok) (h : La K w s r) (hX : K.B1 ≤ X) (hr : r ≠ some X) (ho : Only X w w') : La K w' s r := by
  obtain ⟨ve, h, he⟩ := h
  have hne : ∀ b, b < K.B1 → b ≠ X := fun b hb e => by omega
  refine ⟨ve, ?_, he⟩
  exact
  { mach := h.mach.only ho (hne _ hk.m1)
    eds := h.eds.kept (only_grown ho) (by rw [he]; cases r with | none => exact .inl rfl | some g => exact .inr hr)
    map := ownsMap_only h.map ho (hne _ hk.g1)
    size := Nat.le_trans h.size ho.size
    p0 := h.p0
    t0 := h.t0
    t1 := h.t1 }
/-- What a part of the lowering comes to, in memory. -/
def Lows (K : Le) (val : Value) (r : Option Nat) (w : World) (s' : Lw) : Ending → World → Prop := fun e w' => e = .returned val ∧ ∃ r', Kl K r r' w w' ∧ La K w' s' r'
/-- Room is left for so many points, so many edges. -/
structure Few (s : Lw) (c : Nat) : Prop where
  p : s.pts + c ≤ 1099511627776
  e : s.eds.length + c ≤ 1099511627776
abbrev unitT : Value := .tuple #[]
end Go.Proofs.YtjpopelbdhgidaaGreatDoor
