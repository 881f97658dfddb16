/-
  The machine's small parts: step, halt, fail, variable, item, note, input: proved is what each comes to.
-/
import Derived.Test.YtbhbmoppipohjaaQLook
import Derived.WalkLawsBesides
import Derived.Deep.RegionWith
import Derived.Deep.RegionLaw
import Derived.Deep.AppendLies
import Derived.Deep.DeepCutAuto
import Derived.Deep.CutBlock
/-
  A run in memory: the machine, its events, its variables and arrays, its script; proved is that they stay where other blocks are written, and how they turn where one of theirs is.
-/
namespace Go.Proofs.Ytbhbmoppipohjaa
open Go Go.RowKit Go.Maps

/-- Where a run's things lie. -/
structure Me where
  E : Rv
  M : Nat
  G : Nat
  gn : Nat
  D : DataW Unit
  vb : Nat
  nv : Nat
  va : Value
  ar : Nat
  ab : List (Nat × Nat)
  H0 : Nat
  B1 : Nat
def evV (x : Bool × Int × Bool) : List Value := [.bool x.1, .int .i64 x.2.1, .bool x.2.2]
def cellsV (l : List (Bool × Int × Bool)) : List Value := l.flatMap evV
theorem cellsV_snoc (l : List (Bool × Int × Bool)) (x : Bool × Int × Bool) : cellsV (l ++ [x]) = cellsV l ++ evV x := by simp [cellsV]
def intsV (l : List Int) : Array Value := (l.map (fun x => Value.int .i64 x)).toArray
theorem intsV_size (l : List Int) : (intsV l).size = l.length := by simp [intsV]
theorem intsV_at (l : List Int) (i : Nat) (h : i < l.length) : (intsV l)[i]? = some (.int .i64 (l.getD i 0)) := by
  simp [intsV, List.getD_eq_getElem?_getD, h]
theorem intsV_set (l : List Int) (i : Nat) (v : Int) : (intsV l).setIfInBounds i (.int .i64 v) = intsV (l.set i v) := by
  apply Array.toList_inj.1
  simp [intsV, List.map_set]
/-- The rows of the arrays. -/
def rowV (x : Nat × Nat) : Value := .slice (some ⟨x.1, 0, none⟩) x.2 x.2
/-- What is so of a run's places. -/
structure Me.ok (K : Me) : Prop where
  most : K.E.most ≤ 65536
  look : ∀ nm, K.D.atKey (keyS nm) (.lit (.int .i64 0)) = .lit (.int .i64 (K.E.pl nm))
  m0 : K.H0 ≤ K.M
  v0 : K.H0 ≤ K.vb
  a0 : ∀ x ∈ K.ab, K.H0 ≤ x.1
  b0 : K.H0 ≤ K.B1
  m1 : K.M < K.B1
  g1 : K.G < K.B1
  v1 : K.vb < K.B1
  r1 : K.ar < K.B1
  a1 : ∀ x ∈ K.ab, x.1 < K.B1
  mg : K.M ≠ K.G
  mv : K.M ≠ K.vb
  mr : K.M ≠ K.ar
  ma : ∀ x ∈ K.ab, K.M ≠ x.1
  vg : K.vb ≠ K.G
  vr : K.vb ≠ K.ar
  va' : ∀ x ∈ K.ab, K.vb ≠ x.1
  ag : ∀ x ∈ K.ab, x.1 ≠ K.G
  ra : ∀ x ∈ K.ab, x.1 ≠ K.ar
  aa : (K.ab.map (·.1)).Nodup
  few : K.ab.length ≤ maxLen
  az : ∀ x ∈ K.ab, x.2 ≤ 1024
  nz : K.nv ≤ 1024
  rows : ∃ a c, K.va = .slice a K.ab.length c ∧ K.ab.length ≤ c ∧ c ≤ maxLen ∧ (K.ab.length = 0 ∨ a = some ⟨K.ar, 0, none⟩)
/-- The script's inputs that are left lie in old memory. -/
def IntsAt (w : World) (H0 : Nat) (l : List Int) (v : Value) : Prop := ∃ a c, v = .slice a l.length c ∧ l.length ≤ c ∧ c ≤ maxLen ∧ (l.length = 0 ∨ ∃ b o, a = some ⟨b, o, none⟩ ∧ b < H0 ∧ ∀ i (h : i < l.length), w.cell? ⟨b, o + i, none⟩ = some (.int .i64 l[i]))
theorem IntsAt.below {w w' : World} {H0 : Nat} {l : List Int} {v : Value} (h : IntsAt w H0 l v) (hb : Below H0 w w') : IntsAt w' H0 l v := by
  obtain ⟨a, c, h1, h2, h3, h4⟩ := h
  refine ⟨a, c, h1, h2, h3, h4.imp id ?_⟩
  rintro ⟨b, o, h5, h6, h7⟩
  exact ⟨b, o, h5, h6, fun i hi => (hb.cell (p := ⟨b, o + i, none⟩) h6).trans (h7 i hi)⟩
def machV (K : Me) (st wr : Int) (s : Rn) (sv ve : Value) : Array Value := #[.map (some K.G), sv, .int .i64 K.E.most, .int .i64 st, .int .i64 wr, .int .i64 s.steps, ve, .slice (some ⟨K.vb, 0, none⟩) K.nv K.nv, K.va]
/-- A run lies in memory. -/
structure Mc (K : Me) (w : World) (s : Rn) (sv ve : Value) : Prop where
  mach : Blk w K.M (machV K 0 0 s sv ve) 57
  evs : w.ownsRow K.B1 38 3 ve s.evs.length (cellsV s.evs)
  left : IntsAt w K.H0 s.left sv
  map : OwnM w K.G K.gn K.D
  vars : Blk w K.vb (intsV s.vars) 2
  rows : ∀ i (h : i < K.ab.length), w.cell? ⟨K.ar, i, none⟩ = some (rowV K.ab[i])
  arrs : ∀ i (h : i < K.ab.length), Blk w K.ab[i].1 (intsV (s.arrs.getD i [])) 2
  size : K.B1 ≤ w.heap.size
  nv : s.vars.length = K.nv
  na : s.arrs.length = K.ab.length
  sz : ∀ i (h : i < K.ab.length), (s.arrs.getD i []).length = K.ab[i].2
  steps : s.steps ≤ K.E.most
  few : s.evs.length ≤ s.steps
  fv : ∀ x ∈ s.vars, fitsI x
  fa : ∀ l ∈ s.arrs, ∀ x ∈ l, fitsI x
  fl : ∀ x ∈ s.left, fitsI x
theorem Mc.ab_at {K : Me} (i : Nat) (h : i < K.ab.length) : K.ab[i] ∈ K.ab := List.getElem_mem h
/-- What isn't written stays: the places of the machine, of the variables, of the arrays. -/
theorem Mc.next {K : Me} {w w' : World} {s : Rn} {sv ve : Value} (hk : K.ok) (h : Mc K w s sv ve) (hb : Below w.heap.size w w') : Mc K w' s sv ve where
  mach := h.mach.next hb
  evs := ownsRow_below h.evs hb
  left := h.left.below (hb.mono (Nat.le_trans hk.b0 h.size))
  map := ownsMap_only h.map (Only.below (B := K.M) hb) (fun e => hk.mg e.symm)
  vars := h.vars.next hb
  rows := fun i hi => (hb.cell (p := ⟨K.ar, i, none⟩) (Nat.lt_of_lt_of_le hk.r1 h.size)).trans (h.rows i hi)
  arrs := fun i hi => (h.arrs i hi).next hb
  size := Nat.le_trans h.size hb.size
  nv := h.nv
  na := h.na
  sz := h.sz
  steps := h.steps
  few := h.few
  fv := h.fv
  fa := h.fa
  fl := h.fl
theorem only_cell {B : Nat} {w w' : World} (ho : Only B w w') {a : Addr} {u : Value} (h : w.cell? a = some u) (hB : a.block ≠ B) : w'.cell? a = some u :=
  (World.cell?_of_block (w := w) (ho.block a.block (World.block_lt_of_cell? w a h) hB)).trans h
/-- The machine's block is written. -/
theorem Mc.setM {K : Me} {w w' : World} {s s' : Rn} {sv ve sv' ve' : Value} (hk : K.ok) (h : Mc K w s sv ve) (ho : Only K.M w w') (hX : Blk w' K.M (machV K 0 0 s' sv' ve') 57) (hv : s'.vars = s.vars) (ha : s'.arrs = s.arrs) (he : w.ownsRow K.B1 38 3 ve' s'.evs.length (cellsV s'.evs)) (hl : IntsAt w K.H0 s'.left sv') (hs : s'.steps ≤ K.E.most) (hf : s'.evs.length ≤ s'.steps) (hfl : ∀ x ∈ s'.left, fitsI x) : Mc K w' s' sv' ve' where
  mach := hX
  evs := ownsRow_only he ho hk.m1
  left := hl.below (ho.old hk.m0 (Nat.le_trans hk.b0 h.size))
  map := ownsMap_only h.map ho (fun e => hk.mg e.symm)
  vars := by rw [hv]; exact h.vars.only ho (fun e => hk.mv e.symm)
  rows := fun i hi => only_cell ho (h.rows i hi) (fun e => hk.mr e.symm)
  arrs := fun i hi => by rw [ha]; exact (h.arrs i hi).only ho (fun e => hk.ma _ (List.getElem_mem hi) e.symm)
  size := Nat.le_trans h.size ho.size
  nv := by rw [hv]; exact h.nv
  na := by rw [ha]; exact h.na
  sz := by rw [ha]; exact h.sz
  steps := hs
  few := hf
  fv := by rw [hv]; exact h.fv
  fa := by rw [ha]; exact h.fa
  fl := hfl
theorem fits_set {l : List Int} (h : ∀ x ∈ l, fitsI x) (i : Nat) {v : Int} (hv : fitsI v) : ∀ x ∈ l.set i v, fitsI x := by
  intro x hx
  rcases List.mem_or_eq_of_mem_set hx with h1 | rfl
  · exact h x h1
  · exact hv
/-- A variable is written. -/
theorem Mc.setV {K : Me} {w : World} {s : Rn} {sv ve : Value} (hk : K.ok) (h : Mc K w s sv ve) (i : Nat) {v : Int} (hv : fitsI v) : Mc K (w.setCell ⟨K.vb, i, none⟩ (.int .i64 v)) { s with vars := s.vars.set i v } sv ve := by
  have ho : Only K.vb w (w.setCell ⟨K.vb, i, none⟩ (.int .i64 v)) := (Only.refl K.vb w).setCell (p := ⟨K.vb, i, none⟩) rfl _
  exact
  { mach := h.mach.only ho hk.mv
    evs := ownsRow_only h.evs ho hk.v1
    left := h.left.below (ho.old hk.v0 (Nat.le_trans hk.b0 h.size))
    map := ownsMap_only h.map ho (fun e => hk.vg e.symm)
    vars := by have := h.vars.set i (.int .i64 v); rwa [intsV_set] at this
    rows := fun i hi => only_cell ho (h.rows i hi) (fun e => hk.vr e.symm)
    arrs := fun i hi => (h.arrs i hi).only ho (fun e => hk.va' _ (List.getElem_mem hi) e.symm)
    size := Nat.le_trans h.size ho.size
    nv := by rw [List.length_set]; exact h.nv
    na := h.na
    sz := h.sz
    steps := h.steps
    few := h.few
    fv := fits_set h.fv i hv
    fa := h.fa
    fl := h.fl }
theorem nodup_ne {l : List (Nat × Nat)} (h : (l.map (·.1)).Nodup) {i j : Nat} (hi : i < l.length) (hj : j < l.length) (hne : i ≠ j) : l[i].1 ≠ l[j].1 := by
  intro e
  have h1 : (l.map (·.1))[i]'(by simpa using hi) = (l.map (·.1))[j]'(by simpa using hj) := by simpa using e
  exact hne ((List.getElem_inj h).1 h1)
/-- A place of an array is written. -/
theorem Mc.setA {K : Me} {w : World} {s : Rn} {sv ve : Value} (hk : K.ok) (h : Mc K w s sv ve) (i : Nat) (hi : i < K.ab.length) (j : Nat) {v : Int} (hv : fitsI v) : Mc K (w.setCell ⟨K.ab[i].1, j, none⟩ (.int .i64 v)) { s with arrs := s.arrs.set i ((s.arrs.getD i []).set j v) } sv ve := by
  have hm := List.getElem_mem hi
  have ho : Only K.ab[i].1 w (w.setCell ⟨K.ab[i].1, j, none⟩ (.int .i64 v)) := (Only.refl K.ab[i].1 w).setCell (p := ⟨K.ab[i].1, j, none⟩) rfl _
  have hna := h.na
  have hget : ∀ k, (s.arrs.set i ((s.arrs.getD i []).set j v)).getD k [] = if k = i then (s.arrs.getD i []).set j v else s.arrs.getD k [] := by
    intro k
    simp only [List.getD_eq_getElem?_getD, List.getElem?_set]
    by_cases hki : i = k
    · subst hki
      rw [if_pos rfl, if_pos (by omega), if_pos rfl]
      rfl
    · rw [if_neg hki, if_neg (fun e => hki e.symm)]
  exact
  { mach := h.mach.only ho (hk.ma _ hm)
    evs := ownsRow_only h.evs ho (hk.a1 _ hm)
    left := h.left.below (ho.old (hk.a0 _ hm) (Nat.le_trans hk.b0 h.size))
    map := ownsMap_only h.map ho (fun e => hk.ag _ hm e.symm)
    vars := h.vars.only ho (hk.va' _ hm)
    rows := fun i hi => only_cell ho (h.rows i hi) (fun e => hk.ra _ hm e.symm)
    arrs := fun k hkl => by
      rw [hget]
      by_cases hki : k = i
      · subst hki
        rw [if_pos rfl]
        have := (h.arrs k hkl).set j (.int .i64 v)
        rwa [intsV_set] at this
      · rw [if_neg hki]
        exact (h.arrs k hkl).only ho (nodup_ne hk.aa hkl hi hki)
    size := Nat.le_trans h.size ho.size
    nv := h.nv
    na := by rw [List.length_set]; exact h.na
    sz := fun k hkl => by
      rw [hget]
      by_cases hki : k = i
      · subst hki
        rw [if_pos rfl, List.length_set]
        exact h.sz k hkl
      · rw [if_neg hki]
        exact h.sz k hkl
    steps := h.steps
    few := h.few
    fv := h.fv
    fa := by
      intro l hl
      rcases List.mem_or_eq_of_mem_set hl with h1 | rfl
      · exact h.fa l h1
      · refine fits_set ?_ j hv
        intro x hx
        rw [List.getD_eq_getElem?_getD, List.getElem?_eq_getElem (by omega)] at hx
        exact h.fa _ (List.getElem_mem _) x hx
    fl := h.fl }
/-- The events and what lies behind them turn. -/
theorem Mc.turn {K : Me} {w w' : World} {s : Rn} {sv ve : Value} (hk : K.ok) (h : Mc K w s sv ve) (hb : Below K.B1 w w') {s' : Rn} {ve' : Value} (he : w'.ownsRow K.B1 38 3 ve' s'.evs.length (cellsV s'.evs)) (hv : s'.vars = s.vars) (ha : s'.arrs = s.arrs) (hl : s'.left = s.left) (hs : s'.steps = s.steps) (hf : s'.evs.length ≤ s'.steps) : Mc K (w'.setCell ⟨K.M, 6, none⟩ ve') s' sv ve' := by
  have ho : Only K.M w' (w'.setCell ⟨K.M, 6, none⟩ ve') := (Only.refl K.M w').setCell (p := ⟨K.M, 6, none⟩) rfl _
  have hX : Blk w' K.M (machV K 0 0 s sv ve) 57 := h.mach.below hb hk.m1
  have hX2 := hX.set 6 ve'
  have e2 : (machV K 0 0 s sv ve).setIfInBounds 6 ve' = machV K 0 0 s' sv ve' := by unfold machV; rw [hs]; rfl
  rw [e2] at hX2
  exact
  { mach := hX2
    evs := ownsRow_only he ho hk.m1
    left := by rw [hl]; exact (h.left.below (hb.mono hk.b0)).below (ho.old hk.m0 (Nat.le_trans hk.b0 (Nat.le_trans h.size hb.size)))
    map := by
      have h1 : OwnM w' K.G K.gn K.D := by
        obtain ⟨es, ck, hh, r⟩ := h.map
        exact ⟨es, ck, (hb.block _ hk.g1).trans hh, r⟩
      exact ownsMap_only h1 ho (fun e => hk.mg e.symm)
    vars := by rw [hv]; exact (h.vars.below hb hk.v1).only ho (fun e => hk.mv e.symm)
    rows := fun i hi => only_cell ho ((hb.cell (p := ⟨K.ar, i, none⟩) hk.r1).trans (h.rows i hi)) (fun e => hk.mr e.symm)
    arrs := fun i hi => by rw [ha]; exact ((h.arrs i hi).below hb (hk.a1 _ (List.getElem_mem hi))).only ho (fun e => hk.ma _ (List.getElem_mem hi) e.symm)
    size := Nat.le_trans h.size (Nat.le_trans hb.size ho.size)
    nv := by rw [hv]; exact h.nv
    na := by rw [ha]; exact h.na
    sz := by rw [ha]; exact h.sz
    steps := by rw [hs]; exact h.steps
    few := hf
    fv := by rw [hv]; exact h.fv
    fa := by rw [ha]; exact h.fa
    fl := by rw [hl]; exact h.fl }
/-- A run lies in memory; its events lie at block r. -/
def At (K : Me) (w : World) (s : Rn) (r : Option Nat) : Prop := ∃ sv ve, Mc K w s sv ve ∧ ve.ownBlock = r
theorem At.next {K : Me} {w w' : World} {s : Rn} {r : Option Nat} (hk : K.ok) (h : At K w s r) (hb : Below w.heap.size w w') : At K w' s r := by
  obtain ⟨sv, ve, h, hr⟩ := h
  exact ⟨sv, ve, h.next hk hb, hr⟩
theorem At.alloc {K : Me} {w : World} {s : Rn} {r : Option Nat} (hk : K.ok) (h : At K w s r) (o : Obj) : At K (w.alloc o) s r := h.next hk ((Below.refl _ w).alloc (Nat.le_refl _) o)
theorem At.drew {K : Me} {w : World} {s : Rn} {r : Option Nat} (hk : K.ok) (h : At K w s r) : At K w.drew s r := h.next hk (Below.refl _ w).drew
theorem At.size {K : Me} {w : World} {s : Rn} {r : Option Nat} (h : At K w s r) : K.B1 ≤ w.heap.size := by
  obtain ⟨sv, ve, h, _⟩ := h
  exact h.size
theorem At.row {K : Me} {w : World} {s : Rn} {r : Option Nat} (h : At K w s r) : ∀ g, r = some g → K.B1 ≤ g ∧ g < w.heap.size := by
  obtain ⟨sv, ve, h, hr⟩ := h
  intro g hg
  exact h.evs.lt g (hr.trans hg)
/-- w' is w but for the run's own blocks, its events (at r, then at r') and new blocks. -/
structure Kr (K : Me) (r r' : Option Nat) (w w' : World) : Prop where
  os : w'.os = w.os
  tape : w'.tape = w.tape
  output : w'.output = w.output
  size : w.heap.size ≤ w'.heap.size
  block : ∀ b, b < w.heap.size → b ≠ K.M → b ≠ K.vb → (∀ x ∈ K.ab, b ≠ x.1) → r ≠ some b → w'.heap[b]? = w.heap[b]?
  row : r' = r ∨ ∀ g, r' = some g → w.heap.size ≤ g
theorem Kr.refl (K : Me) (r : Option Nat) (w : World) : Kr K r r w w := ⟨rfl, rfl, rfl, Nat.le_refl _, fun _ _ _ _ _ _ => rfl, .inl rfl⟩
theorem Kr.trans {K : Me} {r0 r1 r2 : Option Nat} {a b c : World} (h : Kr K r0 r1 a b) (k : Kr K r1 r2 b c) : Kr K r0 r2 a c where
  os := k.os.trans h.os
  tape := k.tape.trans h.tape
  output := k.output.trans h.output
  size := Nat.le_trans h.size k.size
  block := fun i hi h1 h2 h3 h4 => (k.block i (Nat.lt_of_lt_of_le hi h.size) h1 h2 h3 (fun e => by
    rcases h.row with h5 | h5
    · rw [h5] at e; exact h4 e
    · have := h5 i e; omega)).trans (h.block i hi h1 h2 h3 h4)
  row := by
    rcases k.row with h2 | h2
    · rw [h2]; exact h.row
    · exact .inr fun g hg => Nat.le_trans h.size (h2 g hg)
theorem Kr.below {K : Me} {r : Option Nat} {w w' : World} (h : Below w.heap.size w w') : Kr K r r w w' := ⟨h.os, h.tape, h.output, h.size, fun k hk _ _ _ _ => h.block k hk, .inl rfl⟩
theorem Kr.alloc {K : Me} {r r' : Option Nat} {a w : World} (h : Kr K r r' a w) (o : Obj) : Kr K r r' a (w.alloc o) := h.trans (Kr.below ((Below.refl _ w).alloc (Nat.le_refl _) o))
theorem Kr.drew {K : Me} {r r' : Option Nat} {a w : World} (h : Kr K r r' a w) : Kr K r r' a w.drew := h.trans (Kr.below (Below.refl _ w).drew)
theorem Kr.onlyM {K : Me} {r : Option Nat} {w w' : World} (h : Only K.M w w') : Kr K r r w w' := ⟨h.os, h.tape, h.output, h.size, fun k hk h1 _ _ _ => h.block k hk h1, .inl rfl⟩
theorem Kr.onlyV {K : Me} {r : Option Nat} {w w' : World} (h : Only K.vb w w') : Kr K r r w w' := ⟨h.os, h.tape, h.output, h.size, fun k hk _ h1 _ _ => h.block k hk h1, .inl rfl⟩
theorem Kr.onlyA {K : Me} {r : Option Nat} {w w' : World} {x : Nat × Nat} (hx : x ∈ K.ab) (h : Only x.1 w w') : Kr K r r w w' := ⟨h.os, h.tape, h.output, h.size, fun k hk _ _ h1 _ => h.block k hk (h1 x hx), .inl rfl⟩
theorem Kr.old {K : Me} {r r' : Option Nat} {w w' : World} {s : Rn} (hk : K.ok) (h : Kr K r r' w w') (ha : At K w s r) : Below K.H0 w w' :=
  ⟨h.os, h.tape, h.output, h.size, fun k hlt => h.block k (Nat.lt_of_lt_of_le hlt (Nat.le_trans hk.b0 ha.size)) (fun e => by have := hk.m0; omega) (fun e => by have := hk.v0; omega) (fun x hx e => by have := hk.a0 x hx; omega) (fun e => by have := (ha.row k e).1; have := hk.b0; omega)⟩
/-- A block of one's own, beside the run's. -/
structure Tm (K : Me) (w : World) (r : Option Nat) (X : Nat) (cs : Array Value) (t : TypeId) : Prop where
  blk : Blk w X cs t
  base : K.B1 ≤ X
  row : r ≠ some X
theorem Tm.kr {K : Me} (hk : K.ok) {r r' : Option Nat} {w w' : World} {X : Nat} {cs : Array Value} {t : TypeId} (h : Tm K w r X cs t) (hr : Kr K r r' w w') : Tm K w' r' X cs t where
  blk := (hr.block X h.blk.lt (fun e => by have := hk.m1; have := h.base; omega) (fun e => by have := hk.v1; have := h.base; omega) (fun x hx e => by have := hk.a1 x hx; have := h.base; omega) h.row).trans h.blk
  base := h.base
  row := by
    rcases hr.row with h1 | h1
    · rw [h1]; exact h.row
    · intro e
      have h2 := h1 X e
      have h3 := h.blk.lt
      omega
theorem Tm.new {K : Me} {w : World} {s : Rn} {r : Option Nat} (ha : At K w s r) (cs : Array Value) (t : TypeId) : Tm K (w.alloc (.cells cs t)) r w.heap.size cs t where
  blk := Blk.new w cs t
  base := ha.size
  row := fun e => by have := (ha.row _ e).2; omega
theorem Tm.next {K : Me} {w w' : World} {r : Option Nat} {X : Nat} {cs : Array Value} {t : TypeId} (h : Tm K w r X cs t) (hb : Below w.heap.size w w') : Tm K w' r X cs t := ⟨h.blk.next hb, h.base, h.row⟩
theorem Tm.set {K : Me} {w : World} {r : Option Nat} {X : Nat} {cs : Array Value} {t : TypeId} (h : Tm K w r X cs t) (o : Nat) (u : Value) : Tm K (w.setCell ⟨X, o, none⟩ u) r X (cs.setIfInBounds o u) t := ⟨h.blk.set o u, h.base, h.row⟩
/-- Such a block is written: the run stays. -/
theorem At.tmp {K : Me} {w w' : World} {s : Rn} {r : Option Nat} {X : Nat} (hk : K.ok) (h : At K w s r) (hX : K.B1 ≤ X) (hr : r ≠ some X) (ho : Only X w w') : At K w' s r := by
  obtain ⟨sv, ve, h, he⟩ := h
  have hne : ∀ b, b < K.B1 → b ≠ X := fun b hb e => by omega
  refine ⟨sv, ve, ?_, he⟩
  exact
  { mach := h.mach.only ho (hne _ hk.m1)
    evs := h.evs.kept (only_grown ho) (by rw [he]; cases r with | none => exact .inl rfl | some g => exact .inr hr)
    left := h.left.below (ho.old (Nat.le_trans hk.b0 hX) (Nat.le_trans hk.b0 h.size))
    map := ownsMap_only h.map ho (hne _ hk.g1)
    vars := h.vars.only ho (hne _ hk.v1)
    rows := fun i hi => only_cell ho (h.rows i hi) (hne _ hk.r1)
    arrs := fun i hi => (h.arrs i hi).only ho (hne _ (hk.a1 _ (List.getElem_mem hi)))
    size := Nat.le_trans h.size ho.size
    nv := h.nv
    na := h.na
    sz := h.sz
    steps := h.steps
    few := h.few
    fv := h.fv
    fa := h.fa
    fl := h.fl }
def endedV (st wr : Int) : PanicEntry := { v := .iface 65 (.agg #[.int .i64 st, .int .i64 wr]), recovered := false }
/-- What a part of a run comes to, in memory. -/
def Ran {α : Type} (K : Me) (val : α → Value) (good : α → Prop) (r : Option Nat) (w : World) (x : Res α) : Ending → World → Prop := fun e w' => ∃ r', Kr K r r' w w' ∧
  ((∃ a s', x = .go a s' ∧ e = .returned (val a) ∧ good a ∧ At K w' s' r') ∨ (∃ st wr s', x = .stop st wr s' ∧ e = .panicked [endedV st wr] ∧ At K w' s' r'))
theorem Ran.go {α : Type} {K : Me} {val : α → Value} {good : α → Prop} {r r' : Option Nat} {w w' : World} {x : Res α} {a : α} {s' : Rn} (hr : x = .go a s') (hb : Kr K r r' w w') (hg : good a) (h : At K w' s' r') : Ran K val good r w x (.returned (val a)) w' := ⟨r', hb, .inl ⟨a, s', hr, rfl, hg, h⟩⟩
theorem Ran.stop {α : Type} {K : Me} {val : α → Value} {good : α → Prop} {r r' : Option Nat} {w w' : World} {x : Res α} {st wr : Int} {s' : Rn} (hr : x = .stop st wr s') (hb : Kr K r r' w w') (h : At K w' s' r') : Ran K val good r w x (.panicked [endedV st wr]) w' := ⟨r', hb, .inr ⟨st, wr, s', hr, rfl, h⟩⟩
abbrev unitV : Unit → Value := fun _ => .tuple #[]
abbrev intV : Int → Value := fun x => .int .i64 x
abbrev boolV : Bool → Value := fun b => .bool b
def anyG {α : Type} : α → Prop := fun _ => True
end Go.Proofs.Ytbhbmoppipohjaa

/-
  The machine's small parts: step, halt, fail, variable, item, note, input: proved is what each comes to.
-/
namespace Go.Proofs.Ytbhbmoppipohjaa
open Go Go.RowKit Go.Maps

set_option maxRecDepth 100000 in
theorem step_any (K : Me) (hk : K.ok) (s : Rn) (r : Option Nat) (w : World) (h : At K w s r) :
    Calls Try.prog 46 #[.pointer (some ⟨K.M, 0, none⟩)] w (Ran K unitV anyG r w (stepR K.E s)) := by
  obtain ⟨R, hR⟩ : ∃ R, stepR K.E s = R := ⟨_, rfl⟩
  rw [hR]
  unfold stepR at hR
  have ha := h
  obtain ⟨sv, ve, hm, he⟩ := h
  have c2 : w.cell? ⟨K.M, 2, none⟩ = some (.int .i64 K.E.most) := hm.mach.cell 2
  have c5 : w.cell? ⟨K.M, 5, none⟩ = some (.int .i64 s.steps) := hm.mach.cell 5
  have z5 : w.frozen? ⟨K.M, 5, none⟩ = false := hm.mach.free 5
  have hs := hm.steps
  have hmo := hk.most
  have hb : (s.steps : Int) + 1 ≤ 9223372036854775807 := by omega
  obtain ⟨T, hT⟩ : ∃ T : Nat, s.steps = T := ⟨_, rfl⟩
  obtain ⟨O, hO⟩ : ∃ O : Nat, K.E.most = O := ⟨_, rfl⟩
  rw [hT] at c5 hb
  rw [hO] at c2
  by_cases hq : s.steps = K.E.most
  · rw [if_pos hq] at hR
    have h1 : ((T : Int) == (O : Int)) = true := by rw [← hT, ← hO, hq]; simp
    clear hb
    have HH := Lib.hid (And.intro hk (And.intro ha (And.intro hR (And.intro hq (And.intro hT (And.intro hO (And.intro hm (And.intro hs (And.intro hmo he)))))))))
    clear hk ha hR hq hT hO hm hs hmo he
    go_enter Try.func46, Try.ntmps46
    go_upto_region 0 with fail
    go_region
    all_goals
      go_wp2_with fail
      exact ⟨rfl, Ran.stop HH.out.2.2.1.symm (Kr.refl K r w).drew (HH.out.2.1.drew HH.out.1)⟩
  · rw [if_neg hq] at hR
    have h1 : ((T : Int) == (O : Int)) = false := by rw [← hT, ← hO]; simp; omega
    have HH := Lib.hid (And.intro hk (And.intro ha (And.intro hR (And.intro hq (And.intro hT (And.intro hO (And.intro hm (And.intro hs (And.intro hmo he)))))))))
    clear hk ha hR hq hT hO hm hs hmo he
    go_enter Try.func46, Try.ntmps46
    go_upto_region 0 with fail
    go_region
    all_goals
      go_wp2_with fail
      go_end0
      obtain ⟨hk, ha, hR, hq, hT, hO, hm, hs, hmo, he⟩ := HH.out
      have ho : Only K.M w (w.drew.setCell ⟨K.M, 5, none⟩ (.int .i64 (T + 1))) := (Only.below (B := K.M) (Below.refl _ w).drew).setCell (p := ⟨K.M, 5, none⟩) rfl _
      have hX : Blk w.drew K.M (machV K 0 0 s sv ve) 57 := hm.mach
      have hX2 := hX.set 5 (.int .i64 (T + 1))
      have e2 : (machV K 0 0 s sv ve).setIfInBounds 5 (.int .i64 (T + 1)) = machV K 0 0 { s with steps := s.steps + 1 } sv ve := by unfold machV; rw [← hT]; rfl
      rw [e2] at hX2
      exact Ran.go (val := unitV) (a := ()) hR.symm (Kr.onlyM ho) trivial ⟨sv, ve, hm.setM hk ho hX2 rfl rfl hm.evs hm.left (by show s.steps + 1 ≤ _; omega) (Nat.le_succ_of_le hm.few) hm.fl, he⟩

theorem halt_any (m : Value) (w : World) : Calls Try.prog 45 #[m] w (fun e w' => e = .panicked [endedV 2 0] ∧ w' = w) := by
  go_enter Try.func45, Try.ntmps45
  go_wp2_with fail
  exact ⟨rfl, rfl, rfl⟩
theorem fail_any (m : Value) (x : Int) (w : World) : Calls Try.prog 60 #[m, .int .i64 x] w (fun e w' => e = .panicked [endedV 3 x] ∧ w' = w) := by
  go_enter Try.func60, Try.ntmps60
  go_wp2_with fail
  exact ⟨rfl, rfl, rfl⟩
theorem Mc.look {K : Me} {w : World} {s : Rn} {sv ve : Value} (hk : K.ok) (h : Mc K w s sv ve) (nm : ByteArray) (hn : nm.size ≤ maxLen) : (Instr.lookup 55 (.map (some K.G)) (.string nm) false).run Try.prog w = .ok (.int .i64 (K.E.pl nm)) w := by
  obtain ⟨c, hrun, hat, _⟩ := h.map.lookup_int law9 (by kernel_rfl : Try.prog.underlying 55 = some (.map 9 3)) under_int (zeroI _) (WideMaps.keyOf_string_mk (by kernel_rfl) hn : keyOf Try.prog 9 (.string nm) = some (keyS nm))
  have h2 := (hk.look nm).symm.trans hat
  simp only [DataW.lit.injEq, Lit.int.injEq, true_and] at h2
  rw [h2]
  exact hrun

set_option maxRecDepth 100000 in
theorem variable_any (K : Me) (hk : K.ok) (s : Rn) (r : Option Nat) (nm : ByteArray) (hn : nm.size ≤ maxLen) (hp : K.E.pl nm < K.nv) (w : World) (h : At K w s r) :
    Calls Try.prog 56 #[.pointer (some ⟨K.M, 0, none⟩), .string nm] w (fun e w' => e = .returned (.pointer (some ⟨K.vb, K.E.pl nm, none⟩)) ∧ w' = w.drew) := by
  have ha := h.drew hk
  obtain ⟨sv, ve, hm, he⟩ := h
  obtain ⟨sv', ve', hm', -⟩ := ha
  have c0 : w.cell? ⟨K.M, 0, none⟩ = some (.map (some K.G)) := hm.mach.cell 0
  have c7 : w.cell? ⟨K.M, 7, none⟩ = some (.slice (some ⟨K.vb, 0, none⟩) K.nv K.nv) := hm.mach.cell 7
  have hl := hm'.look hk nm hn
  obtain ⟨I, hI⟩ : ∃ I : Nat, K.E.pl nm = I := ⟨_, rfl⟩
  rw [hI] at hl hp ⊢
  have hp1 : (I : Int) < K.nv := by omega
  clear hm hm' he hk hn hI
  go_enter Try.func56, Try.ntmps56
  go_upto_region 1 with fail
  go_region
  all_goals
    go_wp2_with fail
    go_ret
    exact ⟨rfl, rfl⟩
end Go.Proofs.Ytbhbmoppipohjaa
