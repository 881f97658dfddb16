/-
  The document's walk over an expression (gnomonref3's walk.expr), by induction on the tree: proved is what it leaves in the walk's cells, and that nothing else that lay is turned.
-/
import Derived.Test.YtjpopelbdhgidaaGreatDoorRows
import Derived.ChangeReads
import Derived.ChangeOld
import Derived.RowKit
import Derived.Below
import Derived.ProofKit
import Derived.OpenShut
import Derived.KernelRfl
import Derived.Deep.Slices
import Derived.WalkKit
import Derived.RangeFuncNested
import Derived.ControlIn
import Derived.Lib.OthersKept
import Derived.Lib.Hide
import Derived.WalkSmall
/-
  The end of a law's proof, for arguments of whatever shape that the call leaves alone: proved is that what read as data before reads so behind, and so that a call that answers true and turns nothing that lay meets its row.
-/
namespace Go.Proofs.YtjpopelbdhgidaaGreatDoor
open Go Go.RowKit Go.ChangeShapes

section
variable {H : Type} {enc : TypeId × Value → H} {P : Program} {w : World} {base : Nat} {held : Bool}

end
end Go.Proofs.YtjpopelbdhgidaaGreatDoor

/-
  Trees in memory: nodes (expressions, conditions, statements, declarations) of one plain type, and that they lie in a world; proved is that they lie in each later world, that what reads as data of one of the four types is such a node, and what stands at each item of a node's list.
-/
namespace Go.Proofs.YtjpopelbdhgidaaGreatDoor
open Go Go.RowKit Go.ChangeShapes Go.Deep

inductive Ty | E | C | S | D deriving DecidableEq
/-- A node: its type, its two numbers (kind; Num, Op or Size), its name, its lists (expressions, conditions, Then, Else). -/
inductive Nd where
  | mk (ty : Ty) (k n : Int) (s : ByteArray) (xs cs ts es : List Nd)
def Nd.ty : Nd → Ty | .mk ty _ _ _ _ _ _ _ => ty
def Ty.size : Ty → Nat | .E => 4 | .C => 4 | .S => 6 | .D => 2
/-- A node's cells. -/
def lay (ty : Ty) (k n : Int) (s : ByteArray) (vx vc vt ve : Value) : List Value := match ty with
  | .E => [.int .i64 k, .int .i64 n, .string s, vx]
  | .C => [.int .i64 k, .int .i64 n, vx, vc]
  | .S => [.int .i64 k, .string s, vx, vc, vt, ve]
  | .D => [.string s, .int .i64 n]
theorem lay_len (ty : Ty) (k n : Int) (s : ByteArray) (vx vc vt ve : Value) : (lay ty k n s vx vc vt ve).length = ty.size := by cases ty <;> rfl
/-- What a node of a type may have. -/
def fits (ty : Ty) (k n : Int) (s : ByteArray) (xs cs ts es : List Nd) : Prop := match ty with
  | .E => cs = [] ∧ ts = [] ∧ es = []
  | .C => s = ⟨#[]⟩ ∧ ts = [] ∧ es = []
  | .S => n = 0
  | .D => k = 0 ∧ xs = [] ∧ cs = [] ∧ ts = [] ∧ es = []
/-- A slice of len items whose row is told. -/
def SlOf (len : Nat) (row : Nat → Nat → Prop) (v : Value) : Prop := ∃ a c, v = .slice a len c ∧ len ≤ c ∧ c ≤ maxLen ∧ (len = 0 ∨ ∃ b o, a = some ⟨b, o, none⟩ ∧ row b o)
theorem SlOf.mono {len : Nat} {row row' : Nat → Nat → Prop} {v : Value} (h : SlOf len row v) (hr : ∀ b o, row b o → row' b o) : SlOf len row' v := by
  obtain ⟨a, c, h1, h2, h3, h4⟩ := h
  exact ⟨a, c, h1, h2, h3, h4.imp id fun ⟨b, o, h5, h6⟩ => ⟨b, o, h5, hr b o h6⟩⟩
def i64ok (n : Int) : Prop := (Lit.int .i64 n).wf = true

mutual
def NdIn (w : World) : Nd → List Value → Prop
  | .mk ty k n s xs cs ts es, vs => fits ty k n s xs cs ts es ∧ i64ok k ∧ i64ok n ∧ s.size ≤ maxLen ∧ ∃ vx vc vt ve, vs = lay ty k n s vx vc vt ve ∧
      SlOf xs.length (fun b o => RowIn w .E xs b o) vx ∧ SlOf cs.length (fun b o => RowIn w .C cs b o) vc ∧ SlOf ts.length (fun b o => RowIn w .S ts b o) vt ∧ SlOf es.length (fun b o => RowIn w .S es b o) ve
def RowIn (w : World) : Ty → List Nd → Nat → Nat → Prop
  | _, [], _, _ => True
  | ty, x :: r, b, o => (x.ty = ty ∧ ∃ vs, (∀ j u, vs[j]? = some u → w.cell? ⟨b, o + j, none⟩ = some u) ∧ NdIn w x vs) ∧ RowIn w ty r b (o + ty.size)
end
/-- A list of nodes of one type lies at a slice. -/
def SlIn (w : World) (ty : Ty) (l : List Nd) (v : Value) : Prop := SlOf l.length (fun b o => RowIn w ty l b o) v

/-- Every cell that is there is there later. -/
def Keeps (w w' : World) : Prop := ∀ b o u, w.cell? ⟨b, o, none⟩ = some u → w'.cell? ⟨b, o, none⟩ = some u
theorem keeps_below {w w' : World} (hb : Below w.heap.size w w') : Keeps w w' := fun b o u h => by
  have lt := World.block_lt_of_cell? w ⟨b, o, none⟩ h
  exact (hb.cell (p := ⟨b, o, none⟩) lt).trans h
mutual
theorem NdIn.keep {w w' : World} (hk : Keeps w w') : ∀ (x : Nd) (vs : List Value), NdIn w x vs → NdIn w' x vs
  | .mk ty k n s xs cs ts es, vs, h => by
    unfold NdIn at h ⊢
    obtain ⟨h1, h2, h3, h4, vx, vc, vt, ve, h5, hx, hc, ht, he⟩ := h
    exact ⟨h1, h2, h3, h4, vx, vc, vt, ve, h5, hx.mono (fun b o => RowIn.keep hk .E xs b o), hc.mono (fun b o => RowIn.keep hk .C cs b o), ht.mono (fun b o => RowIn.keep hk .S ts b o), he.mono (fun b o => RowIn.keep hk .S es b o)⟩
theorem RowIn.keep {w w' : World} (hk : Keeps w w') : ∀ (ty : Ty) (l : List Nd) (b o : Nat), RowIn w ty l b o → RowIn w' ty l b o
  | _, [], _, _, _ => by unfold RowIn; trivial
  | ty, x :: r, b, o, h => by
    unfold RowIn at h ⊢
    obtain ⟨⟨h1, vs, h2, h3⟩, h4⟩ := h
    exact ⟨⟨h1, vs, fun j u hj => hk _ _ _ (h2 j u hj), NdIn.keep hk x vs h3⟩, RowIn.keep hk ty r b (o + ty.size) h4⟩
end
theorem SlIn.keep {w w' : World} {ty : Ty} {l : List Nd} {v : Value} (h : SlIn w ty l v) (hk : Keeps w w') : SlIn w' ty l v := SlOf.mono h (fun b o => RowIn.keep hk ty l b o)

/-- Item i of a row. -/
theorem RowIn.at {w : World} {ty : Ty} : ∀ (l : List Nd) (b o i : Nat) (h : i < l.length), RowIn w ty l b o → (l[i]).ty = ty ∧ ∃ vs, (∀ j u, vs[j]? = some u → w.cell? ⟨b, o + i * ty.size + j, none⟩ = some u) ∧ NdIn w l[i] vs
  | [], _, _, _, h, _ => by simp at h
  | x :: r, b, o, 0, h, hr => by
    unfold RowIn at hr
    obtain ⟨⟨h1, vs, h2, h3⟩, _⟩ := hr
    exact ⟨h1, vs, by simpa using h2, h3⟩
  | x :: r, b, o, i + 1, h, hr => by
    unfold RowIn at hr
    have := RowIn.at r b (o + ty.size) i (by simpa using h) hr.2
    obtain ⟨h1, vs, h2, h3⟩ := this
    refine ⟨h1, vs, fun j u hj => ?_, h3⟩
    have e := h2 j u hj
    rwa [show o + ty.size + i * ty.size + j = o + (i + 1) * ty.size + j by rw [Nat.add_mul, Nat.one_mul]; omega] at e
theorem RowIn.of {w : World} {ty : Ty} : ∀ (l : List Nd) (b o : Nat), (∀ i (h : i < l.length), (l[i]).ty = ty ∧ ∃ vs, (∀ j u, vs[j]? = some u → w.cell? ⟨b, o + i * ty.size + j, none⟩ = some u) ∧ NdIn w l[i] vs) → RowIn w ty l b o
  | [], _, _, _ => by unfold RowIn; trivial
  | x :: r, b, o, h => by
    unfold RowIn
    refine ⟨?_, RowIn.of r b (o + ty.size) (fun i hi => ?_)⟩
    · have := h 0 (by simp)
      simpa using this
    · obtain ⟨h1, vs, h2, h3⟩ := h (i + 1) (by simpa using hi)
      refine ⟨h1, vs, fun j u hj => ?_, h3⟩
      have e := h2 j u hj
      rwa [show o + (i + 1) * ty.size + j = o + ty.size + i * ty.size + j by rw [Nat.add_mul, Nat.one_mul]; omega] at e
theorem NdIn.len {w : World} {x : Nd} {vs : List Value} (h : NdIn w x vs) : vs.length = x.ty.size := by
  obtain ⟨ty, k, n, s, xs, cs, ts, es⟩ := x
  unfold NdIn at h
  obtain ⟨_, _, _, _, vx, vc, vt, ve, rfl, _⟩ := h
  exact lay_len _ _ _ _ _ _ _ _
theorem slIn_nil (w : World) (ty : Ty) : SlIn w ty [] (.slice none 0 0) := ⟨none, 0, rfl, Nat.le_refl _, Nat.zero_le _, .inl rfl⟩

theorem spot_none {w : World} {a : Addr} {u : Value} (h : w.cell? a = some u) : a = ⟨a.block, a.off, none⟩ := by
  cases hs : a.spot with
  | none => cases a; simp_all
  | some s =>
    exfalso
    simp only [World.cell?] at h
    split at h
    · simp [hs] at h
    · cases h
theorem add_none (b o i : Nat) : (⟨b, o, none⟩ : Addr).add i = ⟨b, o + i, none⟩ := by
  unfold Addr.add
  split <;> simp_all

section
variable {H : Type} {enc : TypeId × Value → H} {w : World} {base : Nat} {sp : Nat → Bool} {held : Bool}
theorem i64_of {n : Nat} {t : TypeId} {v : Value} {y : DataW H × List MemPlace} (ht : Tryz.prog.underlying t = some (.int .i64)) (h : DataW.trod enc Tryz.prog w base sp held n t [v] = some y) : ∃ k : Int, v = .int .i64 k ∧ i64ok k := by
  obtain ⟨k, h1, _, h2⟩ := DataW.trod_int ht h
  exact ⟨k, by simpa using h1, h2⟩
theorem str_of {n : Nat} {v : Value} {y : DataW H × List MemPlace} (h : DataW.trod enc Tryz.prog w base sp held n 9 [v] = some y) : ∃ s : ByteArray, v = .string s ∧ s.size ≤ maxLen := by
  obtain ⟨s, h1, _, h2⟩ := DataW.trod_string (by kernel_rfl) h
  exact ⟨s, by simpa using h1, h2⟩
theorem ok0 : i64ok 0 := by unfold i64ok; decide
theorem sl0 (w : World) (ty : Ty) : SlOf ([] : List Nd).length (fun b o => RowIn w ty [] b o) (.slice none 0 0) := slIn_nil w ty

theorem len2 {α : Type} {l : List α} (h : l.length = 2) : ∃ a b, l = [a, b] := by
  match l, h with
  | [a, b], _ => exact ⟨a, b, rfl⟩
theorem len4 {α : Type} {l : List α} (h : l.length = 4) : ∃ a b c d, l = [a, b, c, d] := by
  match l, h with
  | [a, b, c, d], _ => exact ⟨a, b, c, d, rfl⟩
theorem len6 {α : Type} {l : List α} (h : l.length = 6) : ∃ a b c d e f, l = [a, b, c, d, e, f] := by
  match l, h with
  | [a, b, c, d, e, f], _ => exact ⟨a, b, c, d, e, f, rfl⟩
theorem one_cell {n : Nat} {cs : List Value} {t : TypeId} {off : Nat} {r : Option (DataW H × List MemPlace)} {y : DataW H × List MemPlace} {c : Value} (hk : Tryz.prog.cellsOf t = 1) (hc : cs[off]? = some c) (hr : r = some y)
    (h : DataW.trod enc Tryz.prog w base sp held n t ((cs.drop off).take (Tryz.prog.cellsOf t)) = r) : DataW.trod enc Tryz.prog w base sp held n t [c] = some y := by
  rw [hk, hr] at h
  have e : (cs.drop off).take 1 = [c] := by
    obtain ⟨hl, he⟩ := List.getElem?_eq_some_iff.1 hc
    rw [List.drop_eq_getElem_cons hl, he]
    rfl
  rwa [e] at h
end
end Go.Proofs.YtjpopelbdhgidaaGreatDoor

/-
  A law for 'for .. := range f' where the iterator f keeps cells of its own: proved is that the statement is left as its rounds leave it, if each round turns nothing at or beyond the heap's end where the loop began but new blocks, and the iterator turns nothing below that end.
  Conditions: the function is no round's frame itself; no defer and no panic in a round.
-/
namespace Go.Proofs.YtjpopelbdhgidaaGreatDoor
open Go Go.RowKit

/-- Blocks at or beyond B stand as they stood; new ones may have come. -/
structure Above (B : Nat) (W W' : World) : Prop where
  size : W.heap.size ≤ W'.heap.size
  block : ∀ k, B ≤ k → k < W.heap.size → W'.heap[k]? = W.heap[k]?

theorem Above.refl (B : Nat) (W : World) : Above B W W := ⟨Nat.le_refl _, fun _ _ _ => rfl⟩
theorem Above.trans {B : Nat} {X Y Z : World} (h : Above B X Y) (k : Above B Y Z) : Above B X Z :=
  ⟨Nat.le_trans h.size k.size, fun i hi hl => (k.block i hi (Nat.lt_of_lt_of_le hl h.size)).trans (h.block i hi hl)⟩
theorem Above.mono {B B' : Nat} {W W' : World} (h : Above B W W') (hB : B ≤ B') : Above B' W W' := ⟨h.size, fun k hk hl => h.block k (Nat.le_trans hB hk) hl⟩
theorem Above.alloc {B : Nat} {X W : World} (h : Above B X W) (o : Obj) : Above B X (W.alloc o) :=
  h.trans ⟨by simp, fun k _ hl => Below.heap_alloc W o k hl⟩
theorem Above.setCell {B : Nat} {X W : World} (h : Above B X W) {p : Addr} (hp : p.block < B) (u : Value) : Above B X (W.setCell p u) :=
  h.trans ⟨by simp [World.setCell], fun k hk _ => Below.heap_setCell W p u k (by omega)⟩
theorem Above.drew {B : Nat} {X W : World} (h : Above B X W) : Above B X W.drew := ⟨h.size, h.block⟩
theorem Above.put {B : Nat} {X W : World} (h : Above B X W) {l : Nat} (hl : l < B) (o : Obj) : Above B X (W.putObj l o) :=
  h.trans ⟨by simp, fun k hk _ => World.putObj_heap_other (by omega)⟩
/-- What a call that keeps all that lay leaves. -/
theorem Above.below {B : Nat} {X W W' : World} (h : Above B X W) (hb : Below W.heap.size W W') : Above B X W' :=
  h.trans ⟨hb.size, fun k _ hl => hb.block k hl⟩
/-- An iterator's contract: whatever the rounds do, xs come in order, all or up to where a round said 'no more'; it turns nothing that lay when it was called. -/
def SeqOf {α : Type} (P : Program) (g : Nat) (lb : Array Value) (encs : α → Array Value) (xs : List α) (w : World) : Prop :=
  ∀ (l : Nat) (J Jx : List α → World → Prop) (W : World), Below w.heap.size w W →
    (∀ pre A B, J pre A → Below W.heap.size A B → J pre B) → (∀ pre A B, Jx pre A → Below W.heap.size A B → Jx pre B) →
    (∀ pre x W1, J pre W1 → pre ++ [x] <+: xs → YieldAt Fence.wide 2 P l (encs x) W1 fun e W' =>
      (e = .returned (.bool true) ∧ J (pre ++ [x]) W' ∧ Above W.heap.size W1 W') ∨ (e = .returned (.bool false) ∧ Jx (pre ++ [x]) W' ∧ Above W.heap.size W1 W')) →
    J [] W →
    Calls P g (#[.func (.yield l) #[] #[]] ++ lb) W fun e W' => (∃ v, e = .returned v) ∧ (J xs W' ∨ ∃ pre, pre <+: xs ∧ Jx pre W')

theorem SeqOf.later {α : Type} {P : Program} {g : Nat} {lb : Array Value} {encs : α → Array Value} {xs : List α} {w w' : World}
    (h : SeqOf P g lb encs xs w) (hb : Below w.heap.size w w') : SeqOf P g lb encs xs w' :=
  fun l J Jx W hW hJ hJx hY h0 => h l J Jx W (hb.trans (hW.mono hb.size)) hJ hJx hY h0

/-- Block b holds these cells, and may be written. -/
def Blk (w : World) (b : Nat) (cs : Array Value) (t : TypeId) : Prop := w.heap[b]? = some (.cells cs t (0, 0))
theorem Blk.lt {w : World} {b : Nat} {cs : Array Value} {t : TypeId} (h : Blk w b cs t) : b < w.heap.size := (Array.getElem?_eq_some_iff.1 h).1
theorem Blk.cell {w : World} {b : Nat} {cs : Array Value} {t : TypeId} (h : Blk w b cs t) (o : Nat) : w.cell? ⟨b, o, none⟩ = cs[o]? := by
  unfold Blk at h
  simp [World.cell?, h]
theorem Blk.free {w : World} {b : Nat} {cs : Array Value} {t : TypeId} (h : Blk w b cs t) (o : Nat) : w.frozen? ⟨b, o, none⟩ = false := by
  unfold Blk at h
  simp [World.frozen?, h]
theorem Blk.set {w : World} {b : Nat} {cs : Array Value} {t : TypeId} (h : Blk w b cs t) (o : Nat) (u : Value) : Blk (w.setCell ⟨b, o, none⟩ u) b (cs.setIfInBounds o u) t := by
  have hlt := h.lt
  have h' : w.heap[b] = .cells cs t (0, 0) := by unfold Blk at h; simpa [Array.getElem?_eq_getElem hlt] using h
  show (w.heap.modify b _)[b]? = _
  rw [Array.getElem?_eq_getElem (by simpa using hlt), Array.getElem_modify_self, h']
  rfl
theorem Blk.other {w : World} {b : Nat} {cs : Array Value} {t : TypeId} (h : Blk w b cs t) {a : Addr} (ha : b ≠ a.block) (u : Value) : Blk (w.setCell a u) b cs t :=
  (Below.heap_setCell w a u b ha).trans h
theorem Blk.new (w : World) (cs : Array Value) (t : TypeId) : Blk (w.alloc (.cells cs t)) w.heap.size cs t := World.alloc_heap_new w _
theorem Blk.alloc {w : World} {b : Nat} {cs : Array Value} {t : TypeId} (h : Blk w b cs t) (o : Obj) : Blk (w.alloc o) b cs t := (Below.heap_alloc w o b h.lt).trans h
theorem Blk.below {B : Nat} {w w' : World} {b : Nat} {cs : Array Value} {t : TypeId} (h : Blk w b cs t) (hb : Below B w w') (hB : b < B) : Blk w' b cs t := (hb.block b hB).trans h
theorem Blk.put {w : World} {b : Nat} {cs : Array Value} {t : TypeId} (h : Blk w b cs t) {l : Nat} (hl : b ≠ l) (o : Obj) : Blk (w.putObj l o) b cs t := (World.putObj_heap_other hl).trans h
theorem Blk.iterAt {w : World} {b : Nat} {cs : Array Value} {t : TypeId} (h : Blk w b cs t) {k : Nat} (hk : b ≠ k) (s : ByteArray) (pos : Nat) : Blk (w.iterAt k s pos) b cs t := (Lib.iterAt_other w k b s pos hk).trans h

end Go.Proofs.YtjpopelbdhgidaaGreatDoor

/-
  The document's walk over a tree (gnomonref3's walk.node, walk.expr, walk.cond, walk.stmt): proved is what each leaves in the walk's cells: how many nodes were met, the greatest depth, the first error.
-/
namespace Go.Proofs.YtjpopelbdhgidaaGreatDoor
open Go Go.RowKit

/-- w' is w but for the block B, and for new blocks. -/
structure Only (B : Nat) (w w' : World) : Prop where
  os : w'.os = w.os
  tape : w'.tape = w.tape
  output : w'.output = w.output
  size : w.heap.size ≤ w'.heap.size
  block : ∀ k, k < w.heap.size → k ≠ B → w'.heap[k]? = w.heap[k]?
theorem Only.refl (B : Nat) (w : World) : Only B w w := ⟨rfl, rfl, rfl, Nat.le_refl _, fun _ _ _ => rfl⟩
theorem Only.trans {B : Nat} {a b c : World} (h : Only B a b) (k : Only B b c) : Only B a c :=
  ⟨k.os.trans h.os, k.tape.trans h.tape, k.output.trans h.output, Nat.le_trans h.size k.size, fun i hi hn => (k.block i (Nat.lt_of_lt_of_le hi h.size) hn).trans (h.block i hi hn)⟩
theorem Only.below {B : Nat} {w w' : World} (h : Below w.heap.size w w') : Only B w w' := ⟨h.os, h.tape, h.output, h.size, fun k hk _ => h.block k hk⟩
theorem Only.alloc {B : Nat} {a w : World} (h : Only B a w) (o : Obj) : Only B a (w.alloc o) := h.trans (Only.below ((Below.refl _ w).alloc (Nat.le_refl _) o))
theorem Only.setCell {B : Nat} {a w : World} (h : Only B a w) {p : Addr} (hp : p.block = B) (u : Value) : Only B a (w.setCell p u) :=
  h.trans ⟨((Below.refl 0 w).setCell (Nat.zero_le _) u).os, ((Below.refl 0 w).setCell (Nat.zero_le _) u).tape, ((Below.refl 0 w).setCell (Nat.zero_le _) u).output, ((Below.refl 0 w).setCell (Nat.zero_le _) u).size, fun k _ hn => Below.heap_setCell w p u k (by rw [hp]; exact hn)⟩
theorem Only.old {B B0 : Nat} {w w' : World} (h : Only B w w') (h0 : B0 ≤ B) (h1 : B0 ≤ w.heap.size) : Below B0 w w' := ⟨h.os, h.tape, h.output, h.size, fun k hk => h.block k (by omega) (by omega)⟩
theorem Blk.only {B : Nat} {w w' : World} {b : Nat} {cs : Array Value} {t : TypeId} (h : Blk w b cs t) (ho : Only B w w') (hb : b ≠ B) : Blk w' b cs t := (ho.block b h.lt hb).trans h

/-- What the walk holds. -/
structure Wk where
  n : Int
  dep : Int
  bad : Int
def Wk.cells (s : Wk) : Array Value := #[.int .i64 s.n, .int .i64 s.dep, .int .i64 s.bad]
def Wk.ok (s : Wk) : Prop := 0 ≤ s.n ∧ s.n ≤ 4096 ∧ 0 ≤ s.dep ∧ s.dep ≤ 64
def Nd.xs : Nd → List Nd | .mk _ _ _ _ xs _ _ _ => xs
def Nd.cs : Nd → List Nd | .mk _ _ _ _ _ cs _ _ => cs
def Nd.ts : Nd → List Nd | .mk _ _ _ _ _ _ ts _ => ts
def Nd.es : Nd → List Nd | .mk _ _ _ _ _ _ _ es => es
end Go.Proofs.YtjpopelbdhgidaaGreatDoor

/-
  The document's walk over an expression (gnomonref3's walk.expr), by induction on the tree: proved is what it leaves in the walk's cells, and that nothing else that lay is turned.
-/
namespace Go.Proofs.YtjpopelbdhgidaaGreatDoor
open Go Go.RowKit

theorem Nd.mem_size {x y : Nd} (h : y ∈ x.xs ∨ y ∈ x.cs ∨ y ∈ x.ts ∨ y ∈ x.es) : SizeOf.sizeOf y < SizeOf.sizeOf x := by
  obtain ⟨ty, k, n, nm, xs, cs, ts, es⟩ := x
  simp only [Nd.xs, Nd.cs, Nd.ts, Nd.es] at h
  simp only [Nd.mk.sizeOf_spec]
  rcases h with h | h | h | h <;> (have := List.sizeOf_lt_of_mem h; omega)
/-- Item i of a list in memory, spelled for the walk. -/
theorem SlIn.item4 {w : World} {ty : Ty} {l : List Nd} {b o : Nat} (hz : ty.size = 4) (h : RowIn w ty l b o) (i : Nat) (hi : i < l.length) : (l[i]).ty = ty ∧ ∃ v0 v1 v2 v3, w.cell? ⟨b, o + i * 4, none⟩ = some v0 ∧ w.cell? ⟨b, o + i * 4 + 1, none⟩ = some v1 ∧ w.cell? ⟨b, o + i * 4 + 2, none⟩ = some v2 ∧ w.cell? ⟨b, o + i * 4 + 3, none⟩ = some v3 ∧ NdIn w l[i] [v0, v1, v2, v3] := by
  obtain ⟨h1, vs, h2, h3⟩ := RowIn.at l b o i hi h
  have hl := h3.len
  rw [h1, hz] at hl
  obtain ⟨v0, v1, v2, v3, rfl⟩ := len4 hl
  rw [hz] at h2
  exact ⟨h1, v0, v1, v2, v3, h2 0 _ rfl, h2 1 _ rfl, h2 2 _ rfl, h2 3 _ rfl, h3⟩

end Go.Proofs.YtjpopelbdhgidaaGreatDoor
