/-
  TreeCopies (P3.3, P3.4): proved is that gnomonlaw3.TreeCopies answers true for every program, and it reads as it did.
  Conditions: none but the row's own.
-/
import Derived.Test.YtpildlaloclanaaCopiesY
import Derived.Test.YtpildlaloclanaaCopiesX
import Derived.Deep.RegionHeld3
import Derived.Deep.AppendLies
import Derived.Deep.RegionLaw
import Derived.Test.YtpildlaloclanaaKnownT
import Derived.Test.YtpildlaloclanaaEqualR
import Derived.Test.YtpildlaloclanaaCheckR
import Derived.Test.YtpildlaloclanaaTreeArg
import Derived.Test.YtpildlaloclanaaRows
import Derived.ProofKit
import Derived.OpenShut
import Derived.Deep.DeepHandedRow
import Derived.Deep.DeepWitnessRowRef
import Derived.SizedLaws
import Derived.LaidMore
/-
  Trees that lie in some blocks alone, and rows of one's own that are filled with such trees: plain facts.
-/
namespace Go.Proofs.Ytpildlaloclanaa
open Go Go.RowKit

/-- A world of which only the blocks of P are seen. -/
def only (P : Nat → Bool) (w : World) : World := { w with heap := w.heap.mapIdx (fun i o => if P i then o else .cells #[] 0 (0, 0)) }
theorem only_heap (P : Nat → Bool) (w : World) (b : Nat) : (only P w).heap[b]? = w.heap[b]?.map (fun o => if P b then o else .cells #[] 0 (0, 0)) := by
  simp [only, Array.getElem?_mapIdx]
theorem only_cell {P : Nat → Bool} {w : World} {b o : Nat} (h : P b = true) : (only P w).cell? ⟨b, o, none⟩ = w.cell? ⟨b, o, none⟩ := by
  refine World.cell?_of_block (a := ⟨b, o, none⟩) ?_
  rw [only_heap]
  simp [h]
theorem only_some {P : Nat → Bool} {w : World} {b o : Nat} {u : Value} (h : (only P w).cell? ⟨b, o, none⟩ = some u) : P b = true ∧ w.cell? ⟨b, o, none⟩ = some u := by
  cases hp : P b with
  | true => rw [only_cell hp] at h; exact ⟨rfl, h⟩
  | false =>
    exfalso
    have e := only_heap P w b
    rw [hp] at e
    unfold World.cell? at h
    rw [e] at h
    cases hw : w.heap[b]? <;> simp [hw] at h
theorem only_keeps {P P' : Nat → Bool} {w w' : World} (hk : ∀ k, P k = true → k < w.heap.size → P' k = true ∧ w'.heap[k]? = w.heap[k]?) : Keeps (only P w) (only P' w') := fun b o u h => by
  obtain ⟨h1, h2⟩ := only_some h
  obtain ⟨h3, h4⟩ := hk b h1 (World.block_lt_of_cell? w ⟨b, o, none⟩ h2)
  rw [only_cell h3]
  exact (World.cell?_of_block (a := ⟨b, o, none⟩) h4).trans h2
theorem only_out {P : Nat → Bool} {w w' : World} (hk : ∀ k, P k = true → k < w.heap.size → w'.heap[k]? = w.heap[k]?) : Keeps (only P w) w' := fun b o u h => by
  obtain ⟨h1, h2⟩ := only_some h
  exact (World.cell?_of_block (a := ⟨b, o, none⟩) (hk b h1 (World.block_lt_of_cell? w ⟨b, o, none⟩ h2))).trans h2
def rng (lo hi : Nat) : Nat → Bool := fun k => decide (lo ≤ k) && decide (k < hi)
theorem rng_iff {lo hi k : Nat} : rng lo hi k = true ↔ lo ≤ k ∧ k < hi := by simp [rng]

/-- A row of one's own of trees that lie in blocks from base on, none of which is the row's. -/
def RLx (w : World) (base : Nat) (ty : Ty) (l : List Nd) (v : Value) (P : Nat → Bool) (vss : List (List Value)) : Prop := l.length = vss.length ∧ w.ownsRow base (tyId ty) ty.size v l.length vss.flatten ∧
  (∀ (i : Nat) (h : i < l.length) (h' : i < vss.length), (l[i]).ty = ty ∧ NdIn (only P w) l[i] vss[i]) ∧ ∀ k, P k = true → base ≤ k ∧ k < w.heap.size ∧ v.ownBlock ≠ some k
def RL (w : World) (base : Nat) (ty : Ty) (l : List Nd) (v : Value) : Prop := ∃ (P : Nat → Bool) (vss : List (List Value)), RLx w base ty l v P vss
theorem RLx.drew {w : World} {base : Nat} {ty : Ty} {l : List Nd} {v : Value} {P : Nat → Bool} {vss : List (List Value)} (h : RLx w base ty l v P vss) : RLx w.drew base ty l v P vss := by
  obtain ⟨h1, h2, h3, h4⟩ := h
  have hk : Keeps (only P w) (only P w.drew) := only_keeps (fun k hp _ => ⟨hp, rfl⟩)
  exact ⟨h1, h2.drew, fun i a b => ⟨(h3 i a b).1, NdIn.keep hk _ _ (h3 i a b).2⟩, h4⟩
theorem RL.nil (w : World) (base : Nat) (ty : Ty) : RL w base ty [] (.slice none 0 0) := ⟨fun _ => false, [], rfl, World.ownsRow_nil _ _ _ _, fun i h => by simp at h, fun k h => by cases h⟩
theorem own_kept {w w' : World} {base : Nat} {e : TypeId} {size n : Nat} {v : Value} {xs : List Value} (h : w.ownsRow base e size v n xs) (hk : ∀ k, base ≤ k → k < w.heap.size → w'.heap[k]? = w.heap[k]?) : w'.ownsRow base e size v n xs := by
  obtain ⟨h1, h2⟩ := h
  refine ⟨h1, h2.imp id fun ⟨g, cap, cur, hv, hg, hh, hr⟩ => ⟨g, cap, cur, hv, hg, (hk g hg (Array.getElem?_eq_some_iff.1 hh).1).trans hh, hr⟩⟩
theorem RL.keep {w w' : World} {base : Nat} {ty : Ty} {l : List Nd} {v : Value} (h : RL w base ty l v) (hk : ∀ k, base ≤ k → k < w.heap.size → w'.heap[k]? = w.heap[k]?) (hs : w.heap.size ≤ w'.heap.size) : RL w' base ty l v := by
  obtain ⟨P, vss, h1, h2, h3, h4⟩ := h
  exact ⟨P, vss, h1, own_kept h2 hk, fun i hi hi' => ⟨(h3 i hi hi').1, NdIn.keep (only_keeps (fun k hp hl => ⟨hp, hk k (h4 k hp).1 hl⟩)) _ _ (h3 i hi hi').2⟩, fun k hp => ⟨(h4 k hp).1, by have := (h4 k hp).2.1; omega, (h4 k hp).2.2⟩⟩
/-- One tree more. -/
theorem RL.snoc {w w3 w4 : World} {base lo : Nat} {ty : Ty} {l : List Nd} {v : Value} {x : Nd} {vs : List Value} {o : Obj} {gg cap : Nat} {P : Nat → Bool} {vss : List (List Value)} (h : RLx w base ty l v P vss) (hx : x.ty = ty) (hb : base ≤ w.heap.size) (hlo : w.heap.size ≤ lo) (hk : ∀ k, base ≤ k → k < w.heap.size → w3.heap[k]? = w.heap[k]?) (hs : w.heap.size ≤ w3.heap.size)
    (hN : NdIn (only (rng lo w3.heap.size) w3) x vs)
    (hown : w4.ownsRow base (tyId ty) ty.size (.slice (some ⟨gg, 0, none⟩) (l.length + 1) cap) (l.length + 1) (vss.flatten ++ vs)) (hgrow : (w3.alloc o).grownBy w4 v.ownBlock) (hat : v.ownBlock = some gg ∨ gg = (w3.alloc o).heap.size) :
    RL w4 base ty (l ++ [x]) (.slice (some ⟨gg, 0, none⟩) (l.length + 1) cap) := by
  obtain ⟨h1, h2, h3, h4⟩ := h
  have hv : ∀ g, v.ownBlock = some g → g < w.heap.size := fun g hg => (h2.lt g hg).2
  have hsz : (w3.alloc o).heap.size = w3.heap.size + 1 := World.size_alloc ..
  have hs4 := hgrow.size
  have hP : ∀ k, P k = true → w4.heap[k]? = w.heap[k]? := fun k hp => by
    obtain ⟨p1, p2, p3⟩ := h4 k hp
    rw [hgrow.block k (by omega) (fun e => p3 e.symm), Below.heap_alloc w3 o k (by omega), hk k p1 p2]
  have hR : ∀ k, rng lo w3.heap.size k = true → w4.heap[k]? = w3.heap[k]? := fun k hp => by
    obtain ⟨p1, p2⟩ := rng_iff.1 hp
    rw [hgrow.block k (by omega) (fun e => by have := hv k e.symm; omega), Below.heap_alloc w3 o k p2]
  refine ⟨fun k => P k || rng lo w3.heap.size k, vss ++ [vs], by simp [h1], ?_, fun i hi hi' => ?_, fun k hp => ?_⟩
  · rw [List.flatten_append, List.length_append]
    simpa using hown
  · by_cases hlt : i < l.length
    · rw [List.getElem_append_left hlt, List.getElem_append_left (by omega)]
      exact ⟨(h3 i hlt (by omega)).1, NdIn.keep (only_keeps (fun k hp _ => ⟨by simp [hp], hP k hp⟩)) _ _ (h3 i hlt (by omega)).2⟩
    · have e : i = l.length := by simp at hi; omega
      subst e
      rw [List.getElem_append_right (Nat.le_refl _), List.getElem_append_right (by omega)]
      simp only [Nat.sub_self, h1, List.getElem_cons_zero]
      exact ⟨hx, NdIn.keep (only_keeps (fun k hp _ => ⟨by simp [hp], hR k hp⟩)) _ _ hN⟩
  · simp only [Bool.or_eq_true] at hp
    rcases hp with hp | hp
    · obtain ⟨p1, p2, p3⟩ := h4 k hp
      refine ⟨p1, by omega, fun e => ?_⟩
      have e1 : gg = k := by simpa [Value.ownBlock] using e
      subst e1
      rcases hat with hat | hat
      · exact p3 hat
      · omega
    · obtain ⟨p1, p2⟩ := rng_iff.1 hp
      refine ⟨by omega, by omega, fun e => ?_⟩
      have e1 : gg = k := by simpa [Value.ownBlock] using e
      subst e1
      rcases hat with hat | hat
      · have := hv gg hat
        omega
      · omega
/-- Such a row is a list of trees in blocks from lo on. -/
theorem RL.toSl {w : World} {base lo : Nat} {ty : Ty} {l : List Nd} {v : Value} (h : RL w base ty l v) (hlo : lo ≤ base) : SlIn (only (rng lo w.heap.size) w) ty l v := by
  obtain ⟨P, vss, h1, h2, h3, h4⟩ := h
  have hn : ∀ (i : Nat) (h : i < l.length) (h' : i < vss.length), (l[i]).ty = ty ∧ NdIn (only (rng lo w.heap.size) w) l[i] vss[i] := fun i hi hi' =>
    ⟨(h3 i hi hi').1, NdIn.keep (only_keeps (fun k hp _ => ⟨rng_iff.2 ⟨by have := (h4 k hp).1; omega, (h4 k hp).2.1⟩, rfl⟩)) _ _ (h3 i hi hi').2⟩
  have hcl := fun g hg => h2.cells (g := g) hg
  have hlt := h2.lt
  rcases h2.2 with ⟨rfl, h0⟩ | ⟨g, cap, cur, rfl, hb, hg, hc1, hc2, -⟩
  · exact ⟨none, 0, by rw [h0], by omega, Nat.zero_le _, .inl h0⟩
  · obtain ⟨q1, q2⟩ := hlt g rfl
    refine ⟨_, cap, rfl, hc1, hc2, .inr ⟨g, 0, rfl, RowIn.cells l vss g 0 h1 hn (fun j u hj => ?_)⟩⟩
    rw [only_cell (rng_iff.2 ⟨by omega, q2⟩)]
    have := hcl g rfl j u hj
    rwa [add_none] at this
/-- What stays while a row is filled: the box, the struct that holds the row in cell off, what lay before. -/
structure Fill (w0 : World) (B : Nat) (box : Array Value) (st : Value → Array Value) (T : TypeId) (w : World) : Prop where
  blk : Blk w B box T
  out : ∃ v, Blk w (B + 2) (st v) T
  old : Below w0.heap.size w0 w
  size : B + 3 ≤ w.heap.size
theorem Fill.drew {w0 : World} {B : Nat} {box : Array Value} {st : Value → Array Value} {T : TypeId} {w : World} (h : Fill w0 B box st T w) : Fill w0 B box st T w.drew := ⟨h.blk, h.out, h.old.drew, h.size⟩
theorem Fill.next {w0 : World} {B : Nat} {box : Array Value} {st : Value → Array Value} {T : TypeId} {w w1 : World} (h : Fill w0 B box st T w) (hb : Below w.heap.size w w1) : Fill w0 B box st T w1 :=
  ⟨h.blk.below hb h.blk.lt, h.out.imp fun _ h1 => h1.below hb h1.lt, h.old.trans (hb.mono h.old.size), by have := h.size; have := hb.size; omega⟩
theorem Fill.alloc {w0 : World} {B : Nat} {box : Array Value} {st : Value → Array Value} {T : TypeId} {w : World} (h : Fill w0 B box st T w) (o : Obj) : Fill w0 B box st T (w.alloc o) := h.next ((Below.refl _ w).alloc (Nat.le_refl _) o)
theorem Fill.grown {w0 : World} {B : Nat} {box : Array Value} {st : Value → Array Value} {T : TypeId} {w w1 : World} {r : Option Nat} (hw0 : w0.heap.size ≤ B) (hr : ∀ g, r = some g → B + 3 ≤ g) (hg : w.grownBy w1 r) (h : Fill w0 B box st T w) : Fill w0 B box st T w1 := by
  obtain ⟨h1, ⟨v, h2⟩, h3, h4⟩ := h
  have hk : ∀ k, k < B + 3 → w1.heap[k]? = w.heap[k]? := fun k hk => hg.block k (by omega) (fun e => by have := hr k e.symm; omega)
  exact ⟨(hk B (by omega)).trans h1, ⟨v, (hk (B + 2) (by omega)).trans h2⟩, h3.trans ⟨hg.os, hg.tape, hg.output, hg.size, fun k h => hk k (by omega)⟩, Nat.le_trans h4 hg.size⟩
theorem Fill.set {w0 : World} {B off : Nat} {box : Array Value} {st : Value → Array Value} {T : TypeId} {w : World} {u : Value} (hw0 : w0.heap.size ≤ B) (hst : ∀ v, (st v).setIfInBounds off u = st u) (h : Fill w0 B box st T w) : Fill w0 B box st T (w.setCell ⟨B + 2, off, none⟩ u) := by
  obtain ⟨h1, ⟨v, h2⟩, h3, h4⟩ := h
  refine ⟨h1.other (a := ⟨B + 2, off, none⟩) (by simp) u, ⟨u, ?_⟩, h3.setCell (p := ⟨B + 2, off, none⟩) (by simp only; omega) u, by rw [World.size_setCell]; exact h4⟩
  rw [← hst v]
  exact h2.set off u
/-- What a document's copy is. -/
def RefCopied (w : World) (x : Nd) : Ending → World → Prop := fun e w' => ∃ vs', e = .returned (.agg vs'.toArray) ∧ NdIn (only (rng w.heap.size w'.heap.size) w') x vs' ∧ Below w.heap.size w w'
def RefCopiedL (w : World) (ty : Ty) (l : List Nd) : Ending → World → Prop := fun e w' => ∃ v', e = .returned v' ∧ SlIn (only (rng w.heap.size w'.heap.size) w') ty l v' ∧ Below w.heap.size w w'
def RefCopyOf (F : FuncId) (w0 : World) (x : Nd) : Prop := ∀ (vs : List Value) (w : World), NdIn w0 x vs → Below w0.heap.size w0 w → Calls Try.prog F #[.agg vs.toArray] w (RefCopied w x)
end Go.Proofs.Ytpildlaloclanaa

/-
  The document's copy of an expression (gnomonref3's CopyExpr): proved is that a copy is the same tree, in new blocks.
-/
namespace Go.Proofs.Ytpildlaloclanaa
open Go Go.RowKit

theorem own_four (a b c d : Value) (h1 : a.oneCell' = true) (h2 : b.oneCell' = true) (h3 : c.oneCell' = true) (h4 : d.oneCell' = true) : ∀ u ∈ ([a, b, c, d] : List Value), u.oneCell' = true := by
  intro u hu
  simp at hu
  rcases hu with rfl | rfl | rfl | rfl <;> assumption
theorem below_alloc' {B : Nat} {w wA : World} (h : Below B w wA) (hB : B ≤ wA.heap.size) (o : Obj) : Below B w (wA.alloc o) := h.alloc hB o

set_option maxRecDepth 100000 in
set_option maxHeartbeats 16000000 in
theorem rcopyE_any (w0 : World) : ∀ (N : Nat) (x : Nd), SizeOf.sizeOf x ≤ N → x.ty = .E → Small x → RefCopyOf 73 w0 x := by
  intro N
  induction N with
  | zero =>
    intro x hN
    obtain ⟨ty, k, n, nm, xs, cs, ts, es⟩ := x
    simp only [Nd.mk.sizeOf_spec] at hN
    omega
  | succ N ih =>
    intro x hN hty hsm vs w hin hw
    have hmem := fun y h => Nd.mem_size (x := x) (y := y) h
    obtain ⟨ty, k, n, nm, xs, cs, ts, es⟩ := x
    simp only [Nd.ty] at hty
    subst hty
    simp only [Nd.xs, Nd.cs, Nd.ts, Nd.es] at hmem
    unfold NdIn at hin
    obtain ⟨⟨rfl, rfl, rfl⟩, hk1, hn1, hsz, vx, vc, vt, ve, rfl, hx, -, -, -⟩ := hin
    obtain ⟨hnm, hxs⟩ := small_E hsm
    have hcopy : ∀ i (h : i < xs.length), RefCopyOf 73 w0 xs[i] := fun i h => ih xs[i] (by have := hmem _ (.inl (List.getElem_mem h)); omega) (slIn_ty hx i h) (hxs.at (List.getElem_mem h))
    have hxlen := hxs.len
    obtain ⟨a, c, rfl, hlc, hcm, hrow⟩ := hx
    have HCOPY := Lib.hid hcopy; clear hcopy
    have HROW := Lib.hid hrow; clear hrow
    clear hxs ih hmem hN hsm hnm
    change Calls _ _ #[.agg #[.int .i64 k, .int .i64 n, .string nm, .slice a xs.length c]] w _
    obtain ⟨B, hBe⟩ : ∃ B, w.heap.size = B := ⟨_, rfl⟩
    obtain ⟨W1, hW1⟩ : ∃ W, ((w.alloc (.cells #[.int .i64 k, .int .i64 n, .string nm, .slice a xs.length c] 42)).alloc (.cells #[.int .i64 0, .int .i64 0, .string ⟨#[]⟩, .slice none 0 0] 42)).alloc (.cells #[.int .i64 k, .int .i64 n, .string nm, .slice none 0 0] 42) = W := ⟨_, rfl⟩
    have hX1 : Blk W1 B #[.int .i64 k, .int .i64 n, .string nm, .slice a xs.length c] 42 := by rw [← hW1, ← hBe]; exact ((Blk.new w _ _).alloc _).alloc _
    have hR1 : Blk W1 (B + 1) #[.int .i64 0, .int .i64 0, .string ⟨#[]⟩, .slice none 0 0] 42 := by rw [← hW1, ← hBe]; exact (blk_second w _ _ _).alloc _
    have hO1 : Blk W1 (B + 2) #[.int .i64 k, .int .i64 n, .string nm, .slice none 0 0] 42 := by
      rw [← hW1, ← hBe]
      have h := Blk.new ((w.alloc (.cells #[.int .i64 k, .int .i64 n, .string nm, .slice a xs.length c] 42)).alloc (.cells #[.int .i64 0, .int .i64 0, .string ⟨#[]⟩, .slice none 0 0] 42)) #[.int .i64 k, .int .i64 n, .string nm, .slice none 0 0] 42
      rw [World.size_alloc, World.size_alloc] at h
      exact h
    have hb1 : Below B w W1 := by rw [← hW1, ← hBe]; exact (((Below.refl _ w).alloc (Nat.le_refl _) _).alloc (by simp) _).alloc (by simp; omega) _
    have hS1 : W1.heap.size = B + 3 := by rw [← hW1, ← hBe, World.size_alloc, World.size_alloc, World.size_alloc]
    obtain ⟨i0, hi0, hz0, hz1, hz2⟩ := info_parts info_E
    have HI0 := Lib.hid hi0; clear hi0
    have HZ0 := Lib.hid hz0; clear hz0
    have HZ1 := Lib.hid hz1; clear hz1
    have HZ2 := Lib.hid hz2; clear hz2
    have HX1 := Lib.hid hX1; clear hX1
    have HR1 := Lib.hid hR1; clear hR1
    have HO1 := Lib.hid hO1; clear hO1
    have HB1 := Lib.hid hb1; clear hb1
    have HS1 := Lib.hid hS1; clear hS1
    have HBE := Lib.hid hBe; clear hBe
    have HHW := Lib.hid hw; clear hw
    have HW1 := Lib.hid hW1; clear hW1
    have HK1 := Lib.hid hk1; clear hk1
    have HN1 := Lib.hid hn1; clear hn1
    have HSZ := Lib.hid hsz; clear hsz
    go_enter Try.func73, Try.ntmps73
    go_upto_block 0 with fail
    rw [HW1.out, HBE.out]
    clear HW1
    obtain ⟨C3, hC3⟩ : ∃ q, q = B + 2 := ⟨_, rfl⟩
    rw [show B + 1 + 1 = C3 from by omega]
    rw [← hC3] at HO1
    have HC3 := Lib.hid hC3; clear hC3
    go_cut [4] (fun _ wx => ∃ v, Blk wx (C3) #[.int .i64 k, .int .i64 n, .string nm, v] 42 ∧ Blk wx (B + 1) #[.int .i64 0, .int .i64 0, .string ⟨#[]⟩, .slice none 0 0] 42 ∧ RL wx (B + 3) .E xs v ∧ Below B w wx ∧ B + 3 ≤ wx.heap.size)
    case first =>
      go_wp2_with fail
      go_loopw [4] (fun x wr => ∃ (i : Nat) (v : Value), x = .int .i64 i ∧ i ≤ xs.length ∧ Blk wr (C3) #[.int .i64 k, .int .i64 n, .string nm, v] 42 ∧ Blk wr (B + 1) #[.int .i64 0, .int .i64 0, .string ⟨#[]⟩, .slice none 0 0] 42 ∧ Blk wr B #[.int .i64 k, .int .i64 n, .string nm, .slice a xs.length c] 42 ∧ RL wr (B + 3) .E (xs.take i) v ∧ Below B w wr ∧ B + 3 ≤ wr.heap.size) (fun x _ => xs.length - (intOf x).toNat)
      case atStart => exact ⟨0, .slice none 0 0, rfl, by omega, HO1.out, HR1.out, HX1.out, by rw [List.take_zero]; exact RL.nil _ _ _, HB1.out, by rw [HS1.out]; exact Nat.le_refl _⟩
      case round =>
        obtain ⟨i, v, rfl, hi, hOr, hRr, hXr, hLr, hbr, hsr⟩ := hrel
        clear HX1 HR1 HO1
        have e3 : wr.cell? ⟨B, 3, none⟩ = some (.slice a xs.length c) := hXr.cell 3
        by_cases hlt : i < xs.length
        · have hbi : (i : Int) + 1 ≤ 9223372036854775807 := by omega
          have hxl : ¬ xs.length = 0 := by omega
          obtain ⟨b, o, rfl, hrow⟩ := HROW.out.resolve_left hxl
          have hold : Below w0.heap.size w0 wr := HHW.out.trans (hbr.mono (by have := HHW.out.size; have := HBE.out; omega))
          obtain ⟨hty, u0, u1, u2, u3, m0, m1, m2, m3, hnd⟩ := SlIn.item4 rfl hrow i hlt
          obtain ⟨fk, fn, fs, fa, fl, fc, rfl, rfl, rfl, rfl⟩ := NdIn.formE hty hnd
          have hbw : b < w0.heap.size := World.block_lt_of_cell? w0 ⟨b, _, none⟩ m0
          have hcp := fun w1 (hb : Below w0.heap.size w0 w1) => HCOPY.out i hlt _ w1 hnd hb
          have htk : xs.take (i + 1) = xs.take i ++ [xs[i]] := (List.take_append_getElem hlt).symm
          have hll : (xs.take i).length = i := by rw [List.length_take]; omega
          obtain ⟨X, hX⟩ : ∃ X, xs[i] = X := ⟨_, rfl⟩
          rw [hX] at hcp htk hty
          have hkx := keeps_below hold
          have hv0 : cellOr wr.drew ⟨C3, 3, none⟩ = v := by
            unfold cellOr
            rw [show wr.drew.cell? ⟨C3, 3, none⟩ = some v from hOr.cell 3]
            rfl
          obtain ⟨P, vss, hRx⟩ := hLr
          have hwB : w0.heap.size ≤ B := by have := HHW.out.size; have := HBE.out; omega
          have hown0 : wr.drew.ownsRow (B + 3) 42 4 v i vss.flatten := by have := hRx.2.1; rw [hll] at this; exact this
          have hvr : ∀ g, v.ownBlock = some g → B + 3 ≤ g := fun g hg => (hRx.2.1.lt g hg).1
          have HNB := Lib.hid (show v.ownBlock ≠ some (C3) from fun e => by have := hvr _ e; have := HC3.out; omega)
          have HNB0 := Lib.hid (show v.ownBlock ≠ some B from fun e => by have := hvr _ e; have := HC3.out; omega)
          have HNB1 := Lib.hid (show v.ownBlock ≠ some (B + 1) from fun e => by have := hvr _ e; have := HC3.out; omega)
          have HOWN := Lib.hid hown0; clear hown0
          have k0 := hkx _ _ _ m0
          have k1 := hkx _ _ _ m1
          have k2 := hkx _ _ _ m2
          have k3 := hkx _ _ _ m3
          have ov : wr.cell? ⟨C3, 3, none⟩ = some v := hOr.cell 3
          have HVR := Lib.hid hvr; clear hvr
          have HRX := Lib.hid hRx; clear hRx
          have HCP := Lib.hid hcp; clear hcp
          have HTK := Lib.hid htk; clear htk
          have HLL := Lib.hid hll; clear hll
          have HTY := Lib.hid hty; clear hty
          have HO := Lib.hid hOr; clear hOr
          have HX := Lib.hid hXr; clear hXr
          have HR := Lib.hid hRr; clear hRr
          have HBR := Lib.hid hbr; clear hbr
          have HOLD := Lib.hid hold; clear hold
          clear m0 m1 m2 m3 hnd hX hkx hrow hv0
          go_upto_region 5 with fail
          go_region_law
            (first | (refine step_append_lies _ (by rfl) _ _ _ (by rfl) (B + 3) 42 i0 _ 4 56 Try.underlying40 HI0.out HZ0.out HZ1.out HZ2.out rfl (by omega) v i vss.flatten (by rfl) ((own_kept HOWN.out (fun q q1 q2 => hb3.block q q2)).alloc _) ⟨w3.heap.size, 0, none⟩ 1 1 [.int .i64 gk, .int .i64 gn, .string gs, .slice ga gl gc] (by rfl) (by rfl) (World.news_of_block (cs := #[.int .i64 gk, .int .i64 gn, .string gs, .slice ga gl gc]) (t := 42) (fr := (0, 0)) (heap_alloc_new w3 _)) (own_four _ _ _ _ rfl rfl rfl rfl) (by omega) (by unfold maxLen; omega) (by omega) (by have := hb3.size; simp at this ⊢; omega) (w3.heap.size + 1) (by simp) ?_; intro gg cap w4 hown4 hgrow hat hlt4; have q4 := (blk_grown (((show Blk wr.drew (C3) _ _ from HO.out).next hb3).alloc _) hgrow HNB.out).cell 3; have q5 := (blk_grown (((show Blk wr.drew (C3) _ _ from HO.out).next hb3).alloc _) hgrow HNB.out).free 3) | (go_simp; go_at_call 73; (with_reducible refine (HCP.out _ HOLD.out.drew).mono ?_); rintro e w3 ⟨vs', rfl, hN3, hb3⟩; obtain ⟨p0, p1, p2, p3, rfl⟩ := len4 (hN3.len.trans (by rw [HTY.out]; rfl)); obtain ⟨gk, gn, gs, ga, gl, gc, rfl, rfl, rfl, rfl⟩ := NdIn.formE HTY.out hN3; have q1 : w3.cell? ⟨C3, 3, none⟩ = some v := ((show Blk wr.drew (C3) _ _ from HO.out).next hb3).cell 3; have q2 : (w3.alloc (.cells #[.int .i64 gk, .int .i64 gn, .string gs, .slice ga gl gc] 42)).cell? ⟨C3, 3, none⟩ = some v := (((show Blk wr.drew (C3) _ _ from HO.out).next hb3).alloc _).cell 3; have q3 : C3 < w3.heap.size := ((show Blk wr.drew (C3) _ _ from HO.out).next hb3).lt))
          all_goals
            have hO4 := (blk_grown (((show Blk wr.drew (C3) _ _ from HO.out).next hb3).alloc (.cells #[.int .i64 gk, .int .i64 gn, .string gs, .slice ga gl gc] 42)) hgrow HNB.out).set 3 (.slice (some ⟨gg, 0, none⟩) (i + 1) cap)
            have hR4 := (blk_grown (((show Blk wr.drew (B + 1) _ _ from HR.out).next hb3).alloc (.cells #[.int .i64 gk, .int .i64 gn, .string gs, .slice ga gl gc] 42)) hgrow HNB1.out).other (a := ⟨C3, 3, none⟩) (by have := HC3.out; simp only; omega) (.slice (some ⟨gg, 0, none⟩) (i + 1) cap)
            have hX4 := (blk_grown (((show Blk wr.drew B _ _ from HX.out).next hb3).alloc (.cells #[.int .i64 gk, .int .i64 gn, .string gs, .slice ga gl gc] 42)) hgrow HNB0.out).other (a := ⟨C3, 3, none⟩) (by have := HC3.out; simp only; omega) (.slice (some ⟨gg, 0, none⟩) (i + 1) cap)
            have hL4 := RL.snoc (w := wr.drew) (o := .cells #[.int .i64 gk, .int .i64 gn, .string gs, .slice ga gl gc] 42) HRX.out.drew HTY.out (show B + 3 ≤ wr.drew.heap.size from hsr) (Nat.le_refl _) (fun q _ q2 => hb3.block q q2) hb3.size hN3 (gg := gg) (cap := cap) (w4 := w4) (by rw [HLL.out]; exact hown4) hgrow (by rw [World.size_alloc]; exact hat)
            rw [HLL.out, ← HTK.out] at hL4
            have hL5 := hL4.keep (w' := w4.setCell ⟨C3, 3, none⟩ (.slice (some ⟨gg, 0, none⟩) (i + 1) cap)) (fun q q1 _ => Below.heap_setCell w4 ⟨C3, 3, none⟩ _ q (by have := HC3.out; simp only; omega)) (by simp)
            have hB4 := (below_grown ((((HBR.out).drew.trans (hb3.mono (show B ≤ wr.drew.heap.size by show B ≤ wr.heap.size; omega))).alloc (by have := hb3.size; have e0 : wr.drew.heap.size = wr.heap.size := rfl; omega) (.cells #[.int .i64 gk, .int .i64 gn, .string gs, .slice ga gl gc] 42))) (by have := hb3.size; have e0 : wr.drew.heap.size = wr.heap.size := rfl; simp; omega) hgrow (fun r hr => by have := HVR.out r hr; omega)).setCell (p := ⟨C3, 3, none⟩) (by have := HC3.out; simp only; omega) (.slice (some ⟨gg, 0, none⟩) (i + 1) cap)
            have hs4 : B + 3 ≤ (w4.setCell ⟨C3, 3, none⟩ (.slice (some ⟨gg, 0, none⟩) (i + 1) cap)).heap.size := by have := hb3.size; have := hgrow.size; have e0 : wr.drew.heap.size = wr.heap.size := rfl; rw [World.size_setCell]; simp at this; omega
            obtain ⟨W, hW⟩ : ∃ W, w4.setCell ⟨C3, 3, none⟩ (.slice (some ⟨gg, 0, none⟩) (i + 1) cap) = W := ⟨_, rfl⟩
            rw [hW] at hO4 hR4 hX4 hL5 hB4 hs4 ⊢
            have HO4 := Lib.hid hO4; clear hO4
            have HR4 := Lib.hid hR4; clear hR4
            have HX4 := Lib.hid hX4; clear hX4
            have HL5 := Lib.hid hL5; clear hL5 hL4
            have HB4 := Lib.hid hB4; clear hB4
            clear hW hgrow hown4 hat hN3 hb3
            go_wp2_with fail
            go_roundw
            case rel => exact ⟨i + 1, _, by go_num, by omega, HO4.out, HR4.out, HX4.out, HL5.out, HB4.out, hs4⟩
            case measure => simp [intOf]; omega
        · obtain rfl : i = xs.length := by omega
          rw [List.take_length] at hLr
          have HO := Lib.hid hOr; clear hOr
          have HR := Lib.hid hRr; clear hRr
          have HL := Lib.hid hLr; clear hLr
          have HBR := Lib.hid hbr; clear hbr
          clear hXr
          go_wp2_with fail
          go_meet
          exact ⟨v, HO.out, HR.out, HL.out, HBR.out, hsr⟩
    case rest =>
      obtain ⟨v, hO, hR, hL, hbB, hsB⟩ := hcut
      obtain ⟨va, vc', hve, -⟩ : ∃ a c, v = .slice a xs.length c ∧ True := by
        obtain ⟨a, c, h, _⟩ := hL.toSl (Nat.le_refl _)
        exact ⟨a, c, h, trivial⟩
      subst hve
      have z0 : wc.cell? ⟨C3, 0, none⟩ = some (.int .i64 k) := hO.cell 0
      have z1 : wc.cell? ⟨C3, 1, none⟩ = some (.int .i64 n) := hO.cell 1
      have z2 : wc.cell? ⟨C3, 2, none⟩ = some (.string nm) := hO.cell 2
      have z3 : wc.cell? ⟨C3, 3, none⟩ = some (.slice va xs.length vc') := hO.cell 3
      have y0 : wc.cell? ⟨B + 1, 0, none⟩ = some (.int .i64 0) := hR.cell 0
      have y1 : wc.cell? ⟨B + 1, 1, none⟩ = some (.int .i64 0) := hR.cell 1
      have y2 : wc.cell? ⟨B + 1, 2, none⟩ = some (.string ⟨#[]⟩) := hR.cell 2
      have y3 : wc.cell? ⟨B + 1, 3, none⟩ = some (.slice none 0 0) := hR.cell 3
      have f0 := hR.free 0
      have f1 := hR.free 1
      have f2 := hR.free 2
      have f3 := hR.free 3
      have bR := (((hR.set 0 (.int .i64 k)).set 1 (.int .i64 n)).set 2 (.string nm)).set 3 (.slice va xs.length vc')
      have hBB : Below B w ((((wc.setCell ⟨B + 1, 0, none⟩ (.int .i64 k)).setCell ⟨B + 1, 1, none⟩ (.int .i64 n)).setCell ⟨B + 1, 2, none⟩ (.string nm)).setCell ⟨B + 1, 3, none⟩ (.slice va xs.length vc')) := (((hbB.setCell (p := ⟨B + 1, 0, none⟩) (by simp) _).setCell (p := ⟨B + 1, 1, none⟩) (by simp) _).setCell (p := ⟨B + 1, 2, none⟩) (by simp) _).setCell (p := ⟨B + 1, 3, none⟩) (by simp) _
      have hL2 := hL.keep (w' := (((wc.setCell ⟨B + 1, 0, none⟩ (.int .i64 k)).setCell ⟨B + 1, 1, none⟩ (.int .i64 n)).setCell ⟨B + 1, 2, none⟩ (.string nm)).setCell ⟨B + 1, 3, none⟩ (.slice va xs.length vc')) (fun q h1 h2 => by
        rw [Below.heap_setCell _ ⟨B + 1, 3, none⟩ _ q (by simp only; omega), Below.heap_setCell _ ⟨B + 1, 2, none⟩ _ q (by simp only; omega), Below.heap_setCell _ ⟨B + 1, 1, none⟩ _ q (by simp only; omega), Below.heap_setCell _ ⟨B + 1, 0, none⟩ _ q (by simp only; omega)]) (by simp)
      obtain ⟨W, hW⟩ : ∃ W, (((wc.setCell ⟨B + 1, 0, none⟩ (.int .i64 k)).setCell ⟨B + 1, 1, none⟩ (.int .i64 n)).setCell ⟨B + 1, 2, none⟩ (.string nm)).setCell ⟨B + 1, 3, none⟩ (.slice va xs.length vc') = W := ⟨_, rfl⟩
      rw [hW] at bR hBB hL2
      have q0 : W.cell? ⟨B + 1, 0, none⟩ = some (.int .i64 k) := bR.cell 0
      have q1 : W.cell? ⟨B + 1, 1, none⟩ = some (.int .i64 n) := bR.cell 1
      have q2 : W.cell? ⟨B + 1, 2, none⟩ = some (.string nm) := bR.cell 2
      have q3 : W.cell? ⟨B + 1, 3, none⟩ = some (.slice va xs.length vc') := bR.cell 3
      have hfin : NdIn (only (rng w.heap.size W.heap.size) W) (.mk .E k n nm xs [] [] []) [.int .i64 k, .int .i64 n, .string nm, .slice va xs.length vc'] := by
        unfold NdIn
        exact ⟨⟨rfl, rfl, rfl⟩, HK1.out, HN1.out, HSZ.out, _, .slice none 0 0, .slice none 0 0, .slice none 0 0, rfl, hL2.toSl (by have := HBE.out; omega), sl0 _ .C, sl0 _ .S, sl0 _ .S⟩
      have HFIN := Lib.hid hfin; clear hfin
      have HBB := Lib.hid hBB; clear hBB
      have HWW := Lib.hid hW; clear hW
      clear bR hL2 hL hO hR hbB HX1 HR1 HO1
      go_wp2_with fail
      rw [HWW.out]
      exact bodyPost_ret (v := .agg #[.int .i64 k, .int .i64 n, .string nm, .slice va xs.length vc']) (by simp [results, Try.results73, go_sem, q0, q1, q2, q3]) rfl ⟨[.int .i64 k, .int .i64 n, .string nm, .slice va xs.length vc'], rfl, HFIN.out, by rw [HBE.out]; exact HBB.out⟩
end Go.Proofs.Ytpildlaloclanaa

/-
  The document's copy of a condition (gnomonref3's CopyCond): proved is that a copy is the same tree, in new blocks.
-/
namespace Go.Proofs.Ytpildlaloclanaa
open Go Go.RowKit

set_option maxRecDepth 100000 in
set_option maxHeartbeats 16000000 in
theorem rcopyC_any (w0 : World) : ∀ (N : Nat) (x : Nd), SizeOf.sizeOf x ≤ N → x.ty = .C → Small x → RefCopyOf 72 w0 x := by
  intro N
  induction N with
  | zero =>
    intro x hN
    obtain ⟨ty, k, n, nm, xs, cs, ts, es⟩ := x
    simp only [Nd.mk.sizeOf_spec] at hN
    omega
  | succ N ih =>
    intro x hN hty hsm vs w hin hw
    have hmem := fun y h => Nd.mem_size (x := x) (y := y) h
    obtain ⟨ty, k, n, nm, xs, cs, ts, es⟩ := x
    simp only [Nd.ty] at hty
    subst hty
    simp only [Nd.xs, Nd.cs, Nd.ts, Nd.es] at hmem
    unfold NdIn at hin
    obtain ⟨⟨rfl, rfl, rfl⟩, hk1, hn1, hsz, vx, vc, vt, ve, rfl, hx, hc, -, -⟩ := hin
    obtain ⟨hxs, hcs⟩ := small_C hsm
    have hcopy1 : ∀ i (h : i < xs.length), RefCopyOf 73 w0 xs[i] := fun i h => rcopyE_any w0 _ xs[i] (Nat.le_refl _) (slIn_ty hx i h) (hxs.at (List.getElem_mem h))
    have hcopy2 : ∀ i (h : i < cs.length), RefCopyOf 72 w0 cs[i] := fun i h => ih cs[i] (by have := hmem _ (.inr (.inl (List.getElem_mem h))); omega) (slIn_ty hc i h) (hcs.at (List.getElem_mem h))
    have hxlen := hxs.len
    have hclen := hcs.len
    obtain ⟨a, c, rfl, hlc, hcm, hrow⟩ := hx
    obtain ⟨a2, c2, rfl, hlc2, hcm2, hrow2⟩ := hc
    have HCOPY1 := Lib.hid hcopy1; clear hcopy1
    have HCOPY2 := Lib.hid hcopy2; clear hcopy2
    have HROW1 := Lib.hid hrow; clear hrow
    have HROW2 := Lib.hid hrow2; clear hrow2
    clear hxs hcs ih hmem hN hsm
    change Calls _ _ #[.agg #[.int .i64 k, .int .i64 n, .slice a xs.length c, .slice a2 cs.length c2]] w _
    obtain ⟨B, hBe⟩ : ∃ B, w.heap.size = B := ⟨_, rfl⟩
    obtain ⟨W1, hW1⟩ : ∃ W, ((w.alloc (.cells #[.int .i64 k, .int .i64 n, .slice a xs.length c, .slice a2 cs.length c2] 45)).alloc (.cells #[.int .i64 0, .int .i64 0, .slice none 0 0, .slice none 0 0] 45)).alloc (.cells #[.int .i64 k, .int .i64 n, .slice none 0 0, .slice none 0 0] 45) = W := ⟨_, rfl⟩
    have hX1 : Blk W1 B #[.int .i64 k, .int .i64 n, .slice a xs.length c, .slice a2 cs.length c2] 45 := by rw [← hW1, ← hBe]; exact ((Blk.new w _ _).alloc _).alloc _
    have hR1 : Blk W1 (B + 1) #[.int .i64 0, .int .i64 0, .slice none 0 0, .slice none 0 0] 45 := by rw [← hW1, ← hBe]; exact (blk_second w _ _ _).alloc _
    have hO1 : Blk W1 (B + 2) #[.int .i64 k, .int .i64 n, .slice none 0 0, .slice none 0 0] 45 := by
      rw [← hW1, ← hBe]
      have h := Blk.new ((w.alloc (.cells #[.int .i64 k, .int .i64 n, .slice a xs.length c, .slice a2 cs.length c2] 45)).alloc (.cells #[.int .i64 0, .int .i64 0, .slice none 0 0, .slice none 0 0] 45)) #[.int .i64 k, .int .i64 n, .slice none 0 0, .slice none 0 0] 45
      rw [World.size_alloc, World.size_alloc] at h
      exact h
    have hb1 : Below B w W1 := by rw [← hW1, ← hBe]; exact (((Below.refl _ w).alloc (Nat.le_refl _) _).alloc (by simp) _).alloc (by simp; omega) _
    have hS1 : W1.heap.size = B + 3 := by rw [← hW1, ← hBe, World.size_alloc, World.size_alloc, World.size_alloc]
    have HX1 := Lib.hid hX1; clear hX1
    have HR1 := Lib.hid hR1; clear hR1
    have HO1 := Lib.hid hO1; clear hO1
    have HB1 := Lib.hid hb1; clear hb1
    have HS1 := Lib.hid hS1; clear hS1
    have HBE := Lib.hid hBe; clear hBe
    have HHW := Lib.hid hw; clear hw
    have HW1 := Lib.hid hW1; clear hW1
    have HK1 := Lib.hid hk1; clear hk1
    have HN1 := Lib.hid hn1; clear hn1
    have HSZ := Lib.hid hsz; clear hsz
    go_enter Try.func72, Try.ntmps72
    go_upto_block 0 with fail
    rw [HW1.out, HBE.out]
    clear HW1
    obtain ⟨C3, hC3⟩ : ∃ q, q = B + 2 := ⟨_, rfl⟩
    rw [show B + 1 + 1 = C3 from by omega]
    rw [← hC3] at HO1
    have HC3 := Lib.hid hC3; clear hC3
    go_cut [4] (fun _ wx => ∃ v, Blk wx C3 #[.int .i64 k, .int .i64 n, v, .slice none 0 0] 45 ∧ Blk wx (B + 1) #[.int .i64 0, .int .i64 0, .slice none 0 0, .slice none 0 0] 45 ∧ Blk wx B #[.int .i64 k, .int .i64 n, .slice a xs.length c, .slice a2 cs.length c2] 45 ∧ RL wx (B + 3) .E xs v ∧ Below B w wx ∧ B + 3 ≤ wx.heap.size)
    case first =>
      obtain ⟨i0, hi0, hz0, hz1, hz2⟩ := info_parts info_E
      have HI0 := Lib.hid hi0; clear hi0
      have HZ0 := Lib.hid hz0; clear hz0
      have HZ1 := Lib.hid hz1; clear hz1
      have HZ2 := Lib.hid hz2; clear hz2
      go_wp2_with fail
      go_loopw [4] (fun x wr => ∃ (i : Nat) (v : Value), x = .int .i64 i ∧ i ≤ xs.length ∧ Blk wr C3 #[.int .i64 k, .int .i64 n, v, .slice none 0 0] 45 ∧ Blk wr (B + 1) #[.int .i64 0, .int .i64 0, .slice none 0 0, .slice none 0 0] 45 ∧ Blk wr B #[.int .i64 k, .int .i64 n, .slice a xs.length c, .slice a2 cs.length c2] 45 ∧ RL wr (B + 3) .E (xs.take i) v ∧ Below B w wr ∧ B + 3 ≤ wr.heap.size) (fun x _ => xs.length - (intOf x).toNat)
      case atStart => exact ⟨0, .slice none 0 0, rfl, by omega, HO1.out, HR1.out, HX1.out, by rw [List.take_zero]; exact RL.nil _ _ _, HB1.out, by rw [HS1.out]; exact Nat.le_refl _⟩
      case round =>
        obtain ⟨i, v, rfl, hi, hOr, hRr, hXr, hLr, hbr, hsr⟩ := hrel
        clear HX1 HR1 HO1
        have e3 : wr.cell? ⟨B, 2, none⟩ = some (.slice a xs.length c) := hXr.cell 2
        by_cases hlt : i < xs.length
        · have hbi : (i : Int) + 1 ≤ 9223372036854775807 := by omega
          have hxl : ¬ xs.length = 0 := by omega
          obtain ⟨b, o, rfl, hrow⟩ := HROW1.out.resolve_left hxl
          have hold : Below w0.heap.size w0 wr := HHW.out.trans (hbr.mono (by have := HHW.out.size; have := HBE.out; omega))
          obtain ⟨hty, u0, u1, u2, u3, m0, m1, m2, m3, hnd⟩ := SlIn.item4 rfl hrow i hlt
          obtain ⟨fk, fn, fs, fa, fl, fc, rfl, rfl, rfl, rfl⟩ := NdIn.formE hty hnd
          have hcp := fun w1 (hb : Below w0.heap.size w0 w1) => HCOPY1.out i hlt _ w1 hnd hb
          have htk : xs.take (i + 1) = xs.take i ++ [xs[i]] := (List.take_append_getElem hlt).symm
          have hll : (xs.take i).length = i := by rw [List.length_take]; omega
          obtain ⟨X, hX⟩ : ∃ X, xs[i] = X := ⟨_, rfl⟩
          rw [hX] at hcp htk hty
          have hkx := keeps_below hold
          obtain ⟨P, vss, hRx⟩ := hLr
          have hwB : w0.heap.size ≤ B := by have := HHW.out.size; have := HBE.out; omega
          have hown0 : wr.drew.ownsRow (B + 3) 42 4 v i vss.flatten := by have := hRx.2.1; rw [hll] at this; exact this
          have hvr : ∀ g, v.ownBlock = some g → (B + 3) ≤ g := fun g hg => (hRx.2.1.lt g hg).1
          have HNB := Lib.hid (show v.ownBlock ≠ some C3 from fun e => by have := hvr _ e; have := HC3.out; omega)
          have HNB0 := Lib.hid (show v.ownBlock ≠ some B from fun e => by have := hvr _ e; omega)
          have HNB1 := Lib.hid (show v.ownBlock ≠ some (B + 1) from fun e => by have := hvr _ e; omega)
          have HOWN := Lib.hid hown0; clear hown0
          have k0 := hkx _ _ _ m0
          have k1 := hkx _ _ _ m1
          have k2 := hkx _ _ _ m2
          have k3 := hkx _ _ _ m3
          have ov : wr.cell? ⟨C3, 2, none⟩ = some v := hOr.cell 2
          have HVR := Lib.hid hvr; clear hvr
          have HRX := Lib.hid hRx; clear hRx
          have HCP := Lib.hid hcp; clear hcp
          have HTK := Lib.hid htk; clear htk
          have HLL := Lib.hid hll; clear hll
          have HTY := Lib.hid hty; clear hty
          have HO := Lib.hid hOr; clear hOr
          have HX := Lib.hid hXr; clear hXr
          have HR := Lib.hid hRr; clear hRr
          have HBR := Lib.hid hbr; clear hbr
          have HOLD := Lib.hid hold; clear hold
          clear m0 m1 m2 m3 hnd hX hkx hrow
          go_upto_region 5 with fail
          go_region_law
            (first | (refine step_append_lies _ (by rfl) _ _ _ (by rfl) (B + 3) 42 i0 _ 4 56 Try.underlying40 HI0.out HZ0.out HZ1.out HZ2.out rfl (by omega) v i vss.flatten (by rfl) ((own_kept HOWN.out (fun q q1 q2 => hb3.block q q2)).alloc _) ⟨w3.heap.size, 0, none⟩ 1 1 [.int .i64 gk, .int .i64 gn, .string gs, .slice ga gl gc] (by rfl) (by rfl) (World.news_of_block (cs := #[.int .i64 gk, .int .i64 gn, .string gs, .slice ga gl gc]) (t := 42) (fr := (0, 0)) (heap_alloc_new w3 _)) (own_four _ _ _ _ rfl rfl rfl rfl) (by omega) (by unfold maxLen; omega) (by omega) (by have := hb3.size; simp at this ⊢; omega) (w3.heap.size + 1) (by simp) ?_; intro gg cap w4 hown4 hgrow hat hlt4; have q4 := (blk_grown (((show Blk wr.drew C3 _ _ from HO.out).next hb3).alloc _) hgrow HNB.out).cell 2; have q5 := (blk_grown (((show Blk wr.drew C3 _ _ from HO.out).next hb3).alloc _) hgrow HNB.out).free 2) | (go_simp; go_at_call 73; (with_reducible refine (HCP.out _ HOLD.out.drew).mono ?_); rintro e w3 ⟨vs', rfl, hN3, hb3⟩; obtain ⟨p0, p1, p2, p3, rfl⟩ := len4 (hN3.len.trans (by rw [HTY.out]; rfl)); obtain ⟨gk, gn, gs, ga, gl, gc, rfl, rfl, rfl, rfl⟩ := NdIn.formE HTY.out hN3; have q1 : w3.cell? ⟨C3, 2, none⟩ = some v := ((show Blk wr.drew C3 _ _ from HO.out).next hb3).cell 2; have q2 : (w3.alloc (.cells #[.int .i64 gk, .int .i64 gn, .string gs, .slice ga gl gc] 42)).cell? ⟨C3, 2, none⟩ = some v := (((show Blk wr.drew C3 _ _ from HO.out).next hb3).alloc _).cell 2; have q3 : C3 < w3.heap.size := ((show Blk wr.drew C3 _ _ from HO.out).next hb3).lt))
          all_goals
            have hO4 := (blk_grown (((show Blk wr.drew C3 _ _ from HO.out).next hb3).alloc (.cells #[.int .i64 gk, .int .i64 gn, .string gs, .slice ga gl gc] 42)) hgrow HNB.out).set 2 (.slice (some ⟨gg, 0, none⟩) (i + 1) cap)
            have hR4 := (blk_grown (((show Blk wr.drew (B + 1) _ _ from HR.out).next hb3).alloc (.cells #[.int .i64 gk, .int .i64 gn, .string gs, .slice ga gl gc] 42)) hgrow HNB1.out).other (a := ⟨C3, 2, none⟩) (by have := HC3.out; simp only; omega) (.slice (some ⟨gg, 0, none⟩) (i + 1) cap)
            have hX4 := (blk_grown (((show Blk wr.drew B _ _ from HX.out).next hb3).alloc (.cells #[.int .i64 gk, .int .i64 gn, .string gs, .slice ga gl gc] 42)) hgrow HNB0.out).other (a := ⟨C3, 2, none⟩) (by have := HC3.out; simp only; omega) (.slice (some ⟨gg, 0, none⟩) (i + 1) cap)
            have hL4 := RL.snoc (w := wr.drew) (o := .cells #[.int .i64 gk, .int .i64 gn, .string gs, .slice ga gl gc] 42) HRX.out.drew HTY.out (show (B + 3) ≤ wr.drew.heap.size from (by show (B + 3) ≤ wr.heap.size; omega)) (Nat.le_refl _) (fun q _ q2 => hb3.block q q2) hb3.size hN3 (gg := gg) (cap := cap) (w4 := w4) (by rw [HLL.out]; exact hown4) hgrow (by rw [World.size_alloc]; exact hat)
            rw [HLL.out, ← HTK.out] at hL4
            have hL5 := hL4.keep (w' := w4.setCell ⟨C3, 2, none⟩ (.slice (some ⟨gg, 0, none⟩) (i + 1) cap)) (fun q q1 _ => Below.heap_setCell w4 ⟨C3, 2, none⟩ _ q (by have := HC3.out; simp only; omega)) (by simp)
            have hB4 := (below_grown ((((HBR.out).drew.trans (hb3.mono (show B ≤ wr.drew.heap.size by show B ≤ wr.heap.size; omega))).alloc (by have := hb3.size; have e0 : wr.drew.heap.size = wr.heap.size := rfl; omega) (.cells #[.int .i64 gk, .int .i64 gn, .string gs, .slice ga gl gc] 42))) (by have := hb3.size; have e0 : wr.drew.heap.size = wr.heap.size := rfl; simp; omega) hgrow (fun r hr => by have := HVR.out r hr; omega)).setCell (p := ⟨C3, 2, none⟩) (by have := HC3.out; simp only; omega) (.slice (some ⟨gg, 0, none⟩) (i + 1) cap)
            have hs4 : (B + 3) ≤ (w4.setCell ⟨C3, 2, none⟩ (.slice (some ⟨gg, 0, none⟩) (i + 1) cap)).heap.size := by have := hb3.size; have := hgrow.size; have e0 : wr.drew.heap.size = wr.heap.size := rfl; rw [World.size_setCell]; simp at this; omega
            obtain ⟨W, hW⟩ : ∃ W, w4.setCell ⟨C3, 2, none⟩ (.slice (some ⟨gg, 0, none⟩) (i + 1) cap) = W := ⟨_, rfl⟩
            rw [hW] at hO4 hR4 hX4 hL5 hB4 hs4 ⊢
            have HO4 := Lib.hid hO4; clear hO4
            have HR4 := Lib.hid hR4; clear hR4
            have HX4 := Lib.hid hX4; clear hX4
            have HL5 := Lib.hid hL5; clear hL5 hL4
            have HB4 := Lib.hid hB4; clear hB4
            clear hW hgrow hown4 hat hN3 hb3
            go_wp2_with fail
            go_roundw
            case rel => exact ⟨i + 1, _, by go_num, by omega, HO4.out, HR4.out, HX4.out, HL5.out, HB4.out, hs4⟩
            case measure => simp [intOf]; omega
        · obtain rfl : i = xs.length := by omega
          rw [List.take_length] at hLr
          have HO := Lib.hid hOr; clear hOr
          have HR := Lib.hid hRr; clear hRr
          have HX := Lib.hid hXr; clear hXr
          have HL := Lib.hid hLr; clear hLr
          have HBR := Lib.hid hbr; clear hbr
          go_wp2_with fail
          go_meet
          exact ⟨v, HO.out, HR.out, HX.out, HL.out, HBR.out, hsr⟩
    case rest =>
      obtain ⟨v1, hO, hR, hX, hL, hbB, hsB⟩ := hcut
      obtain ⟨va, vc', hve⟩ : ∃ a c, v1 = .slice a xs.length c := by
        obtain ⟨a, c, h, _⟩ := hL.toSl (Nat.le_refl _)
        exact ⟨a, c, h⟩
      subst hve
      obtain ⟨S2, hS2⟩ : ∃ q, wc.heap.size = q := ⟨_, rfl⟩
      obtain ⟨wb, hwb⟩ : ∃ x, x = wc := ⟨_, rfl⟩
      subst hwb
      clear HX1 HR1 HO1 HB1
      have HX1 := Lib.hid hX; clear hX
      have HR1 := Lib.hid hR; clear hR
      have HO1 := Lib.hid hO; clear hO
      have HL1 := Lib.hid hL; clear hL
      have HB1 := Lib.hid hbB; clear hbB
      have hS2B : B + 3 ≤ S2 := by omega
      have HS2 := Lib.hid hS2; clear hS2 hsB
      obtain ⟨i0, hi0, hz0, hz1, hz2⟩ := info_parts info_C
      have HI0 := Lib.hid hi0; clear hi0
      have HZ0 := Lib.hid hz0; clear hz0
      have HZ1 := Lib.hid hz1; clear hz1
      have HZ2 := Lib.hid hz2; clear hz2
      go_upto_block 2 with fail
      go_cut [5] (fun _ wx => ∃ v, Blk wx C3 #[.int .i64 k, .int .i64 n, .slice va xs.length vc', v] 45 ∧ Blk wx (B + 1) #[.int .i64 0, .int .i64 0, .slice none 0 0, .slice none 0 0] 45 ∧ Blk wx B #[.int .i64 k, .int .i64 n, .slice a xs.length c, .slice a2 cs.length c2] 45 ∧ RL wx S2 .C cs v ∧ Below B w wx ∧ S2 ≤ wx.heap.size ∧ ∀ q, B + 3 ≤ q → q < S2 → wx.heap[q]? = wb.heap[q]?)
      case first =>
        go_wp2_with fail
        go_loopw [5] (fun x wr => ∃ (i : Nat) (v : Value), x = .int .i64 i ∧ i ≤ cs.length ∧ Blk wr C3 #[.int .i64 k, .int .i64 n, .slice va xs.length vc', v] 45 ∧ Blk wr (B + 1) #[.int .i64 0, .int .i64 0, .slice none 0 0, .slice none 0 0] 45 ∧ Blk wr B #[.int .i64 k, .int .i64 n, .slice a xs.length c, .slice a2 cs.length c2] 45 ∧ RL wr S2 .C (cs.take i) v ∧ Below B w wr ∧ S2 ≤ wr.heap.size ∧ ∀ q, B + 3 ≤ q → q < S2 → wr.heap[q]? = wb.heap[q]?) (fun x _ => cs.length - (intOf x).toNat)
        case atStart => exact ⟨0, .slice none 0 0, rfl, by omega, HO1.out, HR1.out, HX1.out, by rw [List.take_zero]; exact RL.nil _ _ _, HB1.out, by rw [HS2.out]; exact Nat.le_refl _, fun _ _ _ => rfl⟩
        case round =>
          obtain ⟨i, v, rfl, hi, hOr, hRr, hXr, hLr, hbr, hsr, hsm⟩ := hrel
          clear HX1 HR1 HO1
          have e3 : wr.cell? ⟨B, 3, none⟩ = some (.slice a2 cs.length c2) := hXr.cell 3
          by_cases hlt : i < cs.length
          · have hbi : (i : Int) + 1 ≤ 9223372036854775807 := by omega
            have hxl : ¬ cs.length = 0 := by omega
            obtain ⟨b, o, rfl, hrow⟩ := HROW2.out.resolve_left hxl
            have hold : Below w0.heap.size w0 wr := HHW.out.trans (hbr.mono (by have := HHW.out.size; have := HBE.out; omega))
            obtain ⟨hty, u0, u1, u2, u3, m0, m1, m2, m3, hnd⟩ := SlIn.item4 rfl hrow i hlt
            obtain ⟨fk, fn, fa, fl, fc, fa2, fl2, fc2, rfl, rfl, rfl, rfl⟩ := NdIn.formC hty hnd
            have hcp := fun w1 (hb : Below w0.heap.size w0 w1) => HCOPY2.out i hlt _ w1 hnd hb
            have htk : cs.take (i + 1) = cs.take i ++ [cs[i]] := (List.take_append_getElem hlt).symm
            have hll : (cs.take i).length = i := by rw [List.length_take]; omega
            obtain ⟨X, hX⟩ : ∃ X, cs[i] = X := ⟨_, rfl⟩
            rw [hX] at hcp htk hty
            have hkx := keeps_below hold
            obtain ⟨P, vss, hRx⟩ := hLr
            have hwB : w0.heap.size ≤ B := by have := HHW.out.size; have := HBE.out; omega
            have hown0 : wr.drew.ownsRow S2 45 4 v i vss.flatten := by have := hRx.2.1; rw [hll] at this; exact this
            have hvr : ∀ g, v.ownBlock = some g → S2 ≤ g := fun g hg => (hRx.2.1.lt g hg).1
            have HNB := Lib.hid (show v.ownBlock ≠ some C3 from fun e => by have := hvr _ e; have := HC3.out; omega)
            have HNB0 := Lib.hid (show v.ownBlock ≠ some B from fun e => by have := hvr _ e; omega)
            have HNB1 := Lib.hid (show v.ownBlock ≠ some (B + 1) from fun e => by have := hvr _ e; omega)
            have HOWN := Lib.hid hown0; clear hown0
            have k0 := hkx _ _ _ m0
            have k1 := hkx _ _ _ m1
            have k2 := hkx _ _ _ m2
            have k3 := hkx _ _ _ m3
            have ov : wr.cell? ⟨C3, 3, none⟩ = some v := hOr.cell 3
            have HVR := Lib.hid hvr; clear hvr
            have HRX := Lib.hid hRx; clear hRx
            have HCP := Lib.hid hcp; clear hcp
            have HTK := Lib.hid htk; clear htk
            have HLL := Lib.hid hll; clear hll
            have HTY := Lib.hid hty; clear hty
            have HSM := Lib.hid hsm; clear hsm
            have HO := Lib.hid hOr; clear hOr
            have HX := Lib.hid hXr; clear hXr
            have HR := Lib.hid hRr; clear hRr
            have HBR := Lib.hid hbr; clear hbr
            have HOLD := Lib.hid hold; clear hold
            clear m0 m1 m2 m3 hnd hX hkx hrow
            go_upto_region 9 with fail
            go_region_law
              (first | (refine step_append_lies _ (by rfl) _ _ _ (by rfl) S2 45 i0 _ 4 64 Try.underlying43 HI0.out HZ0.out HZ1.out HZ2.out rfl (by omega) v i vss.flatten (by rfl) ((own_kept HOWN.out (fun q q1 q2 => hb3.block q q2)).alloc _) ⟨w3.heap.size, 0, none⟩ 1 1 [.int .i64 gk, .int .i64 gn, .slice ga gl gc, .slice ga2 gl2 gc2] (by rfl) (by rfl) (World.news_of_block (cs := #[.int .i64 gk, .int .i64 gn, .slice ga gl gc, .slice ga2 gl2 gc2]) (t := 45) (fr := (0, 0)) (heap_alloc_new w3 _)) (own_four _ _ _ _ rfl rfl rfl rfl) (by omega) (by unfold maxLen; omega) (by omega) (by have := hb3.size; simp at this ⊢; omega) (w3.heap.size + 1) (by simp) ?_; intro gg cap w4 hown4 hgrow hat hlt4; have q4 := (blk_grown (((show Blk wr.drew C3 _ _ from HO.out).next hb3).alloc _) hgrow HNB.out).cell 3; have q5 := (blk_grown (((show Blk wr.drew C3 _ _ from HO.out).next hb3).alloc _) hgrow HNB.out).free 3) | (go_simp; go_at_call 72; (with_reducible refine (HCP.out _ HOLD.out.drew).mono ?_); rintro e w3 ⟨vs', rfl, hN3, hb3⟩; obtain ⟨p0, p1, p2, p3, rfl⟩ := len4 (hN3.len.trans (by rw [HTY.out]; rfl)); obtain ⟨gk, gn, ga, gl, gc, ga2, gl2, gc2, rfl, rfl, rfl, rfl⟩ := NdIn.formC HTY.out hN3; have q1 : w3.cell? ⟨C3, 3, none⟩ = some v := ((show Blk wr.drew C3 _ _ from HO.out).next hb3).cell 3; have q2 : (w3.alloc (.cells #[.int .i64 gk, .int .i64 gn, .slice ga gl gc, .slice ga2 gl2 gc2] 45)).cell? ⟨C3, 3, none⟩ = some v := (((show Blk wr.drew C3 _ _ from HO.out).next hb3).alloc _).cell 3; have q3 : C3 < w3.heap.size := ((show Blk wr.drew C3 _ _ from HO.out).next hb3).lt))
            all_goals
              have hO4 := (blk_grown (((show Blk wr.drew C3 _ _ from HO.out).next hb3).alloc (.cells #[.int .i64 gk, .int .i64 gn, .slice ga gl gc, .slice ga2 gl2 gc2] 45)) hgrow HNB.out).set 3 (.slice (some ⟨gg, 0, none⟩) (i + 1) cap)
              have hR4 := (blk_grown (((show Blk wr.drew (B + 1) _ _ from HR.out).next hb3).alloc (.cells #[.int .i64 gk, .int .i64 gn, .slice ga gl gc, .slice ga2 gl2 gc2] 45)) hgrow HNB1.out).other (a := ⟨C3, 3, none⟩) (by have := HC3.out; simp only; omega) (.slice (some ⟨gg, 0, none⟩) (i + 1) cap)
              have hX4 := (blk_grown (((show Blk wr.drew B _ _ from HX.out).next hb3).alloc (.cells #[.int .i64 gk, .int .i64 gn, .slice ga gl gc, .slice ga2 gl2 gc2] 45)) hgrow HNB0.out).other (a := ⟨C3, 3, none⟩) (by have := HC3.out; simp only; omega) (.slice (some ⟨gg, 0, none⟩) (i + 1) cap)
              have hL4 := RL.snoc (w := wr.drew) (o := .cells #[.int .i64 gk, .int .i64 gn, .slice ga gl gc, .slice ga2 gl2 gc2] 45) HRX.out.drew HTY.out (show S2 ≤ wr.drew.heap.size from (by show S2 ≤ wr.heap.size; omega)) (Nat.le_refl _) (fun q _ q2 => hb3.block q q2) hb3.size hN3 (gg := gg) (cap := cap) (w4 := w4) (by rw [HLL.out]; exact hown4) hgrow (by rw [World.size_alloc]; exact hat)
              rw [HLL.out, ← HTK.out] at hL4
              have hL5 := hL4.keep (w' := w4.setCell ⟨C3, 3, none⟩ (.slice (some ⟨gg, 0, none⟩) (i + 1) cap)) (fun q q1 _ => Below.heap_setCell w4 ⟨C3, 3, none⟩ _ q (by have := HC3.out; simp only; omega)) (by simp)
              have hB4 := (below_grown ((((HBR.out).drew.trans (hb3.mono (show B ≤ wr.drew.heap.size by show B ≤ wr.heap.size; omega))).alloc (by have := hb3.size; have e0 : wr.drew.heap.size = wr.heap.size := rfl; omega) (.cells #[.int .i64 gk, .int .i64 gn, .slice ga gl gc, .slice ga2 gl2 gc2] 45))) (by have := hb3.size; have e0 : wr.drew.heap.size = wr.heap.size := rfl; simp; omega) hgrow (fun r hr => by have := HVR.out r hr; omega)).setCell (p := ⟨C3, 3, none⟩) (by have := HC3.out; simp only; omega) (.slice (some ⟨gg, 0, none⟩) (i + 1) cap)
              have hs4 : S2 ≤ (w4.setCell ⟨C3, 3, none⟩ (.slice (some ⟨gg, 0, none⟩) (i + 1) cap)).heap.size := by have := hb3.size; have := hgrow.size; have e0 : wr.drew.heap.size = wr.heap.size := rfl; rw [World.size_setCell]; simp at this; omega
              have hsm4 : ∀ q, B + 3 ≤ q → q < S2 → (w4.setCell ⟨C3, 3, none⟩ (.slice (some ⟨gg, 0, none⟩) (i + 1) cap)).heap[q]? = wb.heap[q]? := fun q q1 q2 => by
                rw [Below.heap_setCell w4 ⟨C3, 3, none⟩ _ q (by have := HC3.out; simp only; omega), hgrow.block q (by have := hb3.size; have e0 : wr.drew.heap.size = wr.heap.size := rfl; simp; omega) (fun e => by have := HVR.out q e.symm; omega), Below.heap_alloc w3 _ q (by have := hb3.size; have e0 : wr.drew.heap.size = wr.heap.size := rfl; omega), hb3.block q (by have e0 : wr.drew.heap.size = wr.heap.size := rfl; omega)]
                exact HSM.out q q1 q2
              obtain ⟨W, hW⟩ : ∃ W, w4.setCell ⟨C3, 3, none⟩ (.slice (some ⟨gg, 0, none⟩) (i + 1) cap) = W := ⟨_, rfl⟩
              rw [hW] at hO4 hR4 hX4 hL5 hB4 hs4 hsm4 ⊢
              have HO4 := Lib.hid hO4; clear hO4
              have HR4 := Lib.hid hR4; clear hR4
              have HX4 := Lib.hid hX4; clear hX4
              have HL5 := Lib.hid hL5; clear hL5 hL4
              have HB4 := Lib.hid hB4; clear hB4
              have HSM4 := Lib.hid hsm4; clear hsm4
              clear hW hgrow hown4 hat hN3 hb3
              go_wp2_with fail
              go_roundw
              case rel => exact ⟨i + 1, _, by go_num, by omega, HO4.out, HR4.out, HX4.out, HL5.out, HB4.out, hs4, HSM4.out⟩
              case measure => simp [intOf]; omega
          · obtain rfl : i = cs.length := by omega
            rw [List.take_length] at hLr
            have HO := Lib.hid hOr; clear hOr
            have HR := Lib.hid hRr; clear hRr
            have HX := Lib.hid hXr; clear hXr
            have HL := Lib.hid hLr; clear hLr
            have HBR := Lib.hid hbr; clear hbr
            have HSM := Lib.hid hsm; clear hsm
            go_wp2_with fail
            go_meet
            exact ⟨v, HO.out, HR.out, HX.out, HL.out, HBR.out, hsr, HSM.out⟩
      case rest =>
        obtain ⟨v2, hO, hR, hX, hL, hbB, hsB, hsm⟩ := hcut
        obtain ⟨vd, vd', hve⟩ : ∃ a c, v2 = .slice a cs.length c := by
          obtain ⟨a, c, h, _⟩ := hL.toSl (Nat.le_refl _)
          exact ⟨a, c, h⟩
        subst hve
        have z0 : wc.cell? ⟨C3, 0, none⟩ = some (.int .i64 k) := hO.cell 0
        have z1 : wc.cell? ⟨C3, 1, none⟩ = some (.int .i64 n) := hO.cell 1
        have z2 : wc.cell? ⟨C3, 2, none⟩ = some (.slice va xs.length vc') := hO.cell 2
        have z3 : wc.cell? ⟨C3, 3, none⟩ = some (.slice vd cs.length vd') := hO.cell 3
        have y0 : wc.cell? ⟨B + 1, 0, none⟩ = some (.int .i64 0) := hR.cell 0
        have y1 : wc.cell? ⟨B + 1, 1, none⟩ = some (.int .i64 0) := hR.cell 1
        have y2 : wc.cell? ⟨B + 1, 2, none⟩ = some (.slice none 0 0) := hR.cell 2
        have y3 : wc.cell? ⟨B + 1, 3, none⟩ = some (.slice none 0 0) := hR.cell 3
        have f0 := hR.free 0
        have f1 := hR.free 1
        have f2 := hR.free 2
        have f3 := hR.free 3
        have bR := (((hR.set 0 (.int .i64 k)).set 1 (.int .i64 n)).set 2 (.slice va xs.length vc')).set 3 (.slice vd cs.length vd')
        have hBB : Below B w ((((wc.setCell ⟨B + 1, 0, none⟩ (.int .i64 k)).setCell ⟨B + 1, 1, none⟩ (.int .i64 n)).setCell ⟨B + 1, 2, none⟩ (.slice va xs.length vc')).setCell ⟨B + 1, 3, none⟩ (.slice vd cs.length vd')) := (((hbB.setCell (p := ⟨B + 1, 0, none⟩) (by simp) _).setCell (p := ⟨B + 1, 1, none⟩) (by simp) _).setCell (p := ⟨B + 1, 2, none⟩) (by simp) _).setCell (p := ⟨B + 1, 3, none⟩) (by simp) _
        have hother : ∀ q, B + 3 ≤ q → ((((wc.setCell ⟨B + 1, 0, none⟩ (.int .i64 k)).setCell ⟨B + 1, 1, none⟩ (.int .i64 n)).setCell ⟨B + 1, 2, none⟩ (.slice va xs.length vc')).setCell ⟨B + 1, 3, none⟩ (.slice vd cs.length vd')).heap[q]? = wc.heap[q]? := fun q hq => by
          rw [Below.heap_setCell _ ⟨B + 1, 3, none⟩ _ q (by simp only; omega), Below.heap_setCell _ ⟨B + 1, 2, none⟩ _ q (by simp only; omega), Below.heap_setCell _ ⟨B + 1, 1, none⟩ _ q (by simp only; omega), Below.heap_setCell _ ⟨B + 1, 0, none⟩ _ q (by simp only; omega)]
        have hL2 := hL.keep (w' := ((((wc.setCell ⟨B + 1, 0, none⟩ (.int .i64 k)).setCell ⟨B + 1, 1, none⟩ (.int .i64 n)).setCell ⟨B + 1, 2, none⟩ (.slice va xs.length vc')).setCell ⟨B + 1, 3, none⟩ (.slice vd cs.length vd'))) (fun q h1 h2 => hother q (by omega)) (by simp)
        have hL1 := HL1.out.keep (w' := ((((wc.setCell ⟨B + 1, 0, none⟩ (.int .i64 k)).setCell ⟨B + 1, 1, none⟩ (.int .i64 n)).setCell ⟨B + 1, 2, none⟩ (.slice va xs.length vc')).setCell ⟨B + 1, 3, none⟩ (.slice vd cs.length vd'))) (fun q h1 h2 => (hother q h1).trans (hsm q h1 (by have := HS2.out; omega))) (by have := HS2.out; simp; omega)
        have hLL2 : SlIn (only (rng B ((((wc.setCell ⟨B + 1, 0, none⟩ (.int .i64 k)).setCell ⟨B + 1, 1, none⟩ (.int .i64 n)).setCell ⟨B + 1, 2, none⟩ (.slice va xs.length vc')).setCell ⟨B + 1, 3, none⟩ (.slice vd cs.length vd')).heap.size) ((((wc.setCell ⟨B + 1, 0, none⟩ (.int .i64 k)).setCell ⟨B + 1, 1, none⟩ (.int .i64 n)).setCell ⟨B + 1, 2, none⟩ (.slice va xs.length vc')).setCell ⟨B + 1, 3, none⟩ (.slice vd cs.length vd'))) .C cs (.slice vd cs.length vd') := hL2.toSl (by omega)
        have hLL1 : SlIn (only (rng B ((((wc.setCell ⟨B + 1, 0, none⟩ (.int .i64 k)).setCell ⟨B + 1, 1, none⟩ (.int .i64 n)).setCell ⟨B + 1, 2, none⟩ (.slice va xs.length vc')).setCell ⟨B + 1, 3, none⟩ (.slice vd cs.length vd')).heap.size) ((((wc.setCell ⟨B + 1, 0, none⟩ (.int .i64 k)).setCell ⟨B + 1, 1, none⟩ (.int .i64 n)).setCell ⟨B + 1, 2, none⟩ (.slice va xs.length vc')).setCell ⟨B + 1, 3, none⟩ (.slice vd cs.length vd'))) .E xs (.slice va xs.length vc') := hL1.toSl (by omega)
        obtain ⟨W, hW⟩ : ∃ W, ((((wc.setCell ⟨B + 1, 0, none⟩ (.int .i64 k)).setCell ⟨B + 1, 1, none⟩ (.int .i64 n)).setCell ⟨B + 1, 2, none⟩ (.slice va xs.length vc')).setCell ⟨B + 1, 3, none⟩ (.slice vd cs.length vd')) = W := ⟨_, rfl⟩
        rw [hW] at bR hBB hLL1 hLL2
        have q0 : W.cell? ⟨B + 1, 0, none⟩ = some (.int .i64 k) := bR.cell 0
        have q1 : W.cell? ⟨B + 1, 1, none⟩ = some (.int .i64 n) := bR.cell 1
        have q2 : W.cell? ⟨B + 1, 2, none⟩ = some (.slice va xs.length vc') := bR.cell 2
        have q3 : W.cell? ⟨B + 1, 3, none⟩ = some (.slice vd cs.length vd') := bR.cell 3
        have hfin : NdIn (only (rng w.heap.size W.heap.size) W) (.mk .C k n ⟨#[]⟩ xs cs [] []) [.int .i64 k, .int .i64 n, .slice va xs.length vc', .slice vd cs.length vd'] := by
          rw [HBE.out]
          unfold NdIn
          exact ⟨⟨rfl, rfl, rfl⟩, HK1.out, HN1.out, HSZ.out, _, _, .slice none 0 0, .slice none 0 0, rfl, hLL1, hLL2, sl0 _ .S, sl0 _ .S⟩
        have HFIN := Lib.hid hfin; clear hfin
        have HBB := Lib.hid hBB; clear hBB
        have HWW := Lib.hid hW; clear hW
        clear bR hL2 hL1 hLL1 hLL2 hL hO hR hX hbB hsm hother HX1 HR1 HO1
        go_wp2_with fail
        rw [HWW.out]
        exact bodyPost_ret (v := .agg #[.int .i64 k, .int .i64 n, .slice va xs.length vc', .slice vd cs.length vd']) (by simp [results, Try.results72, go_sem, q0, q1, q2, q3]) rfl ⟨[.int .i64 k, .int .i64 n, .slice va xs.length vc', .slice vd cs.length vd'], rfl, HFIN.out, by rw [HBE.out]; exact HBB.out⟩
end Go.Proofs.Ytpildlaloclanaa

/-
  The document's copies of statements (gnomonref3's copyStmts): proved is that a copy is the same tree, in new blocks.
-/
namespace Go.Proofs.Ytpildlaloclanaa
open Go Go.RowKit

/-- What the first part of a round has left: a struct at p, copies of Then and Else beside it. -/
def Half (w0 : World) (S : Nat) (k : Int) (nm : ByteArray) (ts es : List Nd) (s : Value) (w : World) : Prop :=
  ∃ (p : Nat) (ra : Option Addr) (rc : Nat) (qa : Option Addr) (qc : Nat) (P : Nat → Bool), s = .pointer (some ⟨p, 0, none⟩) ∧ Blk w p #[.int .i64 k, .string nm, .slice none 0 0, .slice none 0 0, .slice ra ts.length rc, .slice qa es.length qc] 67 ∧ S ≤ p ∧ Below S w0 w ∧ (∀ q, P q = true → S ≤ q ∧ q < w.heap.size ∧ q ≠ p) ∧ SlIn (only P w) .S ts (.slice ra ts.length rc) ∧ SlIn (only P w) .S es (.slice qa es.length qc)
theorem half_of {w0 w2 w3 W : World} {S p lo1 lo2 : Nat} {k : Int} {nm : ByteArray} {ts es : List Nd} {ra qa : Option Addr} {rc qc : Nat} (hB : Blk W p #[.int .i64 k, .string nm, .slice none 0 0, .slice none 0 0, .slice ra ts.length rc, .slice qa es.length qc] 67) (hp : S ≤ p) (hb : Below S w0 W) (h1 : S ≤ lo1) (h2 : S ≤ lo2) (hw2 : w2.heap.size ≤ W.heap.size) (hw3 : w3.heap.size ≤ W.heap.size)
    (hk1 : ∀ q, q ≠ p → lo1 ≤ q → q < w2.heap.size → W.heap[q]? = w2.heap[q]?) (hk2 : ∀ q, q ≠ p → lo2 ≤ q → q < w3.heap.size → W.heap[q]? = w3.heap[q]?) (hn1 : p < lo1 ∨ w2.heap.size ≤ p) (hn2 : p < lo2 ∨ w3.heap.size ≤ p)
    (hT : SlIn (only (rng lo1 w2.heap.size) w2) .S ts (.slice ra ts.length rc)) (hE : SlIn (only (rng lo2 w3.heap.size) w3) .S es (.slice qa es.length qc)) : Half w0 S k nm ts es (.pointer (some ⟨p, 0, none⟩)) W := by
  refine ⟨p, ra, rc, qa, qc, fun q => rng lo1 w2.heap.size q || rng lo2 w3.heap.size q, rfl, hB, hp, hb, fun q hq => ?_, hT.keep (only_keeps (fun q hq _ => ?_)), hE.keep (only_keeps (fun q hq _ => ?_))⟩
  · simp only [Bool.or_eq_true] at hq
    rcases hq with hq | hq
    · obtain ⟨a, b⟩ := rng_iff.1 hq
      exact ⟨by omega, by omega, by omega⟩
    · obtain ⟨a, b⟩ := rng_iff.1 hq
      exact ⟨by omega, by omega, by omega⟩
  · obtain ⟨a, b⟩ := rng_iff.1 hq
    exact ⟨by simp [hq], hk1 q (by omega) a b⟩
  · obtain ⟨a, b⟩ := rng_iff.1 hq
    exact ⟨by simp [hq], hk2 q (by omega) a b⟩

theorem below_set {B p : Nat} {w0 w : World} (h : Below B w0 w) (hp : B ≤ p) (o : Nat) (v : Value) : Below B w0 (w.setCell ⟨p, o, none⟩ v) := h.setCell hp v

/-- Six stores into a struct. -/
def set6 (w : World) (p : Nat) (a b c d e f : Value) : World := (((((w.setCell ⟨p, 0, none⟩ a).setCell ⟨p, 1, none⟩ b).setCell ⟨p, 2, none⟩ c).setCell ⟨p, 3, none⟩ d).setCell ⟨p, 4, none⟩ e).setCell ⟨p, 5, none⟩ f
theorem set6_keep (w : World) (p : Nat) (a b c d e f : Value) (q : Nat) (hq : q ≠ p) : (set6 w p a b c d e f).heap[q]? = w.heap[q]? := by
  unfold set6
  rw [Below.heap_setCell _ ⟨p, 5, none⟩ _ q (by simp only; omega), Below.heap_setCell _ ⟨p, 4, none⟩ _ q (by simp only; omega), Below.heap_setCell _ ⟨p, 3, none⟩ _ q (by simp only; omega), Below.heap_setCell _ ⟨p, 2, none⟩ _ q (by simp only; omega), Below.heap_setCell _ ⟨p, 1, none⟩ _ q (by simp only; omega), Below.heap_setCell _ ⟨p, 0, none⟩ _ q (by simp only; omega)]
theorem set6_below {B p : Nat} {w0 w : World} (h : Below B w0 w) (hp : B ≤ p) (a b c d e f : Value) : Below B w0 (set6 w p a b c d e f) := below_set (below_set (below_set (below_set (below_set (below_set h hp 0 a) hp 1 b) hp 2 c) hp 3 d) hp 4 e) hp 5 f
theorem set6_size (w : World) (p : Nat) (a b c d e f : Value) : (set6 w p a b c d e f).heap.size = w.heap.size := by simp [set6]
theorem set6_blk {w : World} {p : Nat} {x0 x1 x2 x3 x4 x5 : Value} {ty : TypeId} (h : Blk w p #[x0, x1, x2, x3, x4, x5] ty) (a b c d e f : Value) : Blk (set6 w p a b c d e f) p #[a, b, c, d, e, f] ty := (((((h.set 0 a).set 1 b).set 2 c).set 3 d).set 4 e).set 5 f
/-- The struct's alloc last. -/
theorem half_last {wo wd w1 w2 : World} {k : Int} {nm : ByteArray} {ts es : List Nd} {ra qa : Option Addr} {rc qc : Nat} (h0 : Below wo.heap.size wo wd) (hs : wd.heap.size = wo.heap.size) (hb1 : Below wd.heap.size wd w1) (hT : SlIn (only (rng wd.heap.size w1.heap.size) w1) .S ts (.slice ra ts.length rc)) (hb2 : Below w1.heap.size w1 w2) (hE : SlIn (only (rng w1.heap.size w2.heap.size) w2) .S es (.slice qa es.length qc)) : Half wo wo.heap.size k nm ts es (.pointer (some ⟨w2.heap.size, 0, none⟩)) (w2.alloc (.cells #[.int .i64 k, .string nm, .slice none 0 0, .slice none 0 0, .slice ra ts.length rc, .slice qa es.length qc] 67)) := by
  have s1 := hb1.size
  have s2 := hb2.size
  have hA := (Below.refl w2.heap.size w2).alloc (Nat.le_refl _) (.cells #[.int .i64 k, .string nm, .slice none 0 0, .slice none 0 0, .slice ra ts.length rc, .slice qa es.length qc] 67)
  exact half_of (Blk.new _ _ _) (by omega) (((h0.trans (hb1.mono (by omega))).trans (hb2.mono (by omega))).alloc (by omega) _) (by omega) (by omega) (by simp; omega) (by simp) (fun q _ _ hq => (hA.block q (by omega)).trans (hb2.block q hq)) (fun q _ _ hq => hA.block q hq) (.inr s2) (.inr (Nat.le_refl _)) hT hE
/-- Between the two copies. -/
theorem half_mid {wo wd w1 wA w2 : World} {k : Int} {nm : ByteArray} {ts es : List Nd} {ra qa : Option Addr} {rc qc : Nat} (h0 : Below wo.heap.size wo wd) (hs : wd.heap.size = wo.heap.size) (hb1 : Below wd.heap.size wd w1) (hT : SlIn (only (rng wd.heap.size w1.heap.size) w1) .S ts (.slice ra ts.length rc)) (hA : wA = w1.alloc (.cells #[.int .i64 0, .string .empty, .slice none 0 0, .slice none 0 0, .slice none 0 0, .slice none 0 0] 67)) (hb2 : Below wA.heap.size wA w2) (hE : SlIn (only (rng wA.heap.size w2.heap.size) w2) .S es (.slice qa es.length qc)) : Half wo wo.heap.size k nm ts es (.pointer (some ⟨w1.heap.size, 0, none⟩)) (set6 w2 w1.heap.size (.int .i64 k) (.string nm) (.slice none 0 0) (.slice none 0 0) (.slice ra ts.length rc) (.slice qa es.length qc)) := by
  have s1 := hb1.size
  have s2 := hb2.size
  have hAA : Below w1.heap.size w1 wA := by rw [hA]; exact (Below.refl w1.heap.size w1).alloc (Nat.le_refl _) _
  have sA : wA.heap.size = w1.heap.size + 1 := by rw [hA, World.size_alloc]
  have hB : Blk w2 w1.heap.size #[.int .i64 0, .string .empty, .slice none 0 0, .slice none 0 0, .slice none 0 0, .slice none 0 0] 67 := by
    have h : Blk wA w1.heap.size #[.int .i64 0, .string .empty, .slice none 0 0, .slice none 0 0, .slice none 0 0, .slice none 0 0] 67 := by rw [hA]; exact Blk.new _ _ _
    exact h.next hb2
  exact half_of (set6_blk hB _ _ _ _ _ _) (by omega) (set6_below ((((h0.trans (hb1.mono (by omega))).trans (hAA.mono (by omega))).trans (hb2.mono (by omega)))) (by omega) _ _ _ _ _ _) (by omega) (by omega) (by rw [set6_size]; omega) (by rw [set6_size]; exact Nat.le_refl _) (fun q hn _ hq => (set6_keep _ _ _ _ _ _ _ _ q hn).trans ((hb2.block q (by omega)).trans (hAA.block q hq))) (fun q hn _ _ => set6_keep _ _ _ _ _ _ _ _ q hn) (.inr (Nat.le_refl _)) (.inl (by omega)) hT hE
/-- First. -/
theorem half_first {wo wA w1 w2 : World} {k : Int} {nm : ByteArray} {ts es : List Nd} {ra qa : Option Addr} {rc qc : Nat} (hA : wA = wo.drew.alloc (.cells #[.int .i64 0, .string .empty, .slice none 0 0, .slice none 0 0, .slice none 0 0, .slice none 0 0] 67)) (hb1 : Below wA.heap.size wA w1) (hT : SlIn (only (rng wA.heap.size w1.heap.size) w1) .S ts (.slice ra ts.length rc)) (hb2 : Below w1.heap.size w1 w2) (hE : SlIn (only (rng w1.heap.size w2.heap.size) w2) .S es (.slice qa es.length qc)) : Half wo wo.heap.size k nm ts es (.pointer (some ⟨wo.heap.size, 0, none⟩)) (set6 w2 wo.heap.size (.int .i64 k) (.string nm) (.slice none 0 0) (.slice none 0 0) (.slice ra ts.length rc) (.slice qa es.length qc)) := by
  have s1 := hb1.size
  have s2 := hb2.size
  have e0 : wo.drew.heap.size = wo.heap.size := rfl
  have hAA : Below wo.heap.size wo wA := by rw [hA]; exact (Below.refl wo.heap.size wo).drew.alloc (Nat.le_refl _) _
  have sA : wA.heap.size = wo.heap.size + 1 := by rw [hA, World.size_alloc, e0]
  have hB : Blk w2 wo.heap.size #[.int .i64 0, .string .empty, .slice none 0 0, .slice none 0 0, .slice none 0 0, .slice none 0 0] 67 := by
    have h : Blk wA wo.heap.size #[.int .i64 0, .string .empty, .slice none 0 0, .slice none 0 0, .slice none 0 0, .slice none 0 0] 67 := by rw [hA]; exact Blk.new wo.drew _ _
    exact (h.next hb1).next hb2
  exact half_of (set6_blk hB _ _ _ _ _ _) (Nat.le_refl _) (set6_below (((hAA.trans (hb1.mono (by omega))).trans (hb2.mono (by omega)))) (Nat.le_refl _) _ _ _ _ _ _) (by omega) (by omega) (by rw [set6_size]; omega) (by rw [set6_size]; exact Nat.le_refl _) (fun q hn _ hq => (set6_keep _ _ _ _ _ _ _ _ q hn).trans (hb2.block q hq)) (fun q hn _ _ => set6_keep _ _ _ _ _ _ _ _ q hn) (.inl (by omega)) (.inl (by omega)) hT hE

theorem own_six (a b c d e f : Value) (h1 : a.oneCell' = true) (h2 : b.oneCell' = true) (h3 : c.oneCell' = true) (h4 : d.oneCell' = true) (h5 : e.oneCell' = true) (h6 : f.oneCell' = true) : ∀ u ∈ ([a, b, c, d, e, f] : List Value), u.oneCell' = true := by
  intro u hu
  simp at hu
  rcases hu with rfl | rfl | rfl | rfl | rfl | rfl <;> assumption

set_option maxRecDepth 100000 in
set_option maxHeartbeats 16000000 in
theorem rcopyS_any (w0 : World) : ∀ (N : Nat) (l : List Nd) (v : Value) (w : World), SizeOf.sizeOf l ≤ N → SmallL l → SlIn w0 .S l v → Below w0.heap.size w0 w → Calls Try.prog 49 #[v] w (RefCopiedL w .S l) := by
  intro N
  induction N with
  | zero =>
    intro l v w hN
    cases l <;> simp at hN
  | succ N ih =>
    intro l v w hN hsm hl hw
    have hllen := hsm.len
    obtain ⟨A, C, rfl, hlC, hcmC, hROW⟩ := hl
    have HROW := Lib.hid hROW; clear hROW
    have HIH := Lib.hid ih; clear ih
    have HSM := Lib.hid hsm; clear hsm
    obtain ⟨B, hBe⟩ : ∃ B, w.heap.size = B := ⟨_, rfl⟩
    have HBE := Lib.hid hBe; clear hBe
    have HHW := Lib.hid hw; clear hw
    go_enter Try.func49, Try.ntmps49
    go_wp2_with fail
    go_loopw [3, 4] (fun y x wr => ∃ (vo : Value) (ii : Nat), vo = y ∧ x = .int .i64 ii ∧ ii ≤ l.length ∧ RL wr B .S (l.take ii) vo ∧ Below B w wr ∧ B ≤ wr.heap.size) (fun _ x _ => l.length - (intOf x).toNat)
    case atStart => exact ⟨.slice none 0 0, 0, rfl, rfl, by omega, by rw [List.take_zero]; exact RL.nil _ _ _, Below.refl _ _, by rw [HBE.out]; exact Nat.le_refl _⟩
    case round =>
      obtain ⟨vo, ii, rfl, rfl, hii, hLo, hbo, hso⟩ := hrel
      obtain ⟨wo, hwo⟩ : ∃ x, x = wr := ⟨_, rfl⟩
      subst hwo
      by_cases hlt : ii < l.length
      · have hbii : (ii : Int) + 1 ≤ 9223372036854775807 := by omega
        have hxl0 : ¬ l.length = 0 := by omega
        obtain ⟨b0, o0, rfl, hrow⟩ := HROW.out.resolve_left hxl0
        have hold0 : Below w0.heap.size w0 wo := HHW.out.trans (hbo.mono (by have := HHW.out.size; have := HBE.out; omega))
        obtain ⟨hty, u0, u1, u2, u3, u4, u5, m0, m1, m2, m3, m4, m5, hnd⟩ := SlIn.item6 rfl hrow ii hlt
        have hsz0 := List.sizeOf_lt_of_mem (List.getElem_mem hlt)
        have hsmx := HSM.out.at (List.getElem_mem hlt)
        have htk : l.take (ii + 1) = l.take ii ++ [l[ii]] := (List.take_append_getElem hlt).symm
        have hll : (l.take ii).length = ii := by rw [List.length_take]; omega
        obtain ⟨X, hX⟩ : ∃ X, l[ii] = X := ⟨_, rfl⟩
        rw [hX] at hnd hty htk hsz0 hsmx
        clear hX hrow
        obtain ⟨ty, k, n, nm, xs, cs, ts, es⟩ := X
        simp only [Nd.ty] at hty
        subst hty
        unfold NdIn at hnd
        obtain ⟨hz, hk1, hn1, hsz, vx, vc, vt, ve, hvs, hxs, hcs, hts, hes⟩ := hnd
        simp only [fits] at hz
        subst hz
        simp only [lay, List.cons.injEq, and_true] at hvs
        obtain ⟨rfl, rfl, rfl, rfl, rfl, rfl⟩ := hvs
        obtain ⟨-, hsx, hsc, hst, hse⟩ := small_S hsmx
        simp only [Nd.mk.sizeOf_spec] at hsz0
        have HT := Lib.hid (fun w1 hb => HIH.out ts _ w1 (by omega) hst hts hb)
        have HE := Lib.hid (fun w1 hb => HIH.out es _ w1 (by omega) hse hes hb)
        have HCOPY1 := Lib.hid (fun i (h : i < cs.length) => rcopyC_any w0 _ cs[i] (Nat.le_refl _) (slIn_ty hcs i h) (hsc.at (List.getElem_mem h)))
        have HCOPY2 := Lib.hid (fun i (h : i < xs.length) => rcopyE_any w0 _ xs[i] (Nat.le_refl _) (slIn_ty hxs i h) (hsx.at (List.getElem_mem h)))
        have hclen := hsc.len
        have hxlen := hsx.len
        obtain ⟨a1, c1, rfl, hlc1, hcm1, hrow1⟩ := hcs
        obtain ⟨a2, c2, rfl, hlc2, hcm2, hrow2⟩ := hxs
        obtain ⟨a3, c3, rfl, -⟩ := hts
        obtain ⟨a4, c4, rfl, -⟩ := hes
        have HROW1 := Lib.hid hrow1; clear hrow1
        have HROW2 := Lib.hid hrow2; clear hrow2
        have HM := Lib.hid (show _ ∧ _ ∧ _ ∧ _ ∧ _ ∧ _ from ⟨m0, m1, m2, m3, m4, m5⟩)
        have HLO := Lib.hid hLo; clear hLo
        have HBO := Lib.hid hbo; clear hbo
        have HTK := Lib.hid htk; clear htk
        have HLL := Lib.hid hll; clear hll
        have HOLD := Lib.hid hold0
        have HNUM := Lib.hid (show i64ok k ∧ nm.size ≤ maxLen from ⟨hk1, hsz⟩)
        clear m0 m1 m2 m3 m4 m5 hsx hsc hst hse hsmx hsz0 hk1 hn1 hsz hold0
        have KS := Lib.hid (fun w' (hW : Below w0.heap.size w0 w') => (⟨keeps_below hW _ _ _ HM.out.1, keeps_below hW _ _ _ HM.out.2.1, keeps_below hW _ _ _ HM.out.2.2.2.2.1, keeps_below hW _ _ _ HM.out.2.2.2.2.2⟩ : w'.cell? ⟨b0, o0 + ii * 6, none⟩ = some (.int .i64 k) ∧ w'.cell? ⟨b0, o0 + ii * 6 + 1, none⟩ = some (.string nm) ∧ w'.cell? ⟨b0, o0 + ii * 6 + 4, none⟩ = some (.slice a3 ts.length c3) ∧ w'.cell? ⟨b0, o0 + ii * 6 + 5, none⟩ = some (.slice a4 es.length c4)))
        have hi1 : (0 : Int) ≤ (ii : Int) := by omega
        have hi2 : (ii : Int) < (l.length : Int) := by omega
        have HP0 : w0.heap.size ≤ wo.heap.size := HOLD.out.size
        go_upto_region 5 with fail
        go_cut [5] (fun s wx => Half wo wo.heap.size k nm ts es s wx)
        case first =>
          go_region_held3 (fun w' => w'.cell? ⟨b0, o0 + ii * 6, none⟩ = some (.int .i64 k) ∧ w'.cell? ⟨b0, o0 + ii * 6 + 1, none⟩ = some (.string nm) ∧ w'.cell? ⟨b0, o0 + ii * 6 + 4, none⟩ = some (.slice a3 ts.length c3) ∧ w'.cell? ⟨b0, o0 + ii * 6 + 5, none⟩ = some (.slice a4 es.length c4))
            ((with_reducible refine KS.out _ ?_; repeat (with_reducible (first | exact HOLD.out | refine below_set ?_ HP0 _ _ | refine below_set ?_ hp1 _ _ | refine below_drew ?_ | refine below_alloc ?_ _ | refine below_next ?_ hb2 | refine below_next ?_ hb1 | fail))))
            (first | (go_at_call_of 49 (Value.slice a3 ts.length c3); (with_reducible refine (HT.out _ (by repeat (with_reducible (first | exact HOLD.out | refine below_drew ?_ | refine below_alloc ?_ _ | fail)))).mono ?_); rintro e w1 ⟨v1, rfl, hL1, hb1⟩; obtain ⟨ra, rc, rfl⟩ : ∃ a c, v1 = .slice a ts.length c := (by obtain ⟨a, c, h, _⟩ := hL1; exact ⟨a, c, h⟩); (first | (have qb1 : Blk w1 wo.heap.size #[.int .i64 0, .string .empty, .slice none 0 0, .slice none 0 0, .slice none 0 0, .slice none 0 0] 67 := (Blk.new wo.drew #[.int .i64 0, .string .empty, .slice none 0 0, .slice none 0 0, .slice none 0 0, .slice none 0 0] 67).next hb1) | (have hp1 : w0.heap.size ≤ w1.heap.size := (below_next (below_drew HOLD.out) hb1).size))) | (go_at_call_of 49 (Value.slice a4 es.length c4); (with_reducible refine (HE.out _ (by repeat (with_reducible (first | exact HOLD.out | refine below_drew ?_ | refine below_alloc ?_ _ | refine below_next ?_ hb1 | fail)))).mono ?_); rintro e w2 ⟨v2, rfl, hL2, hb2⟩; obtain ⟨qa, qc, rfl⟩ : ∃ a c, v2 = .slice a es.length c := (by obtain ⟨a, c, h, _⟩ := hL2; exact ⟨a, c, h⟩); (first | (have qb2 := (Blk.new w1 #[.int .i64 0, .string .empty, .slice none 0 0, .slice none 0 0, .slice none 0 0, .slice none 0 0] 67).next hb2; have f0 := qb2.free 0; have c0 := qb2.cell 0; have f1 := qb2.free 1; have c1 := qb2.cell 1; have f2 := qb2.free 2; have c2 := qb2.cell 2; have f3 := qb2.free 3; have c3 := qb2.cell 3; have f4 := qb2.free 4; have c4 := qb2.cell 4; have f5 := qb2.free 5; have c5 := qb2.cell 5) | (have qb2 := qb1.next hb2; have f0 := qb2.free 0; have c0 := qb2.cell 0; have f1 := qb2.free 1; have c1 := qb2.cell 1; have f2 := qb2.free 2; have c2 := qb2.cell 2; have f3 := qb2.free 3; have c3 := qb2.cell 3; have f4 := qb2.free 4; have c4 := qb2.cell 4; have f5 := qb2.free 5; have c5 := qb2.cell 5) | skip)))
          all_goals
            have DRW : Below wo.heap.size wo wo.drew := (Below.refl _ wo).drew
            first
              | (have HF := half_last (k := k) (nm := nm) (qa := qa) (qc := qc) DRW rfl hb1 hL1 hb2 hL2)
              | (have HF := half_mid (k := k) (nm := nm) (qa := qa) (qc := qc) DRW rfl hb1 hL1 rfl hb2 hL2; unfold set6 at HF)
              | (have HF := half_first (k := k) (nm := nm) (qa := qa) (qc := qc) rfl hb1 hL1 hb2 hL2; unfold set6 at HF)
            have HHF := Lib.hid HF; clear HF
            go_wp2_with fail
            go_meet
            exact HHF.out
        case rest =>
          obtain ⟨p, ra, rc, qa, qc, P0, rfl, hB0, hpS, hbS, hP0, hT0, hE0⟩ := hcut
          obtain ⟨S2, hS2⟩ : ∃ q, wc.heap.size = q := ⟨_, rfl⟩
          obtain ⟨wb, hwb⟩ : ∃ x, x = wc := ⟨_, rfl⟩
          subst hwb
          have hp2 : p < S2 := by have := hB0.lt; omega
          have hoS : wo.heap.size ≤ S2 := by have := hbS.size; omega
          have HO1 := Lib.hid hB0; clear hB0
          have HB1 := Lib.hid hbS; clear hbS
          have HP := Lib.hid hP0; clear hP0
          have HT0 := Lib.hid hT0; clear hT0
          have HE0 := Lib.hid hE0; clear hE0
          have HS := Lib.hid hS2; clear hS2
          have hh3 := keeps_below HOLD.out _ _ _ HM.out.2.2.2.1
          go_upto_block 2 with fail
          go_cut [6] (fun _ wx => ∃ v, Blk wx p #[.int .i64 k, .string nm, .slice none 0 0, v, .slice ra ts.length rc, .slice qa es.length qc] 67 ∧ RL wx S2 .C cs v ∧ Below wo.heap.size wo wx ∧ S2 ≤ wx.heap.size ∧ ∀ q, wo.heap.size ≤ q → q < S2 → q ≠ p → wx.heap[q]? = wb.heap[q]?)
          case first =>
            obtain ⟨i0, hi0, hz0, hz1, hz2⟩ := info_parts info_C
            have HI0 := Lib.hid hi0; clear hi0
            have HZ0 := Lib.hid hz0; clear hz0
            have HZ1 := Lib.hid hz1; clear hz1
            have HZ2 := Lib.hid hz2; clear hz2
            go_wp2_with fail
            go_loopw [6] (fun x wr => ∃ (i : Nat) (v : Value), x = .int .i64 i ∧ i ≤ cs.length ∧ Blk wr p #[.int .i64 k, .string nm, .slice none 0 0, v, .slice ra ts.length rc, .slice qa es.length qc] 67 ∧ RL wr S2 .C (cs.take i) v ∧ Below wo.heap.size wo wr ∧ S2 ≤ wr.heap.size ∧ ∀ q, wo.heap.size ≤ q → q < S2 → q ≠ p → wr.heap[q]? = wb.heap[q]?) (fun x _ => cs.length - (intOf x).toNat)
            case atStart => exact ⟨0, .slice none 0 0, rfl, by omega, HO1.out, by rw [List.take_zero]; exact RL.nil _ _ _, HB1.out, by rw [HS.out]; exact Nat.le_refl _, fun _ _ _ _ => rfl⟩
            case round =>
              obtain ⟨i, v, rfl, hi, hOr, hLr, hbr, hsr, hsm⟩ := hrel
              have hold : Below w0.heap.size w0 wr := HOLD.out.trans (hbr.mono HOLD.out.size)
              have e3 : wr.cell? ⟨b0, o0 + ii * 6 + 3, none⟩ = some (.slice a1 cs.length c1) := keeps_below hold _ _ _ HM.out.2.2.2.1
              by_cases hlt : i < cs.length
              · have hbi : (i : Int) + 1 ≤ 9223372036854775807 := by omega
                have hxl : ¬ cs.length = 0 := by omega
                obtain ⟨b, o, rfl, hrow⟩ := HROW1.out.resolve_left hxl
                obtain ⟨hty, u0, u1, u2, u3, m0, m1, m2, m3, hnd⟩ := SlIn.item4 rfl hrow i hlt
                obtain ⟨fk, fn, fa, fl, fc, fa2, fl2, fc2, rfl, rfl, rfl, rfl⟩ := NdIn.formC hty hnd
                have hcp := fun w1 (hb : Below w0.heap.size w0 w1) => HCOPY1.out i hlt _ w1 hnd hb
                have htk : cs.take (i + 1) = cs.take i ++ [cs[i]] := (List.take_append_getElem hlt).symm
                have hll : (cs.take i).length = i := by rw [List.length_take]; omega
                obtain ⟨X, hX⟩ : ∃ X, cs[i] = X := ⟨_, rfl⟩
                rw [hX] at hcp htk hty
                have hkx := keeps_below hold
                obtain ⟨P, vss, hRx⟩ := hLr
                have hown0 : wr.drew.ownsRow S2 45 4 v i vss.flatten := by have := hRx.2.1; rw [hll] at this; exact this
                have hvr : ∀ g, v.ownBlock = some g → S2 ≤ g := fun g hg => (hRx.2.1.lt g hg).1
                have HNB := Lib.hid (show v.ownBlock ≠ some p from fun e => by have := hvr _ e; omega)
                have HOWN := Lib.hid hown0; clear hown0
                have k0 := hkx _ _ _ m0
                have k1 := hkx _ _ _ m1
                have k2 := hkx _ _ _ m2
                have k3 := hkx _ _ _ m3
                have ov : wr.cell? ⟨p, 3, none⟩ = some v := hOr.cell 3
                have HVR := Lib.hid hvr; clear hvr
                have HRX := Lib.hid hRx; clear hRx
                have HCP := Lib.hid hcp; clear hcp
                have HTK2 := Lib.hid htk; clear htk
                have HLL2 := Lib.hid hll; clear hll
                have HTY := Lib.hid hty; clear hty
                have HSM := Lib.hid hsm; clear hsm
                have HO := Lib.hid hOr; clear hOr
                have HBR := Lib.hid hbr; clear hbr
                have HOLDR := Lib.hid hold; clear hold
                clear m0 m1 m2 m3 hnd hX hkx hrow
                go_upto_region 9 with fail
                go_region_law
                  (first | (refine step_append_lies _ (by rfl) _ _ _ (by rfl) S2 45 i0 _ 4 64 Try.underlying43 HI0.out HZ0.out HZ1.out HZ2.out rfl (by omega) v i vss.flatten (by rfl) ((own_kept HOWN.out (fun q q1 q2 => hb3.block q q2)).alloc _) ⟨w3.heap.size, 0, none⟩ 1 1 [.int .i64 gk, .int .i64 gn, .slice ga gl gc, .slice ga2 gl2 gc2] (by rfl) (by rfl) (World.news_of_block (cs := #[.int .i64 gk, .int .i64 gn, .slice ga gl gc, .slice ga2 gl2 gc2]) (t := 45) (fr := (0, 0)) (heap_alloc_new w3 _)) (own_four _ _ _ _ rfl rfl rfl rfl) (by omega) (by unfold maxLen; omega) (by omega) (by have := hb3.size; simp at this ⊢; omega) (w3.heap.size + 1) (by simp) ?_; intro gg cap w4 hown4 hgrow hat hlt4; have q4 := (blk_grown (((show Blk wr.drew p _ _ from HO.out).next hb3).alloc _) hgrow HNB.out).cell 3; have q5 := (blk_grown (((show Blk wr.drew p _ _ from HO.out).next hb3).alloc _) hgrow HNB.out).free 3) | (go_simp; go_at_call 72; (with_reducible refine (HCP.out _ HOLDR.out.drew).mono ?_); rintro e w3 ⟨vs', rfl, hN3, hb3⟩; obtain ⟨p0, p1, p2, p3, rfl⟩ := len4 (hN3.len.trans (by rw [HTY.out]; rfl)); obtain ⟨gk, gn, ga, gl, gc, ga2, gl2, gc2, rfl, rfl, rfl, rfl⟩ := NdIn.formC HTY.out hN3; have q1 : w3.cell? ⟨p, 3, none⟩ = some v := ((show Blk wr.drew p _ _ from HO.out).next hb3).cell 3; have q2 : (w3.alloc (.cells #[.int .i64 gk, .int .i64 gn, .slice ga gl gc, .slice ga2 gl2 gc2] 45)).cell? ⟨p, 3, none⟩ = some v := (((show Blk wr.drew p _ _ from HO.out).next hb3).alloc _).cell 3; have q3 : p < w3.heap.size := ((show Blk wr.drew p _ _ from HO.out).next hb3).lt))
                all_goals
                  have hO4 := (blk_grown (((show Blk wr.drew p _ _ from HO.out).next hb3).alloc (.cells #[.int .i64 gk, .int .i64 gn, .slice ga gl gc, .slice ga2 gl2 gc2] 45)) hgrow HNB.out).set 3 (.slice (some ⟨gg, 0, none⟩) (i + 1) cap)
                  have hL4 := RL.snoc (w := wr.drew) (o := .cells #[.int .i64 gk, .int .i64 gn, .slice ga gl gc, .slice ga2 gl2 gc2] 45) HRX.out.drew HTY.out (show S2 ≤ wr.drew.heap.size from (by show S2 ≤ wr.heap.size; omega)) (Nat.le_refl _) (fun q _ q2 => hb3.block q q2) hb3.size hN3 (gg := gg) (cap := cap) (w4 := w4) (by rw [HLL2.out]; exact hown4) hgrow (by rw [World.size_alloc]; exact hat)
                  rw [HLL2.out, ← HTK2.out] at hL4
                  have hL5 := hL4.keep (w' := (w4.setCell ⟨p, 3, none⟩ (.slice (some ⟨gg, 0, none⟩) (i + 1) cap))) (fun q q1 _ => Below.heap_setCell w4 ⟨p, 3, none⟩ _ q (by simp only; omega)) (by simp)
                  have hB4 := (below_grown ((((HBR.out).drew.trans (hb3.mono (show wo.heap.size ≤ wr.drew.heap.size by show wo.heap.size ≤ wr.heap.size; omega))).alloc (by have := hb3.size; have e0 : wr.drew.heap.size = wr.heap.size := rfl; omega) (.cells #[.int .i64 gk, .int .i64 gn, .slice ga gl gc, .slice ga2 gl2 gc2] 45))) (by have := hb3.size; have e0 : wr.drew.heap.size = wr.heap.size := rfl; simp; omega) hgrow (fun r hr => by have := HVR.out r hr; omega)).setCell (p := ⟨p, 3, none⟩) (by simp only; omega) (.slice (some ⟨gg, 0, none⟩) (i + 1) cap)
                  have hs4 : S2 ≤ (w4.setCell ⟨p, 3, none⟩ (.slice (some ⟨gg, 0, none⟩) (i + 1) cap)).heap.size := by have := hb3.size; have := hgrow.size; have e0 : wr.drew.heap.size = wr.heap.size := rfl; rw [World.size_setCell]; simp at this; omega
                  have hsm4 : ∀ q, wo.heap.size ≤ q → q < S2 → q ≠ p → (w4.setCell ⟨p, 3, none⟩ (.slice (some ⟨gg, 0, none⟩) (i + 1) cap)).heap[q]? = wb.heap[q]? := fun q q1 q2 q3 => by
                    rw [Below.heap_setCell w4 ⟨p, 3, none⟩ _ q (by simp only; omega), hgrow.block q (by have := hb3.size; have e0 : wr.drew.heap.size = wr.heap.size := rfl; simp; omega) (fun e => by have := HVR.out q e.symm; omega), Below.heap_alloc w3 _ q (by have := hb3.size; have e0 : wr.drew.heap.size = wr.heap.size := rfl; omega), hb3.block q (by have e0 : wr.drew.heap.size = wr.heap.size := rfl; omega)]
                    exact HSM.out q q1 q2 q3
                  obtain ⟨W, hW⟩ : ∃ W, w4.setCell ⟨p, 3, none⟩ (.slice (some ⟨gg, 0, none⟩) (i + 1) cap) = W := ⟨_, rfl⟩
                  rw [hW] at hO4 hL5 hB4 hs4 hsm4 ⊢
                  have HO4 := Lib.hid hO4; clear hO4
                  have HL5 := Lib.hid hL5; clear hL5 hL4
                  have HB4 := Lib.hid hB4; clear hB4
                  have HSM4 := Lib.hid hsm4; clear hsm4
                  clear hW hgrow hown4 hat hN3 hb3
                  go_wp2_with fail
                  go_roundw
                  case rel => exact ⟨i + 1, _, by go_num, by omega, HO4.out, HL5.out, HB4.out, hs4, HSM4.out⟩
                  case measure => simp [intOf]; omega
              · obtain rfl : i = cs.length := by omega
                rw [List.take_length] at hLr
                have HSM := Lib.hid hsm; clear hsm
                have HO := Lib.hid hOr; clear hOr
                have HL := Lib.hid hLr; clear hLr
                have HBR := Lib.hid hbr; clear hbr
                go_wp2_with fail
                go_meet
                exact ⟨v, HO.out, HL.out, HBR.out, hsr, HSM.out⟩
          case rest =>
            obtain ⟨v1, hO, hL, hbB, hsB, hsm⟩ := hcut
            obtain ⟨va, vc, hve⟩ : ∃ a c, v1 = .slice a cs.length c := by
              obtain ⟨a, c, h, _⟩ := hL.toSl (Nat.le_refl _)
              exact ⟨a, c, h⟩
            subst hve
            have HS2 := Lib.hid HS.out; clear HS
            obtain ⟨S3, hS3⟩ : ∃ q, wc.heap.size = q := ⟨_, rfl⟩
            obtain ⟨wc2, hwb2⟩ : ∃ x, x = wc := ⟨_, rfl⟩
            subst hwb2
            have h23 : S2 ≤ S3 := by omega
            have hp3 : p < S3 := by omega
            have hoS3 : wo.heap.size ≤ S3 := by omega
            clear HO1 HB1
            have HO1 := Lib.hid hO; clear hO
            have HL1 := Lib.hid hL; clear hL
            have HB1 := Lib.hid hbB; clear hbB
            have HSM1 := Lib.hid hsm; clear hsm
            have HS := Lib.hid hS3; clear hS3 hsB
            go_upto_block 4 with fail
            go_cut [7] (fun _ wx => ∃ v, Blk wx p #[.int .i64 k, .string nm, v, .slice va cs.length vc, .slice ra ts.length rc, .slice qa es.length qc] 67 ∧ RL wx S3 .E xs v ∧ Below wo.heap.size wo wx ∧ S3 ≤ wx.heap.size ∧ ∀ q, wo.heap.size ≤ q → q < S3 → q ≠ p → wx.heap[q]? = wc2.heap[q]?)
            case first =>
              obtain ⟨i0, hi0, hz0, hz1, hz2⟩ := info_parts info_E
              have HI0 := Lib.hid hi0; clear hi0
              have HZ0 := Lib.hid hz0; clear hz0
              have HZ1 := Lib.hid hz1; clear hz1
              have HZ2 := Lib.hid hz2; clear hz2
              go_wp2_with fail
              go_loopw [7] (fun x wr => ∃ (i : Nat) (v : Value), x = .int .i64 i ∧ i ≤ xs.length ∧ Blk wr p #[.int .i64 k, .string nm, v, .slice va cs.length vc, .slice ra ts.length rc, .slice qa es.length qc] 67 ∧ RL wr S3 .E (xs.take i) v ∧ Below wo.heap.size wo wr ∧ S3 ≤ wr.heap.size ∧ ∀ q, wo.heap.size ≤ q → q < S3 → q ≠ p → wr.heap[q]? = wc2.heap[q]?) (fun x _ => xs.length - (intOf x).toNat)
              case atStart => exact ⟨0, .slice none 0 0, rfl, by omega, HO1.out, by rw [List.take_zero]; exact RL.nil _ _ _, HB1.out, by rw [HS.out]; exact Nat.le_refl _, fun _ _ _ _ => rfl⟩
              case round =>
                obtain ⟨i, v, rfl, hi, hOr, hLr, hbr, hsr, hsm⟩ := hrel
                have hold : Below w0.heap.size w0 wr := HOLD.out.trans (hbr.mono HOLD.out.size)
                have e3 : wr.cell? ⟨b0, o0 + ii * 6 + 2, none⟩ = some (.slice a2 xs.length c2) := keeps_below hold _ _ _ HM.out.2.2.1
                by_cases hlt : i < xs.length
                · have hbi : (i : Int) + 1 ≤ 9223372036854775807 := by omega
                  have hxl : ¬ xs.length = 0 := by omega
                  obtain ⟨b, o, rfl, hrow⟩ := HROW2.out.resolve_left hxl
                  obtain ⟨hty, u0, u1, u2, u3, m0, m1, m2, m3, hnd⟩ := SlIn.item4 rfl hrow i hlt
                  obtain ⟨fk, fn, fs, fa, fl, fc, rfl, rfl, rfl, rfl⟩ := NdIn.formE hty hnd
                  have hcp := fun w1 (hb : Below w0.heap.size w0 w1) => HCOPY2.out i hlt _ w1 hnd hb
                  have htk : xs.take (i + 1) = xs.take i ++ [xs[i]] := (List.take_append_getElem hlt).symm
                  have hll : (xs.take i).length = i := by rw [List.length_take]; omega
                  obtain ⟨X, hX⟩ : ∃ X, xs[i] = X := ⟨_, rfl⟩
                  rw [hX] at hcp htk hty
                  have hkx := keeps_below hold
                  obtain ⟨P, vss, hRx⟩ := hLr
                  have hown0 : wr.drew.ownsRow S3 42 4 v i vss.flatten := by have := hRx.2.1; rw [hll] at this; exact this
                  have hvr : ∀ g, v.ownBlock = some g → S3 ≤ g := fun g hg => (hRx.2.1.lt g hg).1
                  have HNB := Lib.hid (show v.ownBlock ≠ some p from fun e => by have := hvr _ e; omega)
                  have HOWN := Lib.hid hown0; clear hown0
                  have k0 := hkx _ _ _ m0
                  have k1 := hkx _ _ _ m1
                  have k2 := hkx _ _ _ m2
                  have k3 := hkx _ _ _ m3
                  have ov : wr.cell? ⟨p, 2, none⟩ = some v := hOr.cell 2
                  have HVR := Lib.hid hvr; clear hvr
                  have HRX := Lib.hid hRx; clear hRx
                  have HCP := Lib.hid hcp; clear hcp
                  have HTK2 := Lib.hid htk; clear htk
                  have HLL2 := Lib.hid hll; clear hll
                  have HTY := Lib.hid hty; clear hty
                  have HSM := Lib.hid hsm; clear hsm
                  have HO := Lib.hid hOr; clear hOr
                  have HBR := Lib.hid hbr; clear hbr
                  have HOLDR := Lib.hid hold; clear hold
                  clear m0 m1 m2 m3 hnd hX hkx hrow
                  go_upto_region 13 with fail
                  go_region_law
                    (first | (refine step_append_lies _ (by rfl) _ _ _ (by rfl) S3 42 i0 _ 4 56 Try.underlying40 HI0.out HZ0.out HZ1.out HZ2.out rfl (by omega) v i vss.flatten (by rfl) ((own_kept HOWN.out (fun q q1 q2 => hb3.block q q2)).alloc _) ⟨w3.heap.size, 0, none⟩ 1 1 [.int .i64 gk, .int .i64 gn, .string gs, .slice ga gl gc] (by rfl) (by rfl) (World.news_of_block (cs := #[.int .i64 gk, .int .i64 gn, .string gs, .slice ga gl gc]) (t := 42) (fr := (0, 0)) (heap_alloc_new w3 _)) (own_four _ _ _ _ rfl rfl rfl rfl) (by omega) (by unfold maxLen; omega) (by omega) (by have := hb3.size; simp at this ⊢; omega) (w3.heap.size + 1) (by simp) ?_; intro gg cap w4 hown4 hgrow hat hlt4; have q4 := (blk_grown (((show Blk wr.drew p _ _ from HO.out).next hb3).alloc _) hgrow HNB.out).cell 2; have q5 := (blk_grown (((show Blk wr.drew p _ _ from HO.out).next hb3).alloc _) hgrow HNB.out).free 2) | (go_simp; go_at_call 73; (with_reducible refine (HCP.out _ HOLDR.out.drew).mono ?_); rintro e w3 ⟨vs', rfl, hN3, hb3⟩; obtain ⟨p0, p1, p2, p3, rfl⟩ := len4 (hN3.len.trans (by rw [HTY.out]; rfl)); obtain ⟨gk, gn, gs, ga, gl, gc, rfl, rfl, rfl, rfl⟩ := NdIn.formE HTY.out hN3; have q1 : w3.cell? ⟨p, 2, none⟩ = some v := ((show Blk wr.drew p _ _ from HO.out).next hb3).cell 2; have q2 : (w3.alloc (.cells #[.int .i64 gk, .int .i64 gn, .string gs, .slice ga gl gc] 42)).cell? ⟨p, 2, none⟩ = some v := (((show Blk wr.drew p _ _ from HO.out).next hb3).alloc _).cell 2; have q3 : p < w3.heap.size := ((show Blk wr.drew p _ _ from HO.out).next hb3).lt))
                  all_goals
                    have hO4 := (blk_grown (((show Blk wr.drew p _ _ from HO.out).next hb3).alloc (.cells #[.int .i64 gk, .int .i64 gn, .string gs, .slice ga gl gc] 42)) hgrow HNB.out).set 2 (.slice (some ⟨gg, 0, none⟩) (i + 1) cap)
                    have hL4 := RL.snoc (w := wr.drew) (o := .cells #[.int .i64 gk, .int .i64 gn, .string gs, .slice ga gl gc] 42) HRX.out.drew HTY.out (show S3 ≤ wr.drew.heap.size from (by show S3 ≤ wr.heap.size; omega)) (Nat.le_refl _) (fun q _ q2 => hb3.block q q2) hb3.size hN3 (gg := gg) (cap := cap) (w4 := w4) (by rw [HLL2.out]; exact hown4) hgrow (by rw [World.size_alloc]; exact hat)
                    rw [HLL2.out, ← HTK2.out] at hL4
                    have hL5 := hL4.keep (w' := (w4.setCell ⟨p, 2, none⟩ (.slice (some ⟨gg, 0, none⟩) (i + 1) cap))) (fun q q1 _ => Below.heap_setCell w4 ⟨p, 2, none⟩ _ q (by simp only; omega)) (by simp)
                    have hB4 := (below_grown ((((HBR.out).drew.trans (hb3.mono (show wo.heap.size ≤ wr.drew.heap.size by show wo.heap.size ≤ wr.heap.size; omega))).alloc (by have := hb3.size; have e0 : wr.drew.heap.size = wr.heap.size := rfl; omega) (.cells #[.int .i64 gk, .int .i64 gn, .string gs, .slice ga gl gc] 42))) (by have := hb3.size; have e0 : wr.drew.heap.size = wr.heap.size := rfl; simp; omega) hgrow (fun r hr => by have := HVR.out r hr; omega)).setCell (p := ⟨p, 2, none⟩) (by simp only; omega) (.slice (some ⟨gg, 0, none⟩) (i + 1) cap)
                    have hs4 : S3 ≤ (w4.setCell ⟨p, 2, none⟩ (.slice (some ⟨gg, 0, none⟩) (i + 1) cap)).heap.size := by have := hb3.size; have := hgrow.size; have e0 : wr.drew.heap.size = wr.heap.size := rfl; rw [World.size_setCell]; simp at this; omega
                    have hsm4 : ∀ q, wo.heap.size ≤ q → q < S3 → q ≠ p → (w4.setCell ⟨p, 2, none⟩ (.slice (some ⟨gg, 0, none⟩) (i + 1) cap)).heap[q]? = wc2.heap[q]? := fun q q1 q2 q3 => by
                      rw [Below.heap_setCell w4 ⟨p, 2, none⟩ _ q (by simp only; omega), hgrow.block q (by have := hb3.size; have e0 : wr.drew.heap.size = wr.heap.size := rfl; simp; omega) (fun e => by have := HVR.out q e.symm; omega), Below.heap_alloc w3 _ q (by have := hb3.size; have e0 : wr.drew.heap.size = wr.heap.size := rfl; omega), hb3.block q (by have e0 : wr.drew.heap.size = wr.heap.size := rfl; omega)]
                      exact HSM.out q q1 q2 q3
                    obtain ⟨W, hW⟩ : ∃ W, w4.setCell ⟨p, 2, none⟩ (.slice (some ⟨gg, 0, none⟩) (i + 1) cap) = W := ⟨_, rfl⟩
                    rw [hW] at hO4 hL5 hB4 hs4 hsm4 ⊢
                    have HO4 := Lib.hid hO4; clear hO4
                    have HL5 := Lib.hid hL5; clear hL5 hL4
                    have HB4 := Lib.hid hB4; clear hB4
                    have HSM4 := Lib.hid hsm4; clear hsm4
                    clear hW hgrow hown4 hat hN3 hb3
                    go_wp2_with fail
                    go_roundw
                    case rel => exact ⟨i + 1, _, by go_num, by omega, HO4.out, HL5.out, HB4.out, hs4, HSM4.out⟩
                    case measure => simp [intOf]; omega
                · obtain rfl : i = xs.length := by omega
                  rw [List.take_length] at hLr
                  have HSM := Lib.hid hsm; clear hsm
                  have HO := Lib.hid hOr; clear hOr
                  have HL := Lib.hid hLr; clear hLr
                  have HBR := Lib.hid hbr; clear hbr
                  go_wp2_with fail
                  go_meet
                  exact ⟨v, HO.out, HL.out, HBR.out, hsr, HSM.out⟩
            case rest =>
              obtain ⟨v2, hO, hL, hbB, hsB, hsm⟩ := hcut
              obtain ⟨xa, xc, hve2⟩ : ∃ a c, v2 = .slice a xs.length c := by
                obtain ⟨a, c, h, _⟩ := hL.toSl (Nat.le_refl _)
                exact ⟨a, c, h⟩
              subst hve2
              have hS3e := HS.out
              have hS2e := HS2.out
              have hkC : ∀ q, wo.heap.size ≤ q → q < S3 → q ≠ p → wc.heap[q]? = wc2.heap[q]? := hsm
              have hN : NdIn (only (rng wo.heap.size wc.heap.size) wc) (.mk .S k 0 nm xs cs ts es) [.int .i64 k, .string nm, .slice xa xs.length xc, .slice va cs.length vc, .slice ra ts.length rc, .slice qa es.length qc] := by
                unfold NdIn
                refine ⟨by simp [fits], HNUM.out.1, by unfold i64ok; rfl, HNUM.out.2, _, _, _, _, rfl, hL.toSl (by omega), ?_, ?_, ?_⟩
                · exact SlIn.keep (ty := .C) (l := cs) (HL1.out.toSl (Nat.le_refl S2)) (only_keeps (fun q hq _ => by obtain ⟨a, b⟩ := rng_iff.1 hq; exact ⟨rng_iff.2 ⟨by omega, by omega⟩, hkC q (by omega) (by omega) (by omega)⟩))
                · exact SlIn.keep (ty := .S) (l := ts) HT0.out (only_keeps (fun q hq _ => by obtain ⟨a, b, c⟩ := HP.out q hq; exact ⟨rng_iff.2 ⟨by omega, by omega⟩, (hkC q (by omega) (by omega) c).trans (HSM1.out q (by omega) (by omega) c)⟩))
                · exact SlIn.keep (ty := .S) (l := es) HE0.out (only_keeps (fun q hq _ => by obtain ⟨a, b, c⟩ := HP.out q hq; exact ⟨rng_iff.2 ⟨by omega, by omega⟩, (hkC q (by omega) (by omega) c).trans (HSM1.out q (by omega) (by omega) c)⟩))
              have HN := Lib.hid hN; clear hN
              have z0 := hO.cell 0
              have z1 := hO.cell 1
              have z2 := hO.cell 2
              have z3 := hO.cell 3
              have z4 := hO.cell 4
              have z5 := hO.cell 5
              simp only [List.getElem?_toArray] at z0 z1 z2 z3 z4 z5
              obtain ⟨PO, vssO, hRO⟩ := HLO.out
              have hvr : ∀ g, vo.ownBlock = some g → B ≤ g := fun g hg => (hRO.2.1.lt g hg).1
              have hown0 : wc.ownsRow B 67 6 vo ii vssO.flatten := own_kept (by have := hRO.2.1; rw [HLL.out] at this; exact this) (fun q _ q2 => hbB.block q q2)
              have HOWN := Lib.hid hown0; clear hown0
              have HVR := Lib.hid hvr; clear hvr
              have HRO := Lib.hid hRO; clear hRO
              have HBB := Lib.hid hbB; clear hbB
              have HNW := Lib.hid (World.news_of_block (cs := #[.int .i64 k, .string nm, .slice xa xs.length xc, .slice va cs.length vc, .slice ra ts.length rc, .slice qa es.length qc]) (t := 67) (fr := (0, 0)) (heap_alloc_new wc (.cells #[.int .i64 k, .string nm, .slice xa xs.length xc, .slice va cs.length vc, .slice ra ts.length rc, .slice qa es.length qc] 67)))
              have HSZ := Lib.hid (show B ≤ (wc.alloc (.cells #[.int .i64 k, .string nm, .slice xa xs.length xc, .slice va cs.length vc, .slice ra ts.length rc, .slice qa es.length qc] 67)).heap.size by rw [World.size_alloc]; omega)
              have hl1 : ii + 1 ≤ maxLen := by unfold maxLen; omega
              obtain ⟨i0, hi0, hz0, hz1, hz2⟩ := info_parts info_S
              have HI0 := Lib.hid hi0; clear hi0
              have HZ0 := Lib.hid hz0; clear hz0
              have HZ1 := Lib.hid hz1; clear hz1
              have HZ2 := Lib.hid hz2; clear hz2
              clear hO hL hsm hkC HO1 HL1 HB1 HSM1 HT0 HE0 HP
              go_wp2_with (first | (at_builtin; (with_reducible refine wpList_append_lies _ rfl (.tmp 85) (.tmp 87) 23 rfl B 67 i0 _ 6 120 Try.underlying23 HI0.out HZ0.out HZ1.out HZ2.out rfl (by omega) vo ii vssO.flatten rfl (HOWN.out.alloc _) ⟨_, 0, none⟩ 1 1 [.int .i64 k, .string nm, .slice xa xs.length xc, .slice va cs.length vc, .slice ra ts.length rc, .slice qa es.length qc] rfl rfl HNW.out (own_six _ _ _ _ _ _ rfl rfl rfl rfl rfl rfl) (by omega) hl1 (by omega) HSZ.out _ rfl ?_); (intro gg cap w4 hown4 hgrow hat hlt4)) | fail)
              have hL4 := RL.snoc (w := wo) (w3 := wc) (o := .cells #[.int .i64 k, .string nm, .slice xa xs.length xc, .slice va cs.length vc, .slice ra ts.length rc, .slice qa es.length qc] 67) HRO.out rfl hso (Nat.le_refl _) (fun q _ q2 => HBB.out.block q q2) HBB.out.size HN.out (gg := gg) (cap := cap) (w4 := w4) (by rw [HLL.out]; exact hown4) hgrow hat
              rw [HLL.out, ← HTK.out] at hL4
              have hB4 := below_grown (((HBO.out).trans (HBB.out.mono hso)).alloc (by omega) (.cells #[.int .i64 k, .string nm, .slice xa xs.length xc, .slice va cs.length vc, .slice ra ts.length rc, .slice qa es.length qc] 67)) (by simp; omega) hgrow (fun r hr => HVR.out r hr)
              have hs4 : B ≤ w4.heap.size := by have := hgrow.size; simp at this; omega
              have HL4 := Lib.hid hL4; clear hL4
              have HB4 := Lib.hid hB4; clear hB4
              clear hgrow hat hown4
              go_roundw
              case rel => exact ⟨_, ii + 1, rfl, by go_num, by omega, HL4.out, HB4.out, hs4⟩
              case measure => simp [intOf]; omega
      · obtain rfl : ii = l.length := by omega
        rw [List.take_length] at hLo
        have hfin := hLo.toSl (Nat.le_refl B)
        have HFIN := Lib.hid hfin; clear hfin hLo
        have HBO := Lib.hid hbo; clear hbo
        go_wp2_with fail
        go_ret
        exact ⟨vo, rfl, by rw [HBE.out]; exact HFIN.out, by rw [HBE.out]; exact HBO.out⟩
end Go.Proofs.Ytpildlaloclanaa

/-
  The document's copy of a program (gnomonref3's Copy): proved is that a copy is the same program, in new blocks.
-/
namespace Go.Proofs.Ytpildlaloclanaa
open Go Go.RowKit

/-- A declaration is told by its two cells, whatever the world. -/
theorem nd_any {w w' : World} {x : Nd} {vs : List Value} (hty : x.ty = .D) (h : NdIn w x vs) : NdIn w' x vs := by
  obtain ⟨ty, k, n, nm, xs, cs, ts, es⟩ := x
  simp only [Nd.ty] at hty
  subst hty
  unfold NdIn at h ⊢
  obtain ⟨hz, h1, h2, h3, vx, vc, vt, ve, h4, -⟩ := h
  obtain ⟨rfl, rfl, rfl, rfl, rfl⟩ := hz
  have hn : SlOf 0 (fun _ _ => True) (.slice none 0 0) := ⟨none, 0, rfl, Nat.le_refl _, Nat.zero_le _, .inl rfl⟩
  exact ⟨⟨rfl, rfl, rfl, rfl, rfl⟩, h1, h2, h3, .slice none 0 0, .slice none 0 0, .slice none 0 0, .slice none 0 0, h4, ⟨none, 0, rfl, Nat.le_refl _, Nat.zero_le _, .inl rfl⟩, ⟨none, 0, rfl, Nat.le_refl _, Nat.zero_le _, .inl rfl⟩, ⟨none, 0, rfl, Nat.le_refl _, Nat.zero_le _, .inl rfl⟩, ⟨none, 0, rfl, Nat.le_refl _, Nat.zero_le _, .inl rfl⟩⟩
theorem nd_two {w : World} {x : Nd} {vs : List Value} (hty : x.ty = .D) (h : NdIn w x vs) : ∃ (nm : ByteArray) (n : Int), vs = [.string nm, .int .i64 n] := by
  obtain ⟨ty, k, n, nm, xs, cs, ts, es⟩ := x
  simp only [Nd.ty] at hty
  subst hty
  unfold NdIn at h
  obtain ⟨hz, h1, h2, h3, vx, vc, vt, ve, h4, -⟩ := h
  exact ⟨nm, n, h4⟩
/-- A row of declarations, as the list of its cells. -/
theorem row_cells {w : World} : ∀ (l : List Nd) (b o : Nat), RowIn w .D l b o → ∃ vss : List (List Value), l.length = vss.length ∧ (∀ (i : Nat) (h : i < l.length) (h' : i < vss.length), (l[i]).ty = .D ∧ NdIn w l[i] vss[i]) ∧ (∀ j u, vss.flatten[j]? = some u → w.cell? ⟨b, o + j, none⟩ = some u) ∧ vss.flatten.length = l.length * 2 ∧ ∀ u ∈ vss.flatten, u.oneCell' = true
  | [], _, _, _ => ⟨[], rfl, fun i h => by simp at h, fun j u h => by simp at h, rfl, fun u h => by simp at h⟩
  | x :: r, b, o, h => by
    unfold RowIn at h
    obtain ⟨⟨h1, vs, h2, h3⟩, h4⟩ := h
    obtain ⟨vss, k1, k2, k3, k4, k5⟩ := row_cells r b (o + Ty.size .D) h4
    obtain ⟨nm, n, rfl⟩ := nd_two h1 h3
    refine ⟨[.string nm, .int .i64 n] :: vss, by simp [k1], ?_, ?_, by simp [k4]; omega, ?_⟩
    · intro i hi hi'
      cases i with
      | zero => exact ⟨h1, h3⟩
      | succ i => exact k2 i (by simpa using hi) (by simpa using hi')
    · intro j u hj
      simp only [List.flatten_cons] at hj
      match j with
      | 0 => exact h2 0 u (by simpa using hj)
      | 1 => exact h2 1 u (by simpa using hj)
      | j + 2 =>
        have := k3 j u (by simpa [List.getElem?_append] using hj)
        simp only [Ty.size] at this
        rw [show o + (j + 2) = o + 2 + j from by omega]
        exact this
    · intro u hu
      simp only [List.flatten_cons, List.mem_append, List.mem_cons, List.not_mem_nil, or_false] at hu
      rcases hu with (rfl | rfl) | hu
      · rfl
      · rfl
      · exact k5 u hu
/-- A row of declarations of one's own is a list of declarations. -/
theorem own_decls {w w0 : World} {base lo : Nat} {l : List Nd} {vss : List (List Value)} {v : Value} (h1 : l.length = vss.length) (h2 : ∀ (i : Nat) (h : i < l.length) (h' : i < vss.length), (l[i]).ty = .D ∧ NdIn w0 l[i] vss[i]) (ho : w.ownsRow base 63 2 v l.length vss.flatten) (hlo : lo ≤ base) : SlIn (only (rng lo w.heap.size) w) .D l v :=
  RL.toSl (base := base) ⟨fun _ => false, vss, h1, ho, fun i a b => ⟨(h2 i a b).1, nd_any (h2 i a b).1 (h2 i a b).2⟩, fun k hk => by cases hk⟩ hlo

/-- What the document's copy of a program is. -/
def RefCopyTo (w : World) (ds ss : List Nd) : Ending → World → Prop := fun e w' => ∃ r0 r1, e = .returned (.agg #[r0, r1]) ∧ SlIn (only (rng w.heap.size w'.heap.size) w') .D ds r0 ∧ SlIn (only (rng w.heap.size w'.heap.size) w') .S ss r1 ∧ Below w.heap.size w w'
theorem below_gn {w wA w1 : World} (h : Below w.heap.size w wA) (hg : wA.grownBy w1 (Value.slice none 0 0).ownBlock) : Below w.heap.size w w1 := below_grown h h.size hg (fun r hr => by cases hr)

theorem rp_end {w wl W : World} {B : Nat} {ds ss : List Nd} {r0 r1 x0 x1 : Value} (bR : Blk wl (B + 1) #[x0, x1] 25) (hb : Below w.heap.size w wl) (hB : w.heap.size = B) (hD : SlIn (only (rng (B + 2) wl.heap.size) wl) .D ds r0) (hS : SlIn (only (rng (B + 2) wl.heap.size) wl) .S ss r1) (hW : W = (wl.setCell ⟨B + 1, 0, none⟩ r0).setCell ⟨B + 1, 1, none⟩ r1) :
    Blk W (B + 1) #[r0, r1] 25 ∧ SlIn (only (rng w.heap.size W.heap.size) W) .D ds r0 ∧ SlIn (only (rng w.heap.size W.heap.size) W) .S ss r1 ∧ Below w.heap.size w W := by
  have hother : ∀ q, B + 2 ≤ q → W.heap[q]? = wl.heap[q]? := fun q hq => by
    rw [hW, Below.heap_setCell _ ⟨B + 1, 1, none⟩ _ q (by simp only; omega), Below.heap_setCell _ ⟨B + 1, 0, none⟩ _ q (by simp only; omega)]
  have hs : W.heap.size = wl.heap.size := by rw [hW]; simp
  have hk : Keeps (only (rng (B + 2) wl.heap.size) wl) (only (rng w.heap.size W.heap.size) W) := only_keeps (fun q hq _ => by obtain ⟨a, b⟩ := rng_iff.1 hq; exact ⟨rng_iff.2 ⟨by omega, by omega⟩, hother q a⟩)
  refine ⟨?_, hD.keep hk, hS.keep hk, ?_⟩
  · rw [hW]; exact (bR.set 0 r0).set 1 r1
  · rw [hW]; exact (hb.setCell (p := ⟨B + 1, 0, none⟩) (by simp only; omega) r0).setCell (p := ⟨B + 1, 1, none⟩) (by simp only; omega) r1
theorem rng_lo {w : World} {ty : Ty} {l : List Nd} {v : Value} {lo lo' hi : Nat} (h : SlIn (only (rng lo hi) w) ty l v) (hlo : lo' ≤ lo) : SlIn (only (rng lo' hi) w) ty l v :=
  h.keep (only_keeps (fun q hq _ => by obtain ⟨a, b⟩ := rng_iff.1 hq; exact ⟨rng_iff.2 ⟨by omega, b⟩, rfl⟩))
theorem grown_sl {w w4 : World} {ty : Ty} {l : List Nd} {v : Value} {lo : Nat} (h : SlIn (only (rng lo w.heap.size) w) ty l v) (hg : w.grownBy w4 (Value.slice none 0 0).ownBlock) : SlIn (only (rng lo w4.heap.size) w4) ty l v :=
  h.keep (only_keeps (fun q hq _ => by obtain ⟨a, b⟩ := rng_iff.1 hq; have := hg.size; exact ⟨rng_iff.2 ⟨a, by omega⟩, hg.block q b (fun e => by cases e)⟩))

set_option maxRecDepth 100000 in
set_option maxHeartbeats 8000000 in
theorem rcopyP_some (ds ss : List Nd) (v0 v1 : Value) (w : World) (hd : SlIn w .D ds v0) (hs : SlIn w .S ss v1) (hsd : SmallL ds) (hss : SmallL ss) (hne : ¬ ds.length = 0) :
    Calls Try.prog 23 #[.agg #[v0, v1]] w (RefCopyTo w ds ss) := by
  have HCS := Lib.hid (fun w1 (hb : Below w.heap.size w w1) => rcopyS_any w _ ss v1 w1 (Nat.le_refl _) hss hs hb)
  have hdl := hsd.len
  obtain ⟨a0, c0, rfl, hl0, hm0, hrow0⟩ := hd
  obtain ⟨b, o, rfl, hrow⟩ := hrow0.resolve_left hne
  clear hrow0
  have hsv : ∃ a c, v1 = .slice a ss.length c := by obtain ⟨a, c, h, _⟩ := hs; exact ⟨a, c, h⟩
  obtain ⟨a1, c1, rfl⟩ := hsv
  obtain ⟨vss, k1, k2, k3, k4, k5⟩ := row_cells ds b o hrow
  have HNEWS := Lib.hid (fun w' (hb : Below w.heap.size w w') (j : Nat) (u : Value) (h : vss.flatten[j]? = some u) => (show w'.cell? ((⟨b, o, none⟩ : Addr).add j) = some u by rw [add_none]; exact keeps_below hb _ _ _ (k3 j u h)))
  have HLEN := Lib.hid k4
  have HONE := Lib.hid k5
  have HK1 := Lib.hid k1
  have HK2 := Lib.hid k2
  have HPOS := Lib.hid (show 0 < ds.length by omega)
  clear hs hrow k1 k2 k3 k4 k5 hsd hss
  obtain ⟨B, hBe⟩ : ∃ B, w.heap.size = B := ⟨_, rfl⟩
  obtain ⟨W1, hW1⟩ : ∃ W, (w.alloc (.cells #[.slice (some ⟨b, o, none⟩) ds.length c0, .slice a1 ss.length c1] 25)).alloc (.cells #[.slice none 0 0, .slice none 0 0] 25) = W := ⟨_, rfl⟩
  have hX1 : Blk W1 B #[.slice (some ⟨b, o, none⟩) ds.length c0, .slice a1 ss.length c1] 25 := by rw [← hW1, ← hBe]; exact (Blk.new w _ _).alloc _
  have hR1 : Blk W1 (B + 1) #[.slice none 0 0, .slice none 0 0] 25 := by rw [← hW1, ← hBe]; exact blk_second w _ _ _
  have hb1 : Below w.heap.size w W1 := by rw [← hW1]; exact ((Below.refl _ w).alloc (Nat.le_refl _) _).alloc (by simp) _
  have hS1 : W1.heap.size = B + 2 := by rw [← hW1, ← hBe, World.size_alloc, World.size_alloc]
  have x0 : W1.cell? ⟨B, 0, none⟩ = some (.slice (some ⟨b, o, none⟩) ds.length c0) := hX1.cell 0
  have x1 : W1.cell? ⟨B, 1, none⟩ = some (.slice a1 ss.length c1) := hX1.cell 1
  have HX1 := Lib.hid hX1; clear hX1
  have HR1 := Lib.hid hR1; clear hR1
  have HB1 := Lib.hid hb1; clear hb1
  have HS1 := Lib.hid hS1; clear hS1
  have HBE := Lib.hid hBe; clear hBe
  have HW1 := Lib.hid hW1; clear hW1
  obtain ⟨i0, hi0, hz0, hz1, hz2⟩ := info_parts info_D
  have HI0 := Lib.hid hi0; clear hi0
  have HZ0 := Lib.hid hz0; clear hz0
  have HZ1 := Lib.hid hz1; clear hz1
  have HZ2 := Lib.hid hz2; clear hz2
  go_enter Try.func23, Try.ntmps23
  go_upto_region 1 with fail
  rw [HW1.out, HBE.out]
  clear HW1
  go_region_law
    (first | (refine step_append_lies _ (by rfl) _ _ _ (by rfl) (B + 2) 63 i0 _ 2 24 Try.underlying22 HI0.out HZ0.out HZ1.out HZ2.out rfl (by omega) (.slice none 0 0) 0 [] (by rfl) (World.ownsRow_nil _ _ _ _) ⟨b, o, none⟩ ds.length c0 vss.flatten (by rfl) HLEN.out (HNEWS.out _ (by repeat (with_reducible (first | exact HB1.out | refine below_drew ?_ | refine below_next ?_ hb3 | refine below_gn ?_ hgrow | fail)))) HONE.out HPOS.out (by unfold maxLen; omega) (by omega) (by first | exact Nat.le_of_eq HS1.out.symm | (have := hb3.size; have e0 : W1.drew.heap.size = B + 2 := HS1.out; omega)) _ rfl ?_; intro gg cap w4 hown4 hgrow hat hlt4; (first | (have bX : Blk w4 B #[.slice (some ⟨b, o, none⟩) ds.length c0, .slice a1 ss.length c1] 25 := blk_grown ((show Blk W1.drew B #[.slice (some ⟨b, o, none⟩) ds.length c0, .slice a1 ss.length c1] 25 from HX1.out).next hb3) hgrow (fun e => by cases e); have bR : Blk w4 (B + 1) #[.slice none 0 0, .slice none 0 0] 25 := blk_grown ((show Blk W1.drew (B + 1) #[.slice none 0 0, .slice none 0 0] 25 from HR1.out).next hb3) hgrow (fun e => by cases e); have x0 : w4.cell? ⟨B, 0, none⟩ = some (.slice (some ⟨b, o, none⟩) ds.length c0) := bX.cell 0; have x1 : w4.cell? ⟨B, 1, none⟩ = some (.slice a1 ss.length c1) := bX.cell 1; have y0 : w4.cell? ⟨B + 1, 0, none⟩ = some (.slice none 0 0) := bR.cell 0; have y1 : w4.cell? ⟨B + 1, 1, none⟩ = some (.slice none 0 0) := bR.cell 1; have g0 := bR.free 0; have g1 := bR.free 1) | (have bX : Blk w4 B #[.slice (some ⟨b, o, none⟩) ds.length c0, .slice a1 ss.length c1] 25 := blk_grown (show Blk W1.drew B #[.slice (some ⟨b, o, none⟩) ds.length c0, .slice a1 ss.length c1] 25 from HX1.out) hgrow (fun e => by cases e); have bR : Blk w4 (B + 1) #[.slice none 0 0, .slice none 0 0] 25 := blk_grown (show Blk W1.drew (B + 1) #[.slice none 0 0, .slice none 0 0] 25 from HR1.out) hgrow (fun e => by cases e); have x0 : w4.cell? ⟨B, 0, none⟩ = some (.slice (some ⟨b, o, none⟩) ds.length c0) := bX.cell 0; have x1 : w4.cell? ⟨B, 1, none⟩ = some (.slice a1 ss.length c1) := bX.cell 1; have y0 : w4.cell? ⟨B + 1, 0, none⟩ = some (.slice none 0 0) := bR.cell 0; have y1 : w4.cell? ⟨B + 1, 1, none⟩ = some (.slice none 0 0) := bR.cell 1; have g0 := bR.free 0; have g1 := bR.free 1))) | (go_simp; go_at_call 49; (with_reducible refine (HCS.out _ (by repeat (with_reducible (first | exact HB1.out | refine below_drew ?_ | refine below_next ?_ hb3 | refine below_gn ?_ hgrow | fail)))).mono ?_); rintro e w3 ⟨v3, rfl, hL3, hb3⟩; obtain ⟨ra, rc, rfl⟩ : ∃ a c, v3 = .slice a ss.length c := (by obtain ⟨a, c, h, _⟩ := hL3; exact ⟨a, c, h⟩); (first | (have bX : Blk w3 B #[.slice (some ⟨b, o, none⟩) ds.length c0, .slice a1 ss.length c1] 25 := (blk_grown (show Blk W1.drew B #[.slice (some ⟨b, o, none⟩) ds.length c0, .slice a1 ss.length c1] 25 from HX1.out) hgrow (fun e => by cases e)).next hb3; have bR : Blk w3 (B + 1) #[.slice none 0 0, .slice none 0 0] 25 := (blk_grown (show Blk W1.drew (B + 1) #[.slice none 0 0, .slice none 0 0] 25 from HR1.out) hgrow (fun e => by cases e)).next hb3; have x0 : w3.cell? ⟨B, 0, none⟩ = some (.slice (some ⟨b, o, none⟩) ds.length c0) := bX.cell 0; have x1 : w3.cell? ⟨B, 1, none⟩ = some (.slice a1 ss.length c1) := bX.cell 1; have y0 : w3.cell? ⟨B + 1, 0, none⟩ = some (.slice none 0 0) := bR.cell 0; have y1 : w3.cell? ⟨B + 1, 1, none⟩ = some (.slice none 0 0) := bR.cell 1; have g0 := bR.free 0; have g1 := bR.free 1) | (have bX : Blk w3 B #[.slice (some ⟨b, o, none⟩) ds.length c0, .slice a1 ss.length c1] 25 := (show Blk W1.drew B #[.slice (some ⟨b, o, none⟩) ds.length c0, .slice a1 ss.length c1] 25 from HX1.out).next hb3; have bR : Blk w3 (B + 1) #[.slice none 0 0, .slice none 0 0] 25 := (show Blk W1.drew (B + 1) #[.slice none 0 0, .slice none 0 0] 25 from HR1.out).next hb3; have x0 : w3.cell? ⟨B, 0, none⟩ = some (.slice (some ⟨b, o, none⟩) ds.length c0) := bX.cell 0; have x1 : w3.cell? ⟨B, 1, none⟩ = some (.slice a1 ss.length c1) := bX.cell 1; have y0 : w3.cell? ⟨B + 1, 0, none⟩ = some (.slice none 0 0) := bR.cell 0; have y1 : w3.cell? ⟨B + 1, 1, none⟩ = some (.slice none 0 0) := bR.cell 1; have g0 := bR.free 0; have g1 := bR.free 1))))
  all_goals
    have e0 : W1.drew.heap.size = B + 2 := HS1.out
    simp only [Nat.zero_add, List.nil_append] at hown4 ⊢
    have hs3 := hb3.size
    have hs4 := hgrow.size
    first
      | (have hR := rp_end (wl := w3) (W := ((w3.setCell ⟨B + 1, 0, none⟩ (.slice (some ⟨gg, 0, none⟩) ds.length cap)).setCell ⟨B + 1, 1, none⟩ (.slice ra ss.length rc))) bR (below_next (below_gn (below_drew HB1.out) hgrow) hb3) HBE.out (own_decls HK1.out HK2.out (own_kept hown4 (fun q _ q2 => hb3.block q q2)) (Nat.le_refl _)) (rng_lo hL3 (by omega)) rfl; obtain ⟨W, hW⟩ : ∃ W, ((w3.setCell ⟨B + 1, 0, none⟩ (.slice (some ⟨gg, 0, none⟩) ds.length cap)).setCell ⟨B + 1, 1, none⟩ (.slice ra ss.length rc)) = W := ⟨_, rfl⟩; rw [hW] at hR ⊢; clear hW)
      | (have hR := rp_end (wl := w4) (W := ((w4.setCell ⟨B + 1, 0, none⟩ (.slice (some ⟨gg, 0, none⟩) ds.length cap)).setCell ⟨B + 1, 1, none⟩ (.slice ra ss.length rc))) bR (below_gn (below_next (below_drew HB1.out) hb3) hgrow) HBE.out (own_decls HK1.out HK2.out hown4 (Nat.le_refl _)) (grown_sl (rng_lo hL3 (by omega)) hgrow) rfl; obtain ⟨W, hW⟩ : ∃ W, ((w4.setCell ⟨B + 1, 0, none⟩ (.slice (some ⟨gg, 0, none⟩) ds.length cap)).setCell ⟨B + 1, 1, none⟩ (.slice ra ss.length rc)) = W := ⟨_, rfl⟩; rw [hW] at hR ⊢; clear hW)
    obtain ⟨bW, hD, hS, hBB⟩ := hR
    have z0 : W.cell? ⟨B + 1, 0, none⟩ = some (.slice (some ⟨gg, 0, none⟩) ds.length cap) := bW.cell 0
    have z1 : W.cell? ⟨B + 1, 1, none⟩ = some (.slice ra ss.length rc) := bW.cell 1
    have HD := Lib.hid hD; clear hD
    have HSS := Lib.hid hS; clear hS
    have HBB := Lib.hid hBB; clear hBB
    clear hL3 hb3 hgrow hown4 bW bX bR hs3 hs4 hat x0 x1 y0 y1 g0 g1
    go_wp2_with fail
    exact bodyPost_ret (v := .agg #[.slice (some ⟨gg, 0, none⟩) ds.length cap, .slice ra ss.length rc]) (by simp [results, Try.results23, go_sem, z0, z1]) rfl ⟨_, _, rfl, HD.out, HSS.out, HBB.out⟩

/-! ## No declarations. -/
theorem app_none (a0 : Option Addr) (c0 : Nat) (ty : TypeId) (w : World) : (Builtin.append_ #[22, 22] ty #[.slice none 0 0, .slice a0 0 c0]).run Try.prog w = .ok (.slice none 0 0) w := by
  cases a0 <;> simp [Builtin.append_, go_sem]
theorem step_app_none {ops : Array Oper} {o : Oper} {a : Act} {w : World} {K : Act → World → Prop} {Q : Exit → Act → World → Prop} {E : Prop} (hgd : o.guard = none) (s x : Operand)
    (ho : o.op = .call { callee := .builtin .append, args := #[s, x], argTypes := #[22, 22] }) (hs : a.eval s = .slice none 0 0) (a0 : Option Addr) (c0 : Nat) (hx : a.eval x = .slice a0 0 c0) (h : K (a.put o.dst (.slice none 0 0)) w) :
    if Region.wanted o (yielded ops a.tmps) = true then Oper.wp Try.prog o a w K Q else E := by
  have hw : Region.wanted o (yielded ops a.tmps) = true := by simp [Region.wanted, hgd]
  rw [if_pos hw]
  have hr := app_none a0 c0 o.type w
  unfold Oper.wp execOp
  simp only [ho, resolve, invoke, builtin, Sem.run_bind, Sem.run_pure, Result.andThen_ok, List.map_toArray, List.map_cons, List.map_nil, hs, hx, hr]
  exact h

set_option maxRecDepth 100000 in
set_option maxHeartbeats 8000000 in
theorem rcopyP_none (ss : List Nd) (v0 v1 : Value) (w : World) (hd : SlIn w .D [] v0) (hs : SlIn w .S ss v1) (hss : SmallL ss) :
    Calls Try.prog 23 #[.agg #[v0, v1]] w (RefCopyTo w [] ss) := by
  have HCS := Lib.hid (fun w1 (hb : Below w.heap.size w w1) => rcopyS_any w _ ss v1 w1 (Nat.le_refl _) hss hs hb)
  obtain ⟨a0, c0, rfl, hl0, hm0, -⟩ := hd
  have hsv : ∃ a c, v1 = .slice a ss.length c := by obtain ⟨a, c, h, _⟩ := hs; exact ⟨a, c, h⟩
  obtain ⟨a1, c1, rfl⟩ := hsv
  simp only [List.length_nil]
  clear hs hss
  obtain ⟨B, hBe⟩ : ∃ B, w.heap.size = B := ⟨_, rfl⟩
  obtain ⟨W1, hW1⟩ : ∃ W, (w.alloc (.cells #[.slice a0 0 c0, .slice a1 ss.length c1] 25)).alloc (.cells #[.slice none 0 0, .slice none 0 0] 25) = W := ⟨_, rfl⟩
  have hX1 : Blk W1 B #[.slice a0 0 c0, .slice a1 ss.length c1] 25 := by rw [← hW1, ← hBe]; exact (Blk.new w _ _).alloc _
  have hR1 : Blk W1 (B + 1) #[.slice none 0 0, .slice none 0 0] 25 := by rw [← hW1, ← hBe]; exact blk_second w _ _ _
  have hb1 : Below w.heap.size w W1 := by rw [← hW1]; exact ((Below.refl _ w).alloc (Nat.le_refl _) _).alloc (by simp) _
  have hS1 : W1.heap.size = B + 2 := by rw [← hW1, ← hBe, World.size_alloc, World.size_alloc]
  have x0 : W1.cell? ⟨B, 0, none⟩ = some (.slice a0 0 c0) := hX1.cell 0
  have x1 : W1.cell? ⟨B, 1, none⟩ = some (.slice a1 ss.length c1) := hX1.cell 1
  have HX1 := Lib.hid hX1; clear hX1
  have HR1 := Lib.hid hR1; clear hR1
  have HB1 := Lib.hid hb1; clear hb1
  have HS1 := Lib.hid hS1; clear hS1
  have HBE := Lib.hid hBe; clear hBe
  have HW1 := Lib.hid hW1; clear hW1
  go_enter Try.func23, Try.ntmps23
  go_upto_region 1 with fail
  rw [HW1.out, HBE.out]
  clear HW1
  go_region_law
    (first | (refine step_app_none (by rfl) _ _ (by rfl) (by rfl) a0 c0 (by rfl) ?_) | (go_simp; go_at_call 49; (with_reducible refine (HCS.out _ (by repeat (with_reducible (first | exact HB1.out | refine below_drew ?_ | refine below_next ?_ hb3 | fail)))).mono ?_); rintro e w3 ⟨v3, rfl, hL3, hb3⟩; obtain ⟨ra, rc, rfl⟩ : ∃ a c, v3 = .slice a ss.length c := (by obtain ⟨a, c, h, _⟩ := hL3; exact ⟨a, c, h⟩); ((have bX : Blk w3 B #[.slice a0 0 c0, .slice a1 ss.length c1] 25 := (show Blk W1.drew B #[.slice a0 0 c0, .slice a1 ss.length c1] 25 from HX1.out).next hb3; have bR : Blk w3 (B + 1) #[.slice none 0 0, .slice none 0 0] 25 := (show Blk W1.drew (B + 1) #[.slice none 0 0, .slice none 0 0] 25 from HR1.out).next hb3; have x0 : w3.cell? ⟨B, 0, none⟩ = some (.slice a0 0 c0) := bX.cell 0; have x1 : w3.cell? ⟨B, 1, none⟩ = some (.slice a1 ss.length c1) := bX.cell 1; have y0 : w3.cell? ⟨B + 1, 0, none⟩ = some (.slice none 0 0) := bR.cell 0; have y1 : w3.cell? ⟨B + 1, 1, none⟩ = some (.slice none 0 0) := bR.cell 1; have g0 := bR.free 0; have g1 := bR.free 1))))
  all_goals
    have e0 : W1.drew.heap.size = B + 2 := HS1.out
    have hs3 := hb3.size
    have hR := rp_end (ds := []) (wl := w3) (W := ((w3.setCell ⟨B + 1, 0, none⟩ (.slice none 0 0)).setCell ⟨B + 1, 1, none⟩ (.slice ra ss.length rc))) bR (below_next (below_drew HB1.out) hb3) HBE.out (r0 := .slice none 0 0) ⟨none, 0, rfl, Nat.le_refl _, Nat.zero_le _, .inl rfl⟩ (rng_lo hL3 (by omega)) rfl
    obtain ⟨W, hW⟩ : ∃ W, ((w3.setCell ⟨B + 1, 0, none⟩ (.slice none 0 0)).setCell ⟨B + 1, 1, none⟩ (.slice ra ss.length rc)) = W := ⟨_, rfl⟩
    rw [hW] at hR ⊢
    clear hW
    obtain ⟨bW, hD, hS, hBB⟩ := hR
    have z0 : W.cell? ⟨B + 1, 0, none⟩ = some (.slice none 0 0) := bW.cell 0
    have z1 : W.cell? ⟨B + 1, 1, none⟩ = some (.slice ra ss.length rc) := bW.cell 1
    have HD := Lib.hid hD; clear hD
    have HSS := Lib.hid hS; clear hS
    have HBB := Lib.hid hBB; clear hBB
    clear hL3 hb3 bW bX bR hs3 x0 x1 y0 y1 g0 g1
    go_wp2_with fail
    exact bodyPost_ret (v := .agg #[.slice none 0 0, .slice ra ss.length rc]) (by simp [results, Try.results23, go_sem, z0, z1]) rfl ⟨_, _, rfl, HD.out, HSS.out, HBB.out⟩

theorem rcopyP_any (ds ss : List Nd) (v0 v1 : Value) (w : World) (hd : SlIn w .D ds v0) (hs : SlIn w .S ss v1) (hsd : SmallL ds) (hss : SmallL ss) :
    Calls Try.prog 23 #[.agg #[v0, v1]] w (RefCopyTo w ds ss) := by
  by_cases hne : ds.length = 0
  · obtain rfl : ds = [] := List.eq_nil_of_length_eq_zero hne
    exact rcopyP_none ss v0 v1 w hd hs hss
  · exact rcopyP_some ds ss v0 v1 w hd hs hsd hss hne
end Go.Proofs.Ytpildlaloclanaa

/-
  TreeCopies' own walk: proved is that it answers true for every program that lies in memory, and that it turns nothing that lay.
-/
namespace Go.Proofs.Ytpildlaloclanaa
open Go Go.RowKit

mutual
theorem sameN_refl : ∀ x : Nd, sameN x x = true
  | .mk ty k n nm xs cs ts es => by
    unfold sameN
    simp [sameL_refl xs, sameL_refl cs, sameL_refl ts, sameL_refl es]
theorem sameL_refl : ∀ l : List Nd, sameL l l = true
  | [] => by unfold sameL; rfl
  | x :: r => by
    unfold sameL
    simp [sameN_refl x, sameL_refl r]
end
theorem equalR_self {ds ss : List Nd} (h : faultT (progT ds ss) = 0) : equalR ds ss ds ss = true := by
  unfold equalR
  rw [progW_T, fault_lim h, sameL_refl, sameL_refl]
  rfl
theorem out_below {lo hi n : Nat} {w0 w w' : World} (h : Out lo hi w w') (hb : Below n w0 w) (hn : n ≤ lo) (hs : n ≤ w.heap.size) : Below n w0 w' :=
  ⟨h.os.trans hb.os, h.tape.trans hb.tape, h.output.trans hb.output, Nat.le_trans hb.size h.size, fun q hq => (h.block q (by omega) (.inl (by omega))).trans (hb.block q hq)⟩

set_option maxRecDepth 100000 in
set_option maxHeartbeats 8000000 in
theorem copies_any (ds ss : List Nd) (v0 v1 : Value) (w : World) (hd : SlIn w .D ds v0) (hs : SlIn w .S ss v1) :
    Calls Try.prog 6 #[.agg #[v0, v1]] w (fun e w' => e = .returned (.bool true) ∧ Below w.heap.size w w') := by
  have hfd := fit_list hd
  have hfs := fit_list hs
  have hnd := noD_list hs
  have hsm := small_of hfd hfs
  have heq := equal_same hfd hfs hfd hfs
  have hself := equalR_self (ds := ds) (ss := ss)
  have HK := Lib.hid known_any
  have HTC := Lib.hid (fun w1 (hb : Below w.heap.size w w1) => tcopy_any ds ss v0 v1 w1 (hd.keep (keeps_below hb)) (hs.keep (keeps_below hb)))
  have hrc := fun w1 (hb : Below w.heap.size w w1) => rcheck_any ds ss v0 v1 w1 (hd.keep (keeps_below hb)) (hs.keep (keeps_below hb))
  have HRP := Lib.hid (fun (h1 : SmallL ds) (h2 : SmallL ss) w1 (hb : Below w.heap.size w w1) => rcopyP_any ds ss v0 v1 w1 (hd.keep (keeps_below hb)) (hs.keep (keeps_below hb)) h1 h2)
  have hER := fun (u0 u1 : Value) w1 (hb : Below w.heap.size w w1) (h1 : SlIn w1 .D ds u0) (h2 : SlIn w1 .S ss u1) => equalR_any ds ss ds ss v0 v1 u0 u1 w1 (hd.keep (keeps_below hb)) (hs.keep (keeps_below hb)) h1 h2
  have hEP := fun (u0 u1 : Value) w1 (hb : Below w.heap.size w w1) (h1 : SlIn w1 .D ds u0) (h2 : SlIn w1 .S ss u1) => equalP_any ds ss ds ss v0 v1 u0 u1 w1 (hd.keep (keeps_below hb)) (hs.keep (keeps_below hb)) h1 h2
  simp only [docP_same hfd hnd] at hrc
  rw [← heq] at hEP
  obtain ⟨F, hF⟩ : ∃ F, faultT (progT ds ss) = F := ⟨_, rfl⟩
  rw [hF] at HTC hsm hself
  simp only [hF] at hrc
  have HRC := Lib.hid hrc; clear hrc
  have HSM := Lib.hid hsm; clear hsm
  have HSELF := Lib.hid hself; clear hself
  have HER := Lib.hid hER; clear hER
  have HEP := Lib.hid hEP; clear hEP
  clear hF hfd hfs hnd heq
  obtain ⟨a0, c0, rfl, -⟩ := hd
  obtain ⟨a1, c1, rfl, -⟩ := hs
  obtain ⟨W1, hW1⟩ : ∃ W1, w.alloc (.cells #[.slice a0 ds.length c0, .slice a1 ss.length c1] 25) = W1 := ⟨_, rfl⟩
  obtain ⟨B, hBe⟩ : ∃ B, w.heap.size = B := ⟨_, rfl⟩
  have hal : Below w.heap.size w W1 := by rw [← hW1]; exact (Below.refl _ w).alloc (Nat.le_refl _) _
  have hX1 : Blk W1 B #[.slice a0 ds.length c0, .slice a1 ss.length c1] 25 := by rw [← hW1, ← hBe]; exact Blk.new w _ _
  have HX1 := Lib.hid hX1; clear hX1
  have HAL := Lib.hid hal; clear hal
  have HW1 := Lib.hid hW1; clear hW1
  have HBE := Lib.hid hBe; clear hBe
  by_cases hz : F = 0
  · subst hz
    obtain ⟨hsd, hss⟩ := HSM.out rfl
    have HRP1 := Lib.hid (HRP.out hsd hss); clear HRP hsd hss
    go_enter Try.func6, Try.ntmps6
    go_upto_region 1 with fail
    rw [HW1.out, HBE.out]
    clear HW1
    go_upto_region 3 with (first | (go_at_call 7; (with_reducible refine (HK.out _).mono ?_); rintro e w1 ⟨rfl, hb1⟩) | fail)
    have hX2 := HX1.out.next hb1
    have x0 : w1.cell? ⟨B, 0, none⟩ = some (.slice a0 ds.length c0) := hX2.cell 0
    have x1 : w1.cell? ⟨B, 1, none⟩ = some (.slice a1 ss.length c1) := hX2.cell 1
    have HX2 := Lib.hid hX2; clear hX2
    have HB1 := Lib.hid (below_next HAL.out hb1)
    have hs1 := hb1.size
    clear hb1
    go_upto_region 4 with (first | (go_at_call 22; (with_reducible refine (HTC.out _ HB1.out).mono ?_); rintro e w2 ⟨r0, r1, rfl, hcp, hb2⟩; rw [if_pos rfl] at hcp; obtain ⟨m, hcp0, hcp1⟩ := hcp; obtain ⟨ra, rc, rfl⟩ : ∃ a c, r0 = .slice a ds.length c := (by obtain ⟨a, c, h, _⟩ := hcp0.toIn; exact ⟨a, c, h⟩); obtain ⟨sa, sc, rfl⟩ : ∃ a c, r1 = .slice a ss.length c := (by obtain ⟨a, c, h, _⟩ := hcp1.toIn; exact ⟨a, c, h⟩); have HX3 := Lib.hid (HX2.out.next hb2)) | fail)
    obtain ⟨W3, hW3⟩ : ∃ W, w2.alloc (.cells #[.slice ra ds.length rc, .slice sa ss.length sc] 25) = W := ⟨_, rfl⟩
    have hX3 : Blk W3 B #[.slice a0 ds.length c0, .slice a1 ss.length c1] 25 := by rw [← hW3]; exact HX3.out.alloc _
    have hQ3 : Blk W3 w2.heap.size #[.slice ra ds.length rc, .slice sa ss.length sc] 25 := by rw [← hW3]; exact Blk.new _ _ _
    have hA3 : Below w2.heap.size w2 W3 := by rw [← hW3]; exact (Below.refl _ w2).alloc (Nat.le_refl _) _
    have hS3 : W3.heap.size = w2.heap.size + 1 := by rw [← hW3, World.size_alloc]
    rw [hW3]
    clear hW3 x0 x1 HX3
    obtain ⟨C, hC⟩ : ∃ q, w2.heap.size = q := ⟨_, rfl⟩
    rw [hC] at hQ3 hS3 hA3 ⊢
    have HB3 := Lib.hid (show Below w.heap.size w W3 from (below_next HB1.out hb2).trans (hA3.mono (by rw [← hC]; exact (below_next HB1.out hb2).size)))
    have x0 : W3.cell? ⟨B, 0, none⟩ = some (.slice a0 ds.length c0) := hX3.cell 0
    have x1 : W3.cell? ⟨B, 1, none⟩ = some (.slice a1 ss.length c1) := hX3.cell 1
    have HX3 := Lib.hid hX3; clear hX3
    have HQ3 := Lib.hid hQ3; clear hQ3
    have hs2 := hb2.size
    have HD3 := Lib.hid (hcp0.keep (w' := W3) (fun q q1 q2 => hA3.block q (by have := hcp1.le; omega)))
    have HS3 := Lib.hid (hcp1.keep (w' := W3) (fun q q1 q2 => hA3.block q (by omega)))
    have HLE := Lib.hid hcp0.le
    have HLE1 := Lib.hid hcp1.le
    clear hcp0 hcp1 hA3 hb2
    go_upto_region 6 with (first | (go_at_call 8; (with_reducible refine (HRC.out _ HB3.out).mono ?_); rintro e w4 ⟨rfl, hb4⟩) | fail)
    have HDK := Lib.hid (fun w' (h : Below W3.heap.size W3 w') => HD3.out.keep (w' := w') (fun q q1 q2 => h.block q (by have := HLE1.out; omega)))
    have HSK := Lib.hid (fun w' (h : Below W3.heap.size W3 w') => HS3.out.keep (w' := w') (fun q q1 q2 => h.block q (by omega)))
    have HBK := Lib.hid (fun w' (h : Below W3.heap.size W3 w') => below_next HB3.out h)
    have KX := Lib.hid (fun w' (h : Below W3.heap.size W3 w') => (⟨(HX3.out.below h HX3.out.lt).cell 0, (HX3.out.below h HX3.out.lt).cell 1, (HQ3.out.below h HQ3.out.lt).cell 0, (HQ3.out.below h HQ3.out.lt).cell 1⟩ : w'.cell? ⟨B, 0, none⟩ = some (.slice a0 ds.length c0) ∧ w'.cell? ⟨B, 1, none⟩ = some (.slice a1 ss.length c1) ∧ w'.cell? ⟨C, 0, none⟩ = some (.slice ra ds.length rc) ∧ w'.cell? ⟨C, 1, none⟩ = some (.slice sa ss.length sc)))
    have hself := HSELF.out (by trivial)
    have her := HER.out
    have hep := HEP.out
    simp only [hself] at her hep
    have HER1 := Lib.hid her; clear her
    have HEP1 := Lib.hid hep; clear hep hself
    clear x0 x1
    obtain ⟨x0, x1, z0, z1⟩ := KX.out w4 hb4
    go_upto_region 10 with (first | (go_at_call 21; (with_reducible refine (HER1.out _ _ _ (HBK.out _ (by repeat (with_reducible (first | exact Below.refl _ W3 | refine below_next ?_ hb7 | refine below_next ?_ hb6 | refine below_next ?_ hb5 | refine below_next ?_ hb4 | fail)))) (HDK.out _ (by repeat (with_reducible (first | exact Below.refl _ W3 | refine below_next ?_ hb7 | refine below_next ?_ hb6 | refine below_next ?_ hb5 | refine below_next ?_ hb4 | fail)))).toIn (HSK.out _ (by repeat (with_reducible (first | exact Below.refl _ W3 | refine below_next ?_ hb7 | refine below_next ?_ hb6 | refine below_next ?_ hb5 | refine below_next ?_ hb4 | fail)))).toIn).mono ?_); rintro e w5 ⟨rfl, hb5⟩; obtain ⟨x0, x1, z0, z1⟩ := KX.out w5 (by repeat (with_reducible (first | exact Below.refl _ W3 | refine below_next ?_ hb7 | refine below_next ?_ hb6 | refine below_next ?_ hb5 | refine below_next ?_ hb4 | fail)))) | (go_at_call 20; (with_reducible refine (HEP1.out _ _ _ (HBK.out _ (by repeat (with_reducible (first | exact Below.refl _ W3 | refine below_next ?_ hb7 | refine below_next ?_ hb6 | refine below_next ?_ hb5 | refine below_next ?_ hb4 | fail)))) (HDK.out _ (by repeat (with_reducible (first | exact Below.refl _ W3 | refine below_next ?_ hb7 | refine below_next ?_ hb6 | refine below_next ?_ hb5 | refine below_next ?_ hb4 | fail)))).toIn (HSK.out _ (by repeat (with_reducible (first | exact Below.refl _ W3 | refine below_next ?_ hb7 | refine below_next ?_ hb6 | refine below_next ?_ hb5 | refine below_next ?_ hb4 | fail)))).toIn).mono ?_); rintro e w6 ⟨rfl, hb6⟩; obtain ⟨x0, x1, z0, z1⟩ := KX.out w6 (by repeat (with_reducible (first | exact Below.refl _ W3 | refine below_next ?_ hb7 | refine below_next ?_ hb6 | refine below_next ?_ hb5 | refine below_next ?_ hb4 | fail)))) | fail)
    go_upto_region 11 with (first | (go_at_call 23; (with_reducible refine (HRP1.out _ (HBK.out _ (by repeat (with_reducible (first | exact Below.refl _ W3 | refine below_next ?_ hb7 | refine below_next ?_ hb6 | refine below_next ?_ hb5 | refine below_next ?_ hb4 | fail))))).mono ?_); rintro e w7 ⟨s0, s1, rfl, hN0, hN1, hb7⟩; obtain ⟨ta, tc, rfl⟩ : ∃ a c, s0 = .slice a ds.length c := (by obtain ⟨a, c, h, _⟩ := hN0; exact ⟨a, c, h⟩); obtain ⟨ua, uc, rfl⟩ : ∃ a c, s1 = .slice a ss.length c := (by obtain ⟨a, c, h, _⟩ := hN1; exact ⟨a, c, h⟩)) | fail)
    have hb7' : Below W3.heap.size W3 w7 := (by repeat (with_reducible (first | exact Below.refl _ W3 | refine below_next ?_ hb7 | refine below_next ?_ hb6 | refine below_next ?_ hb5 | refine below_next ?_ hb4 | fail)))
    obtain ⟨x0, x1, z0, z1⟩ := KX.out w7 hb7'
    obtain ⟨W8, hW8⟩ : ∃ W, w7.alloc (.cells #[.slice ta ds.length tc, .slice ua ss.length uc] 25) = W := ⟨_, rfl⟩
    obtain ⟨E, hE⟩ : ∃ q, w7.heap.size = q := ⟨_, rfl⟩
    have hQ8 : Blk W8 E #[.slice ta ds.length tc, .slice ua ss.length uc] 25 := by rw [← hW8, ← hE]; exact Blk.new _ _ _
    have hA8 : Below w7.heap.size w7 W8 := by rw [← hW8]; exact (Below.refl _ w7).alloc (Nat.le_refl _) _
    have hS8 : W8.heap.size = E + 1 := by rw [← hW8, World.size_alloc, hE]
    rw [hW8, hE]
    clear hW8
    have hb8 : Below W3.heap.size W3 W8 := below_next hb7' hA8
    clear x0 x1 z0 z1
    obtain ⟨x0, x1, z0, z1⟩ := KX.out W8 hb8
    have HD8 := Lib.hid (HDK.out W8 hb8)
    have HS8 := Lib.hid (HSK.out W8 hb8)
    have hC8 : C ≤ W8.heap.size := by have := hb8.size; omega
    go_upto_region 12 with (first | (go_at_call 24; (with_reducible refine (spoil_any _ ds ss _ _ _ _ _ W8 (Nat.le_refl _) HD8.out HS8.out (by omega)).mono ?_); rintro e w9 ⟨rfl, hout⟩) | fail)
    have hBlt := HX2.out.lt
    have hs6 : W3.heap.size ≤ w6.heap.size := by have := hb4.size; have := hb5.size; have := hb6.size; omega
    have hs7 := hb7.size
    clear z0 z1
    have x0 := hout.cell x0 (.inl hBlt)
    have x1 := hout.cell x1 (.inl hBlt)
    have y0 : w9.cell? ⟨E, 0, none⟩ = some (.slice ta ds.length tc) := hout.cell (hQ8.cell 0) (.inr (by omega))
    have y1 : w9.cell? ⟨E, 1, none⟩ = some (.slice ua ss.length uc) := hout.cell (hQ8.cell 1) (.inr (by omega))
    have hBW9 := out_below hout (HBK.out W8 hb8) HB1.out.size (HBK.out W8 hb8).size
    have hk9 : ∀ q, rng w6.heap.size w7.heap.size q = true → q < w7.heap.size → w9.heap[q]? = w7.heap[q]? := fun q hq hl => by
      obtain ⟨q1, q2⟩ := rng_iff.1 hq
      exact (hout.block q (by omega) (.inr (by omega))).trans (hA8.block q (by omega))
    have HD9 := Lib.hid (SlIn.keep (ty := .D) (l := ds) hN0 (only_out hk9))
    have HS9 := Lib.hid (SlIn.keep (ty := .S) (l := ss) hN1 (only_out hk9))
    have HB9 := Lib.hid hBW9
    clear hk9 hN0 hN1 hout hQ8
    go_wp2_with (first | (go_at_call 21; (with_reducible refine (HER1.out _ _ _ HB9.out HD9.out HS9.out).mono ?_); rintro e w10 ⟨rfl, hb10⟩) | fail)
    go_ret
    exact ⟨rfl, below_next hBW9 hb10⟩
  · clear HRP
    go_enter Try.func6, Try.ntmps6
    go_upto_region 1 with fail
    rw [HW1.out, HBE.out]
    clear HW1
    go_upto_region 3 with (first | (go_at_call 7; (with_reducible refine (HK.out _).mono ?_); rintro e w1 ⟨rfl, hb1⟩) | fail)
    have hX2 := HX1.out.next hb1
    have x0 : w1.cell? ⟨B, 0, none⟩ = some (.slice a0 ds.length c0) := hX2.cell 0
    have x1 : w1.cell? ⟨B, 1, none⟩ = some (.slice a1 ss.length c1) := hX2.cell 1
    have HX2 := Lib.hid hX2; clear hX2
    have HB1 := Lib.hid (below_next HAL.out hb1)
    have hs1 := hb1.size
    clear hb1
    go_upto_region 4 with (first | (go_at_call 22; (with_reducible refine (HTC.out _ HB1.out).mono ?_); rintro e w2 ⟨r0, r1, rfl, hcp, hb2⟩; rw [if_neg hz] at hcp; obtain ⟨rfl, rfl⟩ := hcp; have HX3 := Lib.hid (HX2.out.next hb2)) | fail)
    obtain ⟨W3, hW3⟩ : ∃ W, w2.alloc (.cells #[.slice none 0 0, .slice none 0 0] 25) = W := ⟨_, rfl⟩
    have hX3 : Blk W3 B #[.slice a0 ds.length c0, .slice a1 ss.length c1] 25 := by rw [← hW3]; exact HX3.out.alloc _
    have hQ3 : Blk W3 w2.heap.size #[.slice none 0 0, .slice none 0 0] 25 := by rw [← hW3]; exact Blk.new _ _ _
    have hA3 : Below w2.heap.size w2 W3 := by rw [← hW3]; exact (Below.refl _ w2).alloc (Nat.le_refl _) _
    have hS3 : W3.heap.size = w2.heap.size + 1 := by rw [← hW3, World.size_alloc]
    rw [hW3]
    clear hW3 x0 x1 HX3
    obtain ⟨C, hC⟩ : ∃ q, w2.heap.size = q := ⟨_, rfl⟩
    rw [hC] at hQ3 hS3 hA3 ⊢
    have HB3 := Lib.hid (show Below w.heap.size w W3 from (below_next HB1.out hb2).trans (hA3.mono (by rw [← hC]; exact (below_next HB1.out hb2).size)))
    have x0 : W3.cell? ⟨B, 0, none⟩ = some (.slice a0 ds.length c0) := hX3.cell 0
    have x1 : W3.cell? ⟨B, 1, none⟩ = some (.slice a1 ss.length c1) := hX3.cell 1
    have HX3 := Lib.hid hX3; clear hX3
    have HQ3 := Lib.hid hQ3; clear hQ3
    have hzb : (F == 0) = false := by simp [hz]
    go_wp2_with (first | (go_at_call 8; (with_reducible refine (HRC.out _ HB3.out).mono ?_); rintro e w4 ⟨rfl, hb4⟩; have z0 : w4.cell? ⟨C, 0, none⟩ = some (.slice none 0 0) := (HQ3.out.next hb4).cell 0; have z1 : w4.cell? ⟨C, 1, none⟩ = some (.slice none 0 0) := (HQ3.out.next hb4).cell 1) | fail)
    go_ret
    exact ⟨rfl, below_next HB3.out hb4⟩
end Go.Proofs.Ytpildlaloclanaa

/-
  TreeCopies (P3.3, P3.4): proved is that gnomonlaw3.TreeCopies answers true for every program, and it reads as it did.
  Conditions: none but the row's own.
-/
namespace Go.Proofs.Ytpildlaloclanaa.treeCopies
open Go Go.ChangeShapes Go.WideShapes Go.ChangeAt Go.RowKit Go.Lib

theorem own : ownKnob Try.prog.godebug = none := by kernel_rfl

set_option maxRecDepth 100000 in
/-- What the walk gives, for every argument and every world. -/
theorem contract (H : Type) (enc : TypeId × Value → H) (W : World) (base : Nat) (args : Array Value) (ds gs : List (DataW H)) (before : List MemPlace)
    (hval : ∀ (j : Nat) t v, Try.f6.params[j]? = some t → args[j]? = some v → Value.okWide Try.prog W .any base t v)
    (hW : DataW.Whole enc Try.prog Try.f6.params.toList Rows.treeCopiesSpec.vars false W args.toList ds gs before) :
    Calls Try.prog 6 args W fun e W' => ∃ v, e = .returned v ∧ Rows.treeCopiesSpec.post enc Try.prog Try.f6 false true false false W args v W' := by
  have hW' := hW
  obtain ⟨p, q, hA0, hV, rfl, hfz, hnd⟩ := hW
  have hA : DataW.TrodAll enc Try.prog W 0 (fun _ => true) true Try.f6.params.toList args.toList ds p := hA0
  rw [Try.params6] at hA hval
  obtain ⟨v0, vs0, d0, ds0, p0, q0, hargs, rfl, rfl, h0, r0⟩ := trodAll_cons hA
  obtain ⟨rfl, rfl, rfl⟩ := trodAll_nil r0
  obtain rfl : args = #[v0] := by cases args; simp_all
  obtain ⟨rfl, rfl⟩ := trodVars_none hV
  obtain ⟨x0, y0, a0, b0, rfl, hd0, hs0⟩ := arg_prog (hval 0 _ v0 rfl rfl) h0
  clear hA0
  refine (copies_any x0 y0 a0 b0 W hd0 hs0).mono fun e W' ⟨he, hb⟩ => ?_
  subst he
  refine ⟨_, rfl, post_trueT (tb := 4) plainAll ?_ rfl (by kernel_rfl) (by kernel_rfl) Try.underlying4 rfl hW' hb⟩
  rw [Try.params6]
  intro t ht
  have hall : ([25].all fun u => treeT.contains u) = true := by kernel_rfl
  simpa using List.all_eq_true.1 hall t (by simpa using ht)

theorem reads (os : Os) {H : Type} (enc : TypeId × Value → H) : ∃ ds places, DataW.whole enc Try.prog ((World.holding Try.prog os ⟨#[], #[], []⟩).forCall (fun _ _ => 0) ⟨#[], #[.agg #[.slice none 0 0, .slice none 0 0]], []⟩).memory Try.f6.params.toList Rows.treeCopiesSpec.vars false #[.agg #[.slice none 0 0, .slice none 0 0]].toList 8 = some (ds, [], places) :=
  ⟨[.agg [.nil, .nil]], [], by kernel_rfl⟩

theorem laid_nil (os : Os) (args : Array Value) : laidMetH Try.prog [] ((World.holding Try.prog os ⟨#[], #[], []⟩).forCall (fun _ _ => 0) ⟨#[], args, []⟩).memory := by
  change laidMet _ [] _
  exact ⟨[], rfl, List.nodup_nil, fun b off h => by cases h⟩

set_option maxRecDepth 100000 in
theorem lifted (os : Os) (started : os.Started) (H : Type) (enc : TypeId × Value → H) (F : Stop.Interp) :
    ReturnsInHanded {} Try.checked os 6 .any ((OpenSpec.ofChange Rows.treeCopiesSpec).preRow enc Try.prog Try.f6 Rows.treeCopiesRow.domain false Rows.treeCopiesRow.laid) (((OpenSpec.ofChange Rows.treeCopiesSpec).at F).post enc Try.prog Try.f6 false true false false) := by
  obtain ⟨ds, places, hx⟩ := reads os enc
  refine returnsInHanded_of_row (C := Try.checked) (s := OpenSpec.ofChange Rows.treeCopiesSpec) own started (by kernel_rfl) Try.func6
    (witness_row_atRef (enc := enc) (C := Try.checked) false (World.holding Try.prog os ⟨#[], #[], []⟩) #[.agg #[.slice none 0 0, .slice none 0 0]] rfl (by kernel_rfl) (by kernel_rfl) (by kernel_rfl)
      (OpenSpec.preRow_of_cond 8 hx (by kernel_rfl) (fun k hk => by cases hk) (by kernel_rfl) (laid_nil os _))) ?_
  intro W base args ds gs before hval hW _ _ hsz hL _ _
  exact contract H enc W base args ds gs before hval hW

theorem said : Rows.TreeCopiesSaid :=
  OpenClaim.holds_of_cond 6 Try.f6 rfl rfl rfl rfl rfl rfl rfl ⟨rfl, rfl, rfl, rfl, rfl⟩ rfl rfl rfl rfl rfl (by kernel_rfl) Try.func6 (by kernel_rfl)
    (of_decide_eq_true (by kernel_rfl)) (by unfold Func.isWrapper; first | (rw [if_pos (by decide +kernel)]; kernel_rfl) | (rw [if_neg (by decide +kernel)]; exact ⟨rfl, rfl⟩))
    (fun os started H enc _ F => by rw [OpenClaim.pre_eq_preRow]; exact lifted os started H enc F)
#print axioms said
end Go.Proofs.Ytpildlaloclanaa.treeCopies
