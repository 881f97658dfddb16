/-
  Worlds that differ in one row; a loop that ranges over a function leaves its marks.
-/
import Derived.Test.YthnefcafhpioaaaDeA
namespace Go.Proofs.Ythnefcafhpioaaa
open Go Go.RowKit Go.Shelf

/-- All that lay in a lies in b, but for the row g. -/
def Oth (g : Nat) (a b : World) : Prop := a.heap.size ≤ b.heap.size ∧ ∀ k, k < a.heap.size → k ≠ g → b.heap[k]? = a.heap[k]?
theorem Oth.refl (g : Nat) (a : World) : Oth g a a := ⟨Nat.le_refl _, fun _ _ _ => rfl⟩
theorem Oth.trans {g : Nat} {a b c : World} (h : Oth g a b) (k : Oth g b c) : Oth g a c := ⟨Nat.le_trans h.1 k.1, fun i hi hg => (k.2 i (Nat.lt_of_lt_of_le hi h.1) hg).trans (h.2 i hi hg)⟩
theorem Oth.below {g : Nat} {a b c : World} (h : Oth g a b) (k : Below a.heap.size b c) : Oth g a c := ⟨Nat.le_trans h.1 k.size, fun i hi hg => (k.block i hi).trans (h.2 i hi hg)⟩
theorem Oth.of {g : Nat} {a b : World} (h : Below a.heap.size a b) : Oth g a b := (Oth.refl g a).below h
theorem Oth.setCell {g : Nat} {a b : World} (h : Oth g a b) (o : Nat) (v : Value) : Oth g a (b.setCell ⟨g, o, none⟩ v) := ⟨by simpa [World.setCell] using h.1, fun i hi hg => (Below.heap_setCell _ _ _ _ (by simpa using hg)).trans (h.2 i hi hg)⟩
theorem Oth.cell {g : Nat} {a b : World} (h : Oth g a b) {p : Addr} (hp : p.block < a.heap.size) (hg : p.block ≠ g) : b.cell? p = a.cell? p := World.cell?_of_block (w := a) (h.2 p.block hp hg)
theorem Oth.blk {g : Nat} {a b : World} (h : Oth g a b) {k : Nat} {cs : Array Value} {t : TypeId} (hb : Blk a k cs t) (hg : k ≠ g) : Blk b k cs t := (h.2 k hb.lt hg).trans hb
theorem MOwn.below {B k : Nat} {w w' : World} {m : List Int} {g c : Nat} (h : MOwn B w m (some ⟨g, 0, none⟩) c) (hb : Below k w w') (hg : g < k) : MOwn B w' m (some ⟨g, 0, none⟩) c := by
  refine ⟨h.1, h.2.1, h.2.2.imp id ?_⟩
  rintro ⟨g', cs, e, hg', hB, hc⟩
  cases e
  exact ⟨g, cs, rfl, hg', hB.below hb hg, hc⟩
theorem WAt.oth {g : Nat} {a b : World} {x : List Int} {av : Option Addr} {m : List Int} {B c : Nat} (h : WAt a x av) (ho : Oth g a b) (hm : MOwn B a m (some ⟨g, 0, none⟩) c) (hl : 0 < x.length → 0 < m.length) : WAt b x av := by
  rcases h with h | ⟨g', rfl, hc⟩
  · exact .inl h
  · refine (Nat.eq_zero_or_pos x.length).imp id fun hx => ⟨g', rfl, fun i hi => ?_⟩
    obtain ⟨g2, e2, -, -, c2, -⟩ := hm.at (i := 0) (hl hx)
    cases e2
    have h0 := (hc 0 (by omega)).1
    have hg : g' ≠ g := fun e => by
      subst e
      rw [show (0 : Nat) * 2 = 0 from rfl, c2] at h0
      cases h0
    exact ⟨(ho.cell (p := ⟨g', i * 2, none⟩) (World.block_lt_of_cell? a _ (hc i hi).1) hg).trans (hc i hi).1, (ho.cell (p := ⟨g', i * 2 + 1, none⟩) (World.block_lt_of_cell? a _ (hc i hi).2) hg).trans (hc i hi).2⟩

/-- The marks that ranges over functions leave. -/
def marks (lD : List Nat) : List Deferred := lD.map fun D => { target := .collected D, args := #[] }
def putAll (w : World) (lD : List Nat) : World := lD.foldl (fun w D => w.putObj D (.deferred none)) w
theorem putAll_below (Z : Nat) : ∀ (lD : List Nat) (w : World), (∀ D ∈ lD, Z ≤ D) → Below Z w (putAll w lD)
  | [], w, _ => Below.refl _ _
  | D :: lD, w, h => (below_put Z w (h D (by simp)) _).trans (putAll_below Z lD _ fun E hE => h E (by simp [hE]))
theorem leaves_all {F : Fence} {n : Nat} {P : Program} {fn : Func} {tmps : Array Value} {R : Ending → World → Prop} : ∀ (lD : List Nat) (w : World), lD.Nodup → (∀ D ∈ lD, w.heap[D]? = some (.deferred (some []))) → LeavesInM F n P fn tmps R [] .returning (putAll w lD) → LeavesInM F n P fn tmps R (marks lD) .returning w
  | [], _, _, _, h => h
  | D :: lD, w, hn, hd, h => by
    obtain ⟨h1, h2⟩ := List.nodup_cons.1 hn
    refine ⟨by simp, .inl ⟨D, _, rfl, run_takeDeferred (hd D (by simp)), leaves_all lD _ h2 (fun E hE => ?_) h⟩⟩
    exact (World.putObj_heap_other (fun e : E = D => h1 (e ▸ hE))).trans (hd E (by simp [hE]))
theorem stM_take {n : Nat} {l : List (List Int)} {k : Nat} {p : List Int} (h : l[k]? = some p) : ptsM n (l.take (k + 1)) = layM n (ptsM n (l.take k)) p := by
  unfold ptsM
  rw [List.take_add_one, h, List.foldl_append]
  rfl
/-- What holds while Points goes through its points. -/
structure PtJ (N S X Y g : Nat) (l : List (List Int)) (w : World) (k : Nat) (lD : List Nat) (W : World) : Prop where
  own : MOwn (X + 2) W (ptsM (2 * N) (l.take k)) (some ⟨g, 0, none⟩) S
  bx : Blk W X #[.int .i64 (N : Int)] 3
  br : Blk W (X + 1) #[.int .i64 0, .bool false, .slice none 0 0] 24
  bm : Blk W Y #[.slice (some ⟨g, 0, none⟩) S S] 22
  low : Below X w W
  nd : lD.Nodup
  ds : ∀ D ∈ lD, Y < D ∧ W.heap[D]? = some (.deferred (some []))
theorem stb_first {l : Array Bool} {k : Nat} {p q : Prop} (h : (l.getD k false = false ∧ p) ∨ (l.getD k false = true ∧ q)) (h0 : l.getD k false = false) : p := by
  rcases h with ⟨-, h⟩ | ⟨h, -⟩
  · exact h
  · rw [h0] at h; cases h
theorem stb_last {l : Array Bool} {k : Nat} {p q : Prop} (h : (l.getD k false = false ∧ p) ∨ (l.getD k false = true ∧ q)) (h0 : l.getD k false = true) : q := by
  rcases h with ⟨h, -⟩ | ⟨-, h⟩
  · rw [h0] at h; cases h
  · exact h
theorem PtJ.step {N S X Y g : Nat} {l : List (List Int)} {w wr W0 A : World} {k : Nat} {lD : List Nat} {p : List Int} {D : Nat} (h : PtJ N S X Y g l w k lD wr) (hp : l[k]? = some p) (hg : g < Y) (hX : X + 2 ≤ g) (hb : Below wr.heap.size wr W0) (ho : Oth g W0 A) (hl : Below X w A) (hm : MOwn (X + 2) A (layM (2 * N) (ptsM (2 * N) (l.take k)) p) (some ⟨g, 0, none⟩) S) (hD : W0.heap.size ≤ D) (hd : A.heap[D]? = some (.deferred (some []))) : PtJ N S X Y g l w (k + 1) (D :: lD) A := by
  have hlt : ∀ E ∈ lD, E < wr.heap.size := fun E hE => (Array.getElem?_eq_some_iff.1 (h.ds E hE).2).1
  have hsz := hb.size
  refine ⟨by rw [stM_take hp]; exact hm, ho.blk (h.bx.below hb h.bx.lt) (by omega), ho.blk (h.br.below hb h.br.lt) (by omega), ho.blk (h.bm.below hb h.bm.lt) (by omega), hl, List.nodup_cons.2 ⟨fun e => by have := hlt D e; omega, h.nd⟩, fun E hE => ?_⟩
  rcases List.mem_cons.1 hE with rfl | hE
  · exact ⟨by have := h.bm.lt; omega, hd⟩
  · have h1 := h.ds E hE
    have h2 := hlt E hE
    exact ⟨h1.1, ((ho.2 E (by omega) (by omega)).trans (hb.block E h2)).trans h1.2⟩
end Go.Proofs.Ythnefcafhpioaaa
