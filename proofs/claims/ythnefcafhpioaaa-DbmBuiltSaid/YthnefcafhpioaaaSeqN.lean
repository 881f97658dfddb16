/-
  A law for 'for .. := range f' where the body keeps what it makes: the iterator turns own blocks of its own alone.
-/
import Derived.Test.YthnefcafhpioaaaSeqK
namespace Go.Proofs.Ythnefcafhpioaaa
open Go Go.RowKit

/-- All that lay in A lies in B, but for the blocks from lo up to hi. -/
structure Nb (lo hi : Nat) (A B : World) : Prop where
  os : B.os = A.os
  tape : B.tape = A.tape
  output : B.output = A.output
  size : A.heap.size ≤ B.heap.size
  low : lo ≤ A.heap.size
  block : ∀ k, k < A.heap.size → k < lo ∨ hi ≤ k → B.heap[k]? = A.heap[k]?
theorem Nb.of {lo hi k : Nat} {A B : World} (h : Below k A B) (hk : k = A.heap.size) (hl : lo ≤ A.heap.size) : Nb lo hi A B := by subst hk; exact ⟨h.os, h.tape, h.output, h.size, hl, fun k hk _ => h.block k hk⟩
theorem Nb.trans {lo hi : Nat} {A B C : World} (h : Nb lo hi A B) (k : Nb lo hi B C) : Nb lo hi A C := ⟨k.os.trans h.os, k.tape.trans h.tape, k.output.trans h.output, Nat.le_trans h.size k.size, h.low, fun i hi h2 => (k.block i (Nat.lt_of_lt_of_le hi h.size) h2).trans (h.block i hi h2)⟩
theorem Nb.widen {lo hi lo' hi' : Nat} {A B : World} (h : Nb lo hi A B) (h1 : lo' ≤ lo) (h2 : hi ≤ hi') : Nb lo' hi' A B := ⟨h.os, h.tape, h.output, h.size, Nat.le_trans h1 h.low, fun k hk h3 => h.block k hk (by omega)⟩
theorem Nb.put {lo hi l : Nat} {A : World} (o : Obj) (h1 : lo ≤ l) (h2 : l < hi) (h3 : lo ≤ A.heap.size) : Nb lo hi A (A.putObj l o) := ⟨rfl, rfl, rfl, by simp, h3, fun k _ h => World.putObj_heap_other (by omega)⟩
theorem Nb.below {lo hi : Nat} {A B : World} (h : Nb lo hi A B) : Below lo A B := ⟨h.os, h.tape, h.output, h.size, fun k hk => h.block k (Nat.lt_of_lt_of_le hk h.low) (.inl hk)⟩
theorem Nb.cell {lo hi : Nat} {A B : World} (h : Nb lo hi A B) {p : Addr} {v : Value} (hc : A.cell? p = some v) (hp : p.block < lo ∨ hi ≤ p.block) : B.cell? p = some v := (World.cell?_of_block (w := A) (h.block p.block (World.block_lt_of_cell? A _ hc) hp)).trans hc
theorem Nb.blk {lo hi k : Nat} {A B : World} {cs : Array Value} {t : TypeId} (h : Nb lo hi A B) (hb : Blk A k cs t) (hk : k < lo ∨ hi ≤ k) : Blk B k cs t := (h.block k hb.lt hk).trans hb

/-- An iterator's contract, as SeqOf; its rounds keep K. -/
def SeqN {α : Type} (own : Nat) (P : Program) (g : Nat) (lb : Array Value) (encs : α → Array Value) (xs : List α) (K : World → Prop) (w : World) : Prop :=
  ∀ (l : Nat) (J Jx : List α → World → Prop) (W : World), Below w.heap.size w W →
    (∀ pre A B, J pre A → Nb W.heap.size (W.heap.size + own) A B → J pre B) → (∀ pre A B, Jx pre A → Nb W.heap.size (W.heap.size + own) A B → Jx pre B) → (∀ pre A, J pre A → K A) →
    (∀ pre x W1, J pre W1 → pre ++ [x] <+: xs → W.heap.size + own ≤ W1.heap.size → YieldAt Fence.wide 2 P l (encs x) W1 fun e W' =>
      (e = .returned (.bool true) ∧ J (pre ++ [x]) W' ∧ Above W.heap.size W1 W') ∨ (e = .returned (.bool false) ∧ Jx (pre ++ [x]) W' ∧ Above W.heap.size W1 W')) →
    J [] W →
    Calls P g (#[.func (.yield l) #[] #[]] ++ lb) W fun e W' => (∃ v, e = .returned v) ∧ (J xs W' ∨ ∃ pre, pre <+: xs ∧ Jx pre W')

theorem wp_rangeFunc_oneN {α : Type} {P : Program} {g : Operand} {ps : Array Tmp} {assign body : Code} {Q : Exit → Act → World → Prop} {a : Act} {w : World}
    {gf : Nat} {lb : Array Value} (hg : a.eval g = .func (.func gf) #[] lb) (eg : ∀ args w, (callFunc gf args).run P w = .ok (.enter gf args) w)
    {encs : α → Array Value} {xs : List α} {w0 : World} {own : Nat} {K : World → Prop} (hseq : SeqN own P gf lb encs xs K w0) (hb0 : Below w0.heap.size w0 w) (hps : ∀ x, (encs x).size = ps.size)
    (I : List α → World → Prop) (Ix : Code → List α → World → Prop)
    (hI : ∀ pre A B, I pre A → Nb w.heap.size (w.heap.size + 2 + own) A B → I pre B) (hIx : ∀ c pre A B, Ix c pre A → Nb w.heap.size (w.heap.size + 2 + own) A B → Ix c pre B)
    (hIK : ∀ pre A, I pre A → K A) (h0 : I [] w)
    (hround : ∀ (l : Nat) (pre : List α) (x : α) (W : World), I pre W → pre ++ [x] <+: xs → w.heap.size + 2 + own ≤ W.heap.size → l = w.heap.size + 1 →
      assign.wpIn (Fence.wide.inRound l) 2 P (Exit.then (fun a1 W1 => Above w.heap.size W W1 ∧ ∀ (r o' : Loop), W1.heap[l]? = some (.loop r) → body.wpIn (Fence.wide.inRound l) 2 P (postOf w.heap.size I Ix (pre ++ [x]) (W1.putObj l (.loop o'))) a1 (W1.putObj l (.loop o'))) (fun _ _ _ => False))
        { tmps := (ps.zip (encs x)).foldl (fun t (p, v) => t.setIfInBounds p v) a.tmps, defers := [] } W)
    (hdone : ∀ (D : Nat) (W : World), D = w.heap.size → I xs W → W.heap[D]? = some (.deferred (some [])) → Q .normal { a with defers := { target := .collected D, args := #[] } :: a.defers } W)
    (hstop : ∀ (D : Nat) (c : Code) (pre : List α) (W : World), D = w.heap.size → pre <+: xs → Ix c pre W → W.heap[D]? = some (.deferred (some [])) → c.wp P Q { a with defers := { target := .collected D, args := #[] } :: a.defers } W) :
    (Code.rangeFunc g ps assign body).wp P Q a w := by
  refine (wpIn_wide (n := 3)).1 ?_
  refine wpIn_rangeFunc ?_
  intro fn hfn
  rw [Fence.wide_round]
  obtain ⟨rec, hrec⟩ : ∃ rec : LoopState → Option Code → Loop, rec = fun st pe => { state := st, pending := pe, fn, tmps := a.tmps, params := ps, assign, body, defers := w.heap.size } := ⟨_, rfl⟩
  obtain ⟨W1, hW1⟩ : ∃ W1, (w.alloc (.deferred (some []))).alloc (.loop (rec .ready none)) = W1 := ⟨_, rfl⟩
  have hL1 : W1.heap[w.heap.size + 1]? = some (.loop (rec .ready none)) := by
    rw [← hW1]; have := World.alloc_heap_new (w.alloc (.deferred (some []))) (.loop (rec .ready none)); rwa [World.size_alloc] at this
  have hK1 : W1.heap[w.heap.size]? = some (.deferred (some [])) := by
    rw [← hW1]; exact (Below.heap_alloc _ _ _ (by simp)).trans (World.alloc_heap_new w _)
  have hBw : Below w.heap.size w W1 := by rw [← hW1]; exact ((Below.refl _ w).alloc (Nat.le_refl _) _).alloc (by simp) _
  have hI1 : I [] W1 := hI _ _ _ h0 (Nb.of hBw rfl (Nat.le_refl _))
  have hs1 : W1.heap.size = w.heap.size + 2 := by rw [← hW1]; simp
  have hb1 : Below w0.heap.size w0 W1 := hb0.trans (hBw.mono hb0.size)
  refine ⟨w.heap.size + 1, [{ target := .collected w.heap.size, args := #[] }], W1, { target := .fn (.func gf) lb, args := #[.func (.yield (w.heap.size + 1)) #[] #[]] }, W1, gf,
    #[.func (.yield (w.heap.size + 1)) #[] #[]] ++ lb, W1, ?_, ?_, fun _ _ => trivial, ?_, fun h => by simp [Fence.wide] at h, ?_⟩
  · rw [← hW1, hrec]; exact run_enterLoop_outer _ _ _ _ _
  · simp only [resolve, hg]
    simp [go_sem]
  · simp [invoke, go_sem, eg]
  · refine callsIn_wide.2 ?_
    refine (hseq (w.heap.size + 1)
      (fun pre W => I pre W ∧ W.heap[w.heap.size + 1]? = some (.loop (rec .ready none)) ∧ W.heap[w.heap.size]? = some (.deferred (some [])))
      (fun pre W => ∃ c, Ix c pre W ∧ W.heap[w.heap.size + 1]? = some (.loop (rec .done (some c))) ∧ W.heap[w.heap.size]? = some (.deferred (some [])))
      W1 hb1
      (fun pre A B hs hb => ⟨hI _ _ _ hs.1 (hb.widen (by omega) (by omega)), (hb.block _ (Array.getElem?_eq_some_iff.1 hs.2.1).1 (.inl (by omega))).trans hs.2.1, (hb.block _ (Array.getElem?_eq_some_iff.1 hs.2.2).1 (.inl (by omega))).trans hs.2.2⟩)
      (fun pre A B hs hb => by
        obtain ⟨c, hc, hl, hk⟩ := hs
        exact ⟨c, hIx c _ _ _ hc (hb.widen (by omega) (by omega)), (hb.block _ (Array.getElem?_eq_some_iff.1 hl).1 (.inl (by omega))).trans hl, (hb.block _ (Array.getElem?_eq_some_iff.1 hk).1 (.inl (by omega))).trans hk⟩)
      (fun pre A hs => hIK _ _ hs.1) ?_ ⟨hI1, hL1, hK1⟩).mono ?_
    · -- one round
      rintro pre x W ⟨hi, hl, hk⟩ hpre hsz
      have hlt : w.heap.size + 1 < W.heap.size := (Array.getElem?_eq_some_iff.1 hl).1
      have hy := run_yield (P := P) (args := encs x) hl (by rw [hrec]; exact hps x)
      rw [hrec] at hy
      refine ⟨fn, _, assign, body, hy, roundIn_of_wpIn hfn ?_⟩
      refine wpIn_mono (hround (w.heap.size + 1) pre x W hi hpre (by omega) rfl) ?_
      rintro e a1 Wa hp
      cases e with
      | normal =>
        obtain ⟨hab, hm⟩ := hp
        have hla : Wa.heap[w.heap.size + 1]? = some (.loop (rec .ready none)) := (hab.block _ (by omega) hlt).trans hl
        have hka : Wa.heap[w.heap.size]? = some (.deferred (some [])) := (hab.block _ (by omega) (by omega)).trans hk
        have hlta := (Array.getElem?_eq_some_iff.1 hla).1
        refine ⟨_, run_beginRound hla (by rw [hrec]), ?_⟩
        have hl2 : (Wa.putObj (w.heap.size + 1) (.loop { rec .ready none with state := .busy })).heap[w.heap.size + 1]? = some (.loop { rec .ready none with state := .busy }) := World.putObj_heap_same hlta
        have hk2 : (Wa.putObj (w.heap.size + 1) (.loop { rec .ready none with state := .busy })).heap[w.heap.size]? = some (.deferred (some [])) := (World.putObj_heap_other (by omega)).trans hka
        refine wpIn_mono (hm _ _ hla) ?_
        have fin : ∀ (jump : Option Code) (W3 : World), Above w.heap.size (Wa.putObj (w.heap.size + 1) (.loop { rec .ready none with state := .busy })) W3 →
            (Instr.endRound (w.heap.size + 1) jump).run P W3 = .ok (.bool jump.isNone) (W3.putObj (w.heap.size + 1) (.loop (rec (if jump.isNone then .ready else .done) jump))) ∧
            (W3.putObj (w.heap.size + 1) (.loop (rec (if jump.isNone then .ready else .done) jump))).heap[w.heap.size + 1]? = some (.loop (rec (if jump.isNone then .ready else .done) jump)) ∧
            (W3.putObj (w.heap.size + 1) (.loop (rec (if jump.isNone then .ready else .done) jump))).heap[w.heap.size]? = some (.deferred (some [])) ∧
            Above W1.heap.size W (W3.putObj (w.heap.size + 1) (.loop (rec (if jump.isNone then .ready else .done) jump))) := fun jump W3 hk3 => by
          have hl3 := (hk3.block (w.heap.size + 1) (by omega) (by simp; omega)).trans hl2
          have hk3' := (hk3.block w.heap.size (by omega) (by simp; omega)).trans hk2
          have := run_endRound (P := P) jump hl3
          rw [hrec] at this
          refine ⟨by rw [hrec]; exact this, World.putObj_heap_same (Array.getElem?_eq_some_iff.1 hl3).1, (World.putObj_heap_other (by omega)).trans hk3', ?_⟩
          exact ((((hab.mono (by omega)).put (by omega) _).trans (hk3.mono (by omega))).put (by omega) _)
        rintro e a3 W3 hp
        cases e with
        | normal =>
          obtain ⟨hk3, hi3⟩ := hp
          obtain ⟨hr, hl4, hk4, hab4⟩ := fin none W3 hk3
          have hLL := (hk3.block w.heap.size (by omega) (by simp; omega)).trans hk2
          exact ⟨_, _, hr, .inl ⟨rfl, ⟨hI _ _ _ hi3 (Nb.put _ (by omega) (by omega) (by have := (Array.getElem?_eq_some_iff.1 hLL).1; omega)), hl4, hk4⟩, hab4⟩⟩
        | ret =>
          obtain ⟨hk3, hi3⟩ := hp
          obtain ⟨hr, hl4, hk4, hab4⟩ := fin (some .ret) W3 hk3
          have hLL := (hk3.block w.heap.size (by omega) (by simp; omega)).trans hk2
          exact ⟨_, _, hr, .inr ⟨rfl, ⟨.ret, hIx _ _ _ _ hi3 (Nb.put _ (by omega) (by omega) (by have := (Array.getElem?_eq_some_iff.1 hLL).1; omega)), hl4, hk4⟩, hab4⟩⟩
        | exit id =>
          obtain ⟨hk3, hi3⟩ := hp
          obtain ⟨hr, hl4, hk4, hab4⟩ := fin (some (.exit id)) W3 hk3
          have hLL := (hk3.block w.heap.size (by omega) (by simp; omega)).trans hk2
          exact ⟨_, _, hr, .inr ⟨rfl, ⟨.exit id, hIx _ _ _ _ hi3 (Nb.put _ (by omega) (by omega) (by have := (Array.getElem?_eq_some_iff.1 hLL).1; omega)), hl4, hk4⟩, hab4⟩⟩
        | goto t =>
          obtain ⟨hk3, hi3⟩ := hp
          obtain ⟨hr, hl4, hk4, hab4⟩ := fin (some (.goto t)) W3 hk3
          have hLL := (hk3.block w.heap.size (by omega) (by simp; omega)).trans hk2
          exact ⟨_, _, hr, .inr ⟨rfl, ⟨.goto t, hIx _ _ _ _ hi3 (Nb.put _ (by omega) (by omega) (by have := (Array.getElem?_eq_some_iff.1 hLL).1; omega)), hl4, hk4⟩, hab4⟩⟩
        | panic ch => exact hp.elim
        | outgrown => exact hp.elim
      | exit id => exact hp.elim
      | goto t => exact hp.elim
      | ret => exact hp.elim
      | panic chain => exact hp.elim
      | outgrown => exact hp.elim
    · -- behind the iterator
      rintro e W2 ⟨⟨v, rfl⟩, (⟨hi, hl, hk⟩ | ⟨pre, hpre, c, hi, hl, hk⟩)⟩
      · have hLL := hk
        exact ⟨none, _, by have := run_endLoop (P := P) hl (by rw [hrec]; simp); rw [hrec] at this; exact this, hdone _ _ rfl (hI _ _ _ hi (Nb.put _ (by omega) (by omega) (by have := (Array.getElem?_eq_some_iff.1 hLL).1; omega))) ((World.putObj_heap_other (by omega)).trans hk)⟩
      · have hLL := hk
        exact ⟨some c, _, by have := run_endLoop (P := P) hl (by rw [hrec]; simp); rw [hrec] at this; exact this, wpIn_wide.2 (hstop _ c pre _ rfl hpre (hIx c _ _ _ hi (Nb.put _ (by omega) (by omega) (by have := (Array.getElem?_eq_some_iff.1 hLL).1; omega))) ((World.putObj_heap_other (by omega)).trans hk))⟩


/-- What turns nothing below the call is such an iterator, too. -/
theorem SeqN.toK {α : Type} {own : Nat} {P : Program} {g : Nat} {lb : Array Value} {encs : α → Array Value} {xs : List α} {K : World → Prop} {w : World} (h : SeqN own P g lb encs xs K w) : SeqK P g lb encs xs K w :=
  fun l J Jx W hW hJ hJx hK hY h0 => h l J Jx W hW (fun pre A B hj hb => hJ pre A B hj hb.below) (fun pre A B hj hb => hJx pre A B hj hb.below) hK (fun pre x W1 hj hp _ => hY pre x W1 hj hp) h0
end Go.Proofs.Ythnefcafhpioaaa
