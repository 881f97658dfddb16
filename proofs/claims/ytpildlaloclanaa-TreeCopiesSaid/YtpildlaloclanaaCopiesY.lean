/-
  The project's Copy of a program (tree's): proved is that it tells the same program in blocks of its own, or the error.
-/
import Derived.Test.YtpildlaloclanaaOne
import Derived.Test.YtpildlaloclanaaTwalkS
import Derived.Test.YtpildlaloclanaaPlainB
import Derived.Test.YtpildlaloclanaaCopiesX
import Derived.Test.YtpildlaloclanaaEqualP
import Derived.Test.YtpildlaloclanaaSameS
import Derived.Deep.RegionHeld3
import Derived.Test.YtpildlaloclanaaCheckR
/-
  Trees in memory whose lists have blocks of their own, from one block to another, none in two parts: plain facts.
-/
namespace Go.Proofs.Ytpildlaloclanaa
open Go Go.RowKit

/-- A list lies in a block of its own, from lo on; what is within it, in the blocks behind, to hi. -/
def SpV (w : World) (ty : Ty) (len : Nat) (row : Nat → Nat → Nat → Nat → Prop) (v : Value) (lo hi : Nat) : Prop :=
  (len = 0 ∧ v = .slice none 0 0 ∧ lo ≤ hi) ∨ ∃ b cs, v = .slice (some ⟨b, 0, none⟩) len len ∧ lo ≤ b ∧ len ≤ maxLen ∧ Blk w b cs (tyId ty) ∧ row b 0 (b + 1) hi
mutual
def SpN (w : World) : Nd → List Value → Nat → Nat → Prop
  | .mk ty k n s xs cs ts es, vs, lo, hi => fits ty k n s xs cs ts es ∧ i64ok k ∧ i64ok n ∧ s.size ≤ maxLen ∧ ∃ vx vc vt ve m1 m2 m3, vs = lay ty k n s vx vc vt ve ∧
      SpV w .E xs.length (fun b o l h => SpR w .E xs b o l h) vx lo m1 ∧ SpV w .C cs.length (fun b o l h => SpR w .C cs b o l h) vc m1 m2 ∧ SpV w .S ts.length (fun b o l h => SpR w .S ts b o l h) vt m2 m3 ∧ SpV w .S es.length (fun b o l h => SpR w .S es b o l h) ve m3 hi
def SpR (w : World) : Ty → List Nd → Nat → Nat → Nat → Nat → Prop
  | _, [], _, _, lo, hi => lo ≤ hi
  | ty, x :: r, b, o, lo, hi => ∃ m, (x.ty = ty ∧ ∃ vs, (∀ j u, vs[j]? = some u → w.cell? ⟨b, o + j, none⟩ = some u) ∧ SpN w x vs lo m) ∧ SpR w ty r b (o + ty.size) m hi
end
/-- A list of nodes that has blocks of its own. -/
def SpL (w : World) (ty : Ty) (l : List Nd) (v : Value) (lo hi : Nat) : Prop := SpV w ty l.length (fun b o lo hi => SpR w ty l b o lo hi) v lo hi

theorem SpV.le {w : World} {ty : Ty} {len : Nat} {row : Nat → Nat → Nat → Nat → Prop} {v : Value} {lo hi : Nat} (h : SpV w ty len row v lo hi) (hr : ∀ b o l h, row b o l h → l ≤ h) : lo ≤ hi := by
  rcases h with ⟨_, _, h⟩ | ⟨b, cs, _, h1, _, _, h2⟩
  · exact h
  · have := hr _ _ _ _ h2
    omega
mutual
theorem SpN.le {w : World} : ∀ (x : Nd) (vs : List Value) (lo hi : Nat), SpN w x vs lo hi → lo ≤ hi
  | .mk ty k n s xs cs ts es, vs, lo, hi, h => by
    unfold SpN at h
    obtain ⟨-, -, -, -, vx, vc, vt, ve, m1, m2, m3, -, h1, h2, h3, h4⟩ := h
    have a1 := h1.le (fun b o l h => SpR.le .E xs b o l h)
    have a2 := h2.le (fun b o l h => SpR.le .C cs b o l h)
    have a3 := h3.le (fun b o l h => SpR.le .S ts b o l h)
    have a4 := h4.le (fun b o l h => SpR.le .S es b o l h)
    omega
theorem SpR.le {w : World} : ∀ (ty : Ty) (l : List Nd) (b o lo hi : Nat), SpR w ty l b o lo hi → lo ≤ hi
  | _, [], _, _, _, _, h => by unfold SpR at h; exact h
  | ty, x :: r, b, o, lo, hi, h => by
    unfold SpR at h
    obtain ⟨m, ⟨_, vs, _, h1⟩, h2⟩ := h
    have a1 := SpN.le x vs lo m h1
    have a2 := SpR.le ty r b _ m hi h2
    omega
end
theorem SpL.le {w : World} {ty : Ty} {l : List Nd} {v : Value} {lo hi : Nat} (h : SpL w ty l v lo hi) : lo ≤ hi := SpV.le h (fun b o l' h => SpR.le ty l b o l' h)
theorem SpV.toSl {w : World} {ty : Ty} {len : Nat} {row : Nat → Nat → Nat → Nat → Prop} {row2 : Nat → Nat → Prop} {v : Value} {lo hi : Nat} (h : SpV w ty len row v lo hi) (hr : ∀ b o l h, row b o l h → row2 b o) : SlOf len row2 v := by
  rcases h with ⟨h1, h2, _⟩ | ⟨b, cs, h1, _, h2, _, h3⟩
  · exact ⟨none, 0, by rw [h2, h1], by omega, Nat.zero_le _, .inl h1⟩
  · exact ⟨_, _, h1, Nat.le_refl _, h2, .inr ⟨b, 0, rfl, hr _ _ _ _ h3⟩⟩
mutual
theorem SpN.toIn {w : World} : ∀ (x : Nd) (vs : List Value) (lo hi : Nat), SpN w x vs lo hi → NdIn w x vs
  | .mk ty k n s xs cs ts es, vs, lo, hi, h => by
    unfold SpN at h
    obtain ⟨f1, f2, f3, f4, vx, vc, vt, ve, m1, m2, m3, hv, h1, h2, h3, h4⟩ := h
    unfold NdIn
    exact ⟨f1, f2, f3, f4, vx, vc, vt, ve, hv, h1.toSl (fun b o l h => SpR.toIn .E xs b o l h), h2.toSl (fun b o l h => SpR.toIn .C cs b o l h), h3.toSl (fun b o l h => SpR.toIn .S ts b o l h), h4.toSl (fun b o l h => SpR.toIn .S es b o l h)⟩
theorem SpR.toIn {w : World} : ∀ (ty : Ty) (l : List Nd) (b o lo hi : Nat), SpR w ty l b o lo hi → RowIn w ty l b o
  | _, [], _, _, _, _, _ => by unfold RowIn; trivial
  | ty, x :: r, b, o, lo, hi, h => by
    unfold SpR at h
    obtain ⟨m, ⟨h0, vs, hc, h1⟩, h2⟩ := h
    unfold RowIn
    exact ⟨⟨h0, vs, hc, SpN.toIn x vs lo m h1⟩, SpR.toIn ty r b _ m hi h2⟩
end
theorem SpL.toIn {w : World} {ty : Ty} {l : List Nd} {v : Value} {lo hi : Nat} (h : SpL w ty l v lo hi) : SlIn w ty l v := SpV.toSl h (fun b o l' h => SpR.toIn ty l b o l' h)

theorem SpV.keep {w w' : World} {ty : Ty} {len : Nat} {row row' : Nat → Nat → Nat → Nat → Prop} {v : Value} {lo hi : Nat} (h : SpV w ty len row v lo hi) (hk : ∀ k, lo ≤ k → k < hi → w'.heap[k]? = w.heap[k]?) (hle : ∀ b o l h, row b o l h → l ≤ h)
    (hr : ∀ b l h, lo ≤ b → b < l → l ≤ h → h ≤ hi → w'.heap[b]? = w.heap[b]? → row b 0 l h → row' b 0 l h) : SpV w' ty len row' v lo hi := by
  rcases h with h | ⟨b, cs, h1, h2, h3, h4, h5⟩
  · exact .inl h
  · have a := hle _ _ _ _ h5
    have e := hk b h2 (by omega)
    exact .inr ⟨b, cs, h1, h2, h3, e.trans h4, hr b (b + 1) hi h2 (by omega) a (Nat.le_refl _) e h5⟩
mutual
theorem SpN.keep {w w' : World} : ∀ (x : Nd) (vs : List Value) (lo hi : Nat), (∀ k, lo ≤ k → k < hi → w'.heap[k]? = w.heap[k]?) → SpN w x vs lo hi → SpN w' x vs lo hi
  | .mk ty k n s xs cs ts es, vs, lo, hi, hk, h => by
    unfold SpN at h ⊢
    obtain ⟨f1, f2, f3, f4, vx, vc, vt, ve, m1, m2, m3, hv, h1, h2, h3, h4⟩ := h
    have a1 := h1.le (fun b o l h => SpR.le .E xs b o l h)
    have a2 := h2.le (fun b o l h => SpR.le .C cs b o l h)
    have a3 := h3.le (fun b o l h => SpR.le .S ts b o l h)
    have a4 := h4.le (fun b o l h => SpR.le .S es b o l h)
    refine ⟨f1, f2, f3, f4, vx, vc, vt, ve, m1, m2, m3, hv, h1.keep (fun q p1 p2 => hk q (by omega) (by omega)) (fun b o l h => SpR.le .E xs b o l h) ?_, h2.keep (fun q p1 p2 => hk q (by omega) (by omega)) (fun b o l h => SpR.le .C cs b o l h) ?_, h3.keep (fun q p1 p2 => hk q (by omega) (by omega)) (fun b o l h => SpR.le .S ts b o l h) ?_, h4.keep (fun q p1 p2 => hk q (by omega) (by omega)) (fun b o l h => SpR.le .S es b o l h) ?_⟩
    · intro b l h p1 p2 p3 p4 e hr
      exact SpR.keep .E xs b 0 l h (fun q p1 p2 => hk q (by omega) (by omega)) (fun j u _ hc => (World.cell?_of_block (a := ⟨b, 0 + j, none⟩) e).trans hc) hr
    · intro b l h p1 p2 p3 p4 e hr
      exact SpR.keep .C cs b 0 l h (fun q p1 p2 => hk q (by omega) (by omega)) (fun j u _ hc => (World.cell?_of_block (a := ⟨b, 0 + j, none⟩) e).trans hc) hr
    · intro b l h p1 p2 p3 p4 e hr
      exact SpR.keep .S ts b 0 l h (fun q p1 p2 => hk q (by omega) (by omega)) (fun j u _ hc => (World.cell?_of_block (a := ⟨b, 0 + j, none⟩) e).trans hc) hr
    · intro b l h p1 p2 p3 p4 e hr
      exact SpR.keep .S es b 0 l h (fun q p1 p2 => hk q (by omega) (by omega)) (fun j u _ hc => (World.cell?_of_block (a := ⟨b, 0 + j, none⟩) e).trans hc) hr
theorem SpR.keep {w w' : World} : ∀ (ty : Ty) (l : List Nd) (b o lo hi : Nat), (∀ k, lo ≤ k → k < hi → w'.heap[k]? = w.heap[k]?) → (∀ j u, j < l.length * ty.size → w.cell? ⟨b, o + j, none⟩ = some u → w'.cell? ⟨b, o + j, none⟩ = some u) → SpR w ty l b o lo hi → SpR w' ty l b o lo hi
  | _, [], _, _, _, _, _, _, h => by unfold SpR at h ⊢; exact h
  | ty, x :: r, b, o, lo, hi, hk, hc, h => by
    unfold SpR at h ⊢
    obtain ⟨m, ⟨h0, vs, hv, h1⟩, h2⟩ := h
    have a1 := SpN.le x vs lo m h1
    have a2 := SpR.le ty r b _ m hi h2
    have hlen := (SpN.toIn x vs lo m h1).len
    rw [h0] at hlen
    have hmul : (x :: r).length * ty.size = r.length * ty.size + ty.size := by rw [List.length_cons, Nat.add_mul, Nat.one_mul]
    refine ⟨m, ⟨h0, vs, fun j u hj => hc j u (by have := (List.getElem?_eq_some_iff.1 hj).1; omega) (hv j u hj), SpN.keep x vs lo m (fun q p1 p2 => hk q p1 (by omega)) h1⟩, SpR.keep ty r b _ m hi (fun q p1 p2 => hk q (by omega) p2) (fun j u hj hu => ?_) h2⟩
    have := hc (ty.size + j) u (by omega) (by rw [← Nat.add_assoc]; exact hu)
    rwa [← Nat.add_assoc] at this
end
theorem SpL.keep {w w' : World} {ty : Ty} {l : List Nd} {v : Value} {lo hi : Nat} (h : SpL w ty l v lo hi) (hk : ∀ k, lo ≤ k → k < hi → w'.heap[k]? = w.heap[k]?) : SpL w' ty l v lo hi :=
  SpV.keep h hk (fun b o l' h => SpR.le ty l b o l' h) (fun b l' h p1 p2 p3 p4 e hr => SpR.keep ty l b 0 l' h (fun q q1 q2 => hk q (by omega) (by omega)) (fun j u _ hc => (World.cell?_of_block (a := ⟨b, 0 + j, none⟩) e).trans hc) hr)
theorem SpV.lo {w : World} {ty : Ty} {len : Nat} {row : Nat → Nat → Nat → Nat → Prop} {v : Value} {lo lo' hi : Nat} (h : SpV w ty len row v lo hi) (hl : lo' ≤ lo) : SpV w ty len row v lo' hi := by
  rcases h with ⟨h1, h2, h3⟩ | ⟨b, cs, h1, h2, h3⟩
  · exact .inl ⟨h1, h2, by omega⟩
  · exact .inr ⟨b, cs, h1, by omega, h3⟩
theorem SpN.lo {w : World} {x : Nd} {vs : List Value} {lo lo' hi : Nat} (h : SpN w x vs lo hi) (hl : lo' ≤ lo) : SpN w x vs lo' hi := by
  obtain ⟨ty, k, n, s, xs, cs, ts, es⟩ := x
  unfold SpN at h ⊢
  obtain ⟨f1, f2, f3, f4, vx, vc, vt, ve, m1, m2, m3, hv, h1, h2⟩ := h
  exact ⟨f1, f2, f3, f4, vx, vc, vt, ve, m1, m2, m3, hv, h1.lo hl, h2⟩
theorem SpV.nil (w : World) (ty : Ty) (row : Nat → Nat → Nat → Nat → Prop) {lo hi : Nat} (h : lo ≤ hi) : SpV w ty 0 row (.slice none 0 0) lo hi := .inl ⟨rfl, rfl, h⟩
mutual
theorem SpN.hi {w : World} : ∀ (x : Nd) (vs : List Value) (lo hi hi' : Nat), SpN w x vs lo hi → hi ≤ hi' → SpN w x vs lo hi'
  | .mk ty k n s xs cs ts es, vs, lo, hi, hi', h, hl => by
    unfold SpN at h ⊢
    obtain ⟨f1, f2, f3, f4, vx, vc, vt, ve, m1, m2, m3, hv, h1, h2, h3, h4⟩ := h
    refine ⟨f1, f2, f3, f4, vx, vc, vt, ve, m1, m2, m3, hv, h1, h2, h3, ?_⟩
    rcases h4 with ⟨p1, p2, p3⟩ | ⟨b, cs, p1, p2, p3, p4, p5⟩
    · exact .inl ⟨p1, p2, by omega⟩
    · exact .inr ⟨b, cs, p1, p2, p3, p4, SpR.hi .S es b 0 _ hi hi' p5 hl⟩
theorem SpR.hi {w : World} : ∀ (ty : Ty) (l : List Nd) (b o lo hi hi' : Nat), SpR w ty l b o lo hi → hi ≤ hi' → SpR w ty l b o lo hi'
  | _, [], _, _, _, _, _, h, hl => by unfold SpR at h ⊢; omega
  | ty, x :: r, b, o, lo, hi, hi', h, hl => by
    unfold SpR at h ⊢
    obtain ⟨m, h1, h2⟩ := h
    exact ⟨m, h1, SpR.hi ty r b _ m hi hi' h2 hl⟩
end
theorem SpL.hi {w : World} {ty : Ty} {l : List Nd} {v : Value} {lo hi hi' : Nat} (h : SpL w ty l v lo hi) (hl : hi ≤ hi') : SpL w ty l v lo hi' := by
  rcases h with ⟨p1, p2, p3⟩ | ⟨b, cs, p1, p2, p3, p4, p5⟩
  · exact .inl ⟨p1, p2, by omega⟩
  · exact .inr ⟨b, cs, p1, p2, p3, p4, SpR.hi ty l b 0 _ hi hi' p5 hl⟩
theorem SpR.snoc {w : World} {ty : Ty} {x : Nd} {vs : List Value} : ∀ (l : List Nd) (b o lo m hi : Nat), SpR w ty l b o lo m → x.ty = ty → (∀ j u, vs[j]? = some u → w.cell? ⟨b, o + l.length * ty.size + j, none⟩ = some u) → SpN w x vs m hi → SpR w ty (l ++ [x]) b o lo hi
  | [], b, o, lo, m, hi, h, hx, hc, hn => by
    unfold SpR at h
    rw [List.nil_append]
    unfold SpR
    refine ⟨hi, ⟨hx, vs, fun j u hj => ?_, hn.lo h⟩, ?_⟩
    · have := hc j u hj
      simpa using this
    · unfold SpR
      exact Nat.le_refl _
  | y :: r, b, o, lo, m, hi, h, hx, hc, hn => by
    unfold SpR at h
    obtain ⟨q, h1, h2⟩ := h
    rw [List.cons_append]
    unfold SpR
    refine ⟨q, h1, SpR.snoc r b _ q m hi h2 hx (fun j u hj => ?_) hn⟩
    have := hc j u hj
    rwa [show o + (y :: r).length * ty.size + j = o + ty.size + r.length * ty.size + j by rw [List.length_cons, Nat.add_mul, Nat.one_mul]; omega] at this
end Go.Proofs.Ytpildlaloclanaa

/-
  A row that is filled, node by node: plain facts of copies.
-/
namespace Go.Proofs.Ytpildlaloclanaa
open Go Go.RowKit

theorem sp_set {w : World} {b : Nat} {cs : Array Value} {T : TypeId} {ty : Ty} {l : List Nd} {m : Nat} {x : Nd} {vs : List Value} {hi off : Nat} (hB : Blk w b cs T) (hR : SpR w ty l b 0 (b + 1) m) (hN : SpN w x vs m hi) (hoff : l.length * ty.size ≤ off) (u : Value) :
    Blk (w.setCell ⟨b, off, none⟩ u) b (cs.setIfInBounds off u) T ∧ SpR (w.setCell ⟨b, off, none⟩ u) ty l b 0 (b + 1) m ∧ SpN (w.setCell ⟨b, off, none⟩ u) x vs m hi := by
  have hm := SpR.le ty l b 0 (b + 1) m hR
  have hk : ∀ k, k ≠ b → (w.setCell ⟨b, off, none⟩ u).heap[k]? = w.heap[k]? := fun k h => Below.heap_setCell w ⟨b, off, none⟩ u k h
  refine ⟨hB.set off u, SpR.keep ty l b 0 (b + 1) m (fun k h1 h2 => hk k (by omega)) (fun j v hj hv => ?_) hR, SpN.keep x vs m hi (fun k h1 h2 => hk k (by omega)) hN⟩
  have h1 := hB.cell (0 + j)
  have h2 := (hB.set off u).cell (0 + j)
  rw [h2, Array.getElem?_setIfInBounds_ne (by omega), ← h1]
  exact hv
theorem sp_put2 {w : World} {b : Nat} {cs : Array Value} {T : TypeId} {ty : Ty} {l : List Nd} {m : Nat} {x : Nd} {p0 p1 : Value} {hi : Nat} (hz : ty.size = 2) (hB : Blk w b cs T) (hR : SpR w ty l b 0 (b + 1) m) (hN : SpN w x [p0, p1] m hi) (hx : x.ty = ty) (hs : l.length * 2 + 2 ≤ cs.size) :
    Blk ((w.setCell ⟨b, l.length * 2, none⟩ p0).setCell ⟨b, l.length * 2 + 1, none⟩ p1) b ((cs.setIfInBounds (l.length * 2) p0).setIfInBounds (l.length * 2 + 1) p1) T ∧ SpR ((w.setCell ⟨b, l.length * 2, none⟩ p0).setCell ⟨b, l.length * 2 + 1, none⟩ p1) ty (l ++ [x]) b 0 (b + 1) hi := by
  obtain ⟨b0, r0, n0⟩ := sp_set hB hR hN (off := l.length * 2) (by rw [hz]; omega) p0
  obtain ⟨b1, r1, n1⟩ := sp_set b0 r0 n0 (off := l.length * 2 + 1) (by rw [hz]; omega) p1
  refine ⟨b1, SpR.snoc l b 0 (b + 1) m hi r1 hx (fun j u hj => ?_) n1⟩
  rw [hz, b1.cell (0 + l.length * 2 + j)]
  have hj2 : j < 2 := by simpa using (List.getElem?_eq_some_iff.1 hj).1
  rw [Nat.zero_add]
  match j, hj2, hj with
  | 0, _, hj =>
    obtain rfl : p0 = u := by simpa using hj
    simp [Array.getElem?_setIfInBounds]
    omega
  | 1, _, hj =>
    obtain rfl : p1 = u := by simpa using hj
    simp [Array.getElem?_setIfInBounds]
    omega
theorem sp_put4 {w : World} {b : Nat} {cs : Array Value} {T : TypeId} {ty : Ty} {l : List Nd} {m : Nat} {x : Nd} {p0 p1 p2 p3 : Value} {hi : Nat} (hz : ty.size = 4) (hB : Blk w b cs T) (hR : SpR w ty l b 0 (b + 1) m) (hN : SpN w x [p0, p1, p2, p3] m hi) (hx : x.ty = ty) (hs : l.length * 4 + 4 ≤ cs.size) :
    Blk ((((w.setCell ⟨b, l.length * 4, none⟩ p0).setCell ⟨b, l.length * 4 + 1, none⟩ p1).setCell ⟨b, l.length * 4 + 2, none⟩ p2).setCell ⟨b, l.length * 4 + 3, none⟩ p3) b ((((cs.setIfInBounds (l.length * 4) p0).setIfInBounds (l.length * 4 + 1) p1).setIfInBounds (l.length * 4 + 2) p2).setIfInBounds (l.length * 4 + 3) p3) T ∧ SpR ((((w.setCell ⟨b, l.length * 4, none⟩ p0).setCell ⟨b, l.length * 4 + 1, none⟩ p1).setCell ⟨b, l.length * 4 + 2, none⟩ p2).setCell ⟨b, l.length * 4 + 3, none⟩ p3) ty (l ++ [x]) b 0 (b + 1) hi := by
  obtain ⟨b0, r0, n0⟩ := sp_set hB hR hN (off := l.length * 4) (by rw [hz]; omega) p0
  obtain ⟨b1, r1, n1⟩ := sp_set b0 r0 n0 (off := l.length * 4 + 1) (by rw [hz]; omega) p1
  obtain ⟨b2, r2, n2⟩ := sp_set b1 r1 n1 (off := l.length * 4 + 2) (by rw [hz]; omega) p2
  obtain ⟨b3, r3, n3⟩ := sp_set b2 r2 n2 (off := l.length * 4 + 3) (by rw [hz]; omega) p3
  refine ⟨b3, SpR.snoc l b 0 (b + 1) m hi r3 hx (fun j u hj => ?_) n3⟩
  rw [hz, b3.cell (0 + l.length * 4 + j)]
  have hj2 : j < 4 := by simpa using (List.getElem?_eq_some_iff.1 hj).1
  rw [Nat.zero_add]
  match j, hj2, hj with
  | 0, _, hj =>
    obtain rfl : p0 = u := by simpa using hj
    simp [Array.getElem?_setIfInBounds]
    omega
  | 1, _, hj =>
    obtain rfl : p1 = u := by simpa using hj
    simp [Array.getElem?_setIfInBounds]
    omega
  | 2, _, hj =>
    obtain rfl : p2 = u := by simpa using hj
    simp [Array.getElem?_setIfInBounds]
    omega
  | 3, _, hj =>
    obtain rfl : p3 = u := by simpa using hj
    simp [Array.getElem?_setIfInBounds]
    omega
theorem sp_put6 {w : World} {b : Nat} {cs : Array Value} {T : TypeId} {ty : Ty} {l : List Nd} {m : Nat} {x : Nd} {p0 p1 p2 p3 p4 p5 : Value} {hi : Nat} (hz : ty.size = 6) (hB : Blk w b cs T) (hR : SpR w ty l b 0 (b + 1) m) (hN : SpN w x [p0, p1, p2, p3, p4, p5] m hi) (hx : x.ty = ty) (hs : l.length * 6 + 6 ≤ cs.size) :
    Blk ((((((w.setCell ⟨b, l.length * 6, none⟩ p0).setCell ⟨b, l.length * 6 + 1, none⟩ p1).setCell ⟨b, l.length * 6 + 2, none⟩ p2).setCell ⟨b, l.length * 6 + 3, none⟩ p3).setCell ⟨b, l.length * 6 + 4, none⟩ p4).setCell ⟨b, l.length * 6 + 5, none⟩ p5) b ((((((cs.setIfInBounds (l.length * 6) p0).setIfInBounds (l.length * 6 + 1) p1).setIfInBounds (l.length * 6 + 2) p2).setIfInBounds (l.length * 6 + 3) p3).setIfInBounds (l.length * 6 + 4) p4).setIfInBounds (l.length * 6 + 5) p5) T ∧ SpR ((((((w.setCell ⟨b, l.length * 6, none⟩ p0).setCell ⟨b, l.length * 6 + 1, none⟩ p1).setCell ⟨b, l.length * 6 + 2, none⟩ p2).setCell ⟨b, l.length * 6 + 3, none⟩ p3).setCell ⟨b, l.length * 6 + 4, none⟩ p4).setCell ⟨b, l.length * 6 + 5, none⟩ p5) ty (l ++ [x]) b 0 (b + 1) hi := by
  obtain ⟨b0, r0, n0⟩ := sp_set hB hR hN (off := l.length * 6) (by rw [hz]; omega) p0
  obtain ⟨b1, r1, n1⟩ := sp_set b0 r0 n0 (off := l.length * 6 + 1) (by rw [hz]; omega) p1
  obtain ⟨b2, r2, n2⟩ := sp_set b1 r1 n1 (off := l.length * 6 + 2) (by rw [hz]; omega) p2
  obtain ⟨b3, r3, n3⟩ := sp_set b2 r2 n2 (off := l.length * 6 + 3) (by rw [hz]; omega) p3
  obtain ⟨b4, r4, n4⟩ := sp_set b3 r3 n3 (off := l.length * 6 + 4) (by rw [hz]; omega) p4
  obtain ⟨b5, r5, n5⟩ := sp_set b4 r4 n4 (off := l.length * 6 + 5) (by rw [hz]; omega) p5
  refine ⟨b5, SpR.snoc l b 0 (b + 1) m hi r5 hx (fun j u hj => ?_) n5⟩
  rw [hz, b5.cell (0 + l.length * 6 + j)]
  have hj2 : j < 6 := by simpa using (List.getElem?_eq_some_iff.1 hj).1
  rw [Nat.zero_add]
  match j, hj2, hj with
  | 0, _, hj =>
    obtain rfl : p0 = u := by simpa using hj
    simp [Array.getElem?_setIfInBounds]
    omega
  | 1, _, hj =>
    obtain rfl : p1 = u := by simpa using hj
    simp [Array.getElem?_setIfInBounds]
    omega
  | 2, _, hj =>
    obtain rfl : p2 = u := by simpa using hj
    simp [Array.getElem?_setIfInBounds]
    omega
  | 3, _, hj =>
    obtain rfl : p3 = u := by simpa using hj
    simp [Array.getElem?_setIfInBounds]
    omega
  | 4, _, hj =>
    obtain rfl : p4 = u := by simpa using hj
    simp [Array.getElem?_setIfInBounds]
    omega
  | 5, _, hj =>
    obtain rfl : p5 = u := by simpa using hj
    simp [Array.getElem?_setIfInBounds]
    omega
/-- Names and lists as small as a tree's. -/
def rawNm : Nd → ByteArray | .mk _ _ _ s _ _ _ _ => s
def Small (x : Nd) : Prop := (allN x).length ≤ 4096 ∧ ∀ y ∈ allN x, (rawNm y).size ≤ 65536
def SmallL (l : List Nd) : Prop := (allL l).length ≤ 4096 ∧ ∀ y ∈ allL l, (rawNm y).size ≤ 65536
theorem allN_pos (x : Nd) : 1 ≤ (allN x).length := by
  obtain ⟨ty, k, n, s, xs, cs, ts, es⟩ := x
  unfold allN
  simp
theorem allL_len : ∀ l : List Nd, l.length ≤ (allL l).length
  | [] => by simp
  | x :: r => by
    have := allL_len r
    have := allN_pos x
    rw [allL, List.length_append, List.length_cons]
    omega
theorem SmallL.len {l : List Nd} (h : SmallL l) : l.length ≤ 4096 := Nat.le_trans (allL_len l) h.1
theorem allL_mem : ∀ {l : List Nd} {x y : Nd}, x ∈ l → y ∈ allN x → y ∈ allL l
  | z :: r, x, y, hx, hy => by
    rw [allL, List.mem_append]
    rcases List.mem_cons.1 hx with rfl | h
    · exact .inl hy
    · exact .inr (allL_mem h hy)
theorem allL_le : ∀ {l : List Nd} {x : Nd}, x ∈ l → (allN x).length ≤ (allL l).length
  | z :: r, x, hx => by
    rw [allL, List.length_append]
    rcases List.mem_cons.1 hx with rfl | h
    · omega
    · have := allL_le h
      omega
theorem SmallL.at {l : List Nd} (h : SmallL l) {x : Nd} (hx : x ∈ l) : Small x := ⟨Nat.le_trans (allL_le hx) h.1, fun y hy => h.2 y (allL_mem hx hy)⟩
theorem SmallL.of {l : List Nd} {x : Nd} (h : Small x) (hl : (allL l).length ≤ (allN x).length) (hm : ∀ y ∈ allL l, y ∈ allN x) : SmallL l := ⟨Nat.le_trans hl h.1, fun y hy => h.2 y (hm y hy)⟩
theorem small_E {k n : Int} {s : ByteArray} {xs cs ts es : List Nd} (h : Small (.mk .E k n s xs cs ts es)) : s.size ≤ 65536 ∧ SmallL xs := by
  have e : allN (.mk .E k n s xs cs ts es) = .mk .E k n s xs cs ts es :: allL xs := by unfold allN; rfl
  refine ⟨h.2 (.mk .E k n s xs cs ts es) (by rw [e]; simp), .of h (by rw [e]; simp) (fun y hy => by rw [e]; simp [hy])⟩
theorem small_C {k n : Int} {s : ByteArray} {xs cs ts es : List Nd} (h : Small (.mk .C k n s xs cs ts es)) : SmallL xs ∧ SmallL cs := by
  have e : allN (.mk .C k n s xs cs ts es) = .mk .C k n s xs cs ts es :: (allL xs ++ allL cs) := by unfold allN; rfl
  exact ⟨.of h (by rw [e]; simp; omega) (fun y hy => by rw [e]; simp [hy]), .of h (by rw [e]; simp; omega) (fun y hy => by rw [e]; simp [hy])⟩
theorem small_S {k n : Int} {s : ByteArray} {xs cs ts es : List Nd} (h : Small (.mk .S k n s xs cs ts es)) : s.size ≤ 65536 ∧ SmallL xs ∧ SmallL cs ∧ SmallL ts ∧ SmallL es := by
  have e : allN (.mk .S k n s xs cs ts es) = .mk .S k n s xs cs ts es :: (allL cs ++ (allL xs ++ (allL ts ++ allL es))) := by unfold allN; rfl
  exact ⟨h.2 (.mk .S k n s xs cs ts es) (by rw [e]; simp), .of h (by rw [e]; simp; omega) (fun y hy => by rw [e]; simp [hy]), .of h (by rw [e]; simp; omega) (fun y hy => by rw [e]; simp [hy]), .of h (by rw [e]; simp; omega) (fun y hy => by rw [e]; simp [hy]), .of h (by rw [e]; simp; omega) (fun y hy => by rw [e]; simp [hy])⟩
theorem small_D {k n : Int} {s : ByteArray} {xs cs ts es : List Nd} (h : Small (.mk .D k n s xs cs ts es)) : s.size ≤ 65536 := by
  have e : allN (.mk .D k n s xs cs ts es) = [.mk .D k n s xs cs ts es] := by unfold allN; rfl
  exact h.2 (.mk .D k n s xs cs ts es) (by rw [e]; simp)
/-- A cell's value, whatever it is. -/
def cellOr (w : World) (a : Addr) : Value := (w.cell? a).getD undef
/-- The argument's cells lie in block B; the result's n cells in the next one, to be written. -/
structure Res (B : Nat) (box : Array Value) (T : TypeId) (n : Nat) (w : World) : Prop where
  blk : Blk w B box T
  res : ∃ cs, Blk w (B + 1) cs T ∧ cs.size = n
theorem Res.drew {B n : Nat} {box : Array Value} {T : TypeId} {w : World} (h : Res B box T n w) : Res B box T n w.drew := ⟨h.blk, h.res⟩
theorem Res.next {B n : Nat} {box : Array Value} {T : TypeId} {w w1 : World} (h : Res B box T n w) (hb : Below w.heap.size w w1) : Res B box T n w1 := ⟨h.blk.below hb h.blk.lt, h.res.imp fun _ ⟨h1, h2⟩ => ⟨h1.below hb h1.lt, h2⟩⟩
theorem Res.set {B n : Nat} {box : Array Value} {T : TypeId} {w : World} (h : Res B box T n w) (j : Nat) (u : Value) : Res B box T n (w.setCell ⟨B + 1, j, none⟩ u) := by
  obtain ⟨h1, cs, h2, h3⟩ := h
  exact ⟨h1.other (a := ⟨B + 1, j, none⟩) (by simp) u, _, h2.set j u, by rw [Array.size_setIfInBounds]; exact h3⟩
theorem Res.free {B n : Nat} {box : Array Value} {T : TypeId} {w : World} (h : Res B box T n w) (j : Nat) : w.frozen? ⟨B + 1, j, none⟩ = false := by
  obtain ⟨_, cs, h2, _⟩ := h
  exact h2.free j
theorem Res.any {B n : Nat} {box : Array Value} {T : TypeId} {w : World} (h : Res B box T n w) {j : Nat} (hj : j < n) : w.cell? ⟨B + 1, j, none⟩ = some (cellOr w ⟨B + 1, j, none⟩) := by
  obtain ⟨_, cs, h2, h3⟩ := h
  have e := h2.cell j
  rw [Array.getElem?_eq_getElem (by omega)] at e
  unfold cellOr
  rw [e]
  rfl
/-- What a copy is; what a list of copies is. -/
def Copied (w : World) (x : Nd) : Ending → World → Prop := fun e w' => ∃ vs', e = .returned (.agg vs'.toArray) ∧ SpN w' x vs' w.heap.size w'.heap.size ∧ Below w.heap.size w w'
def CopiedL (w : World) (ty : Ty) (l : List Nd) : Ending → World → Prop := fun e w' => ∃ v', e = .returned v' ∧ SpL w' ty l v' w.heap.size w'.heap.size ∧ Below w.heap.size w w'
def CopyOf (F : FuncId) (w0 : World) (x : Nd) : Prop := ∀ (vs : List Value) (w : World), NdIn w0 x vs → Below w0.heap.size w0 w → Calls Try.prog F #[.agg vs.toArray] w (Copied w x)
end Go.Proofs.Ytpildlaloclanaa

/-
  The project's copies of expressions (tree's copies, copyExpr): proved is that a copy is the same tree, in blocks of its own.
-/
namespace Go.Proofs.Ytpildlaloclanaa
open Go Go.RowKit

theorem slIn_ty {w : World} {ty : Ty} {l : List Nd} {v : Value} (h : SlIn w ty l v) : ∀ i (hi : i < l.length), (l[i]).ty = ty := fun i hi => by
  obtain ⟨a, c, _, _, _, h | ⟨b, o, _, hr⟩⟩ := h
  · omega
  · exact (RowIn.at l b o i hi hr).1

theorem info_E : (Try.prog.info? 42).map (fun i => (i.zero, i.size, i.bytes)) = some (some (.agg #[.int .i64 0, .int .i64 0, .string ⟨#[]⟩, .slice none 0 0]), 4, 56) := by kernel_rfl
theorem make_E (n : Nat) (hn : n ≤ 4096) : ∃ Z : Array Value, Z.size = n * 4 ∧ ∀ w : World, (Instr.makeSlice 40 (.int .i64 (n : Int)) (.int .i64 (n : Int))).run Try.prog w = .ok (.slice (some ⟨w.heap.size, 0, none⟩) n n) (w.alloc (.cells Z 42)) := by
  obtain ⟨i0, hi0, hz0, hz1, hz2⟩ := info_parts info_E
  refine ⟨madeCells (Value.cells (.agg #[.int .i64 0, .int .i64 0, .string ⟨#[]⟩, .slice none 0 0])) (n * 4), size_madeCells _ _, fun w => ?_⟩
  have h := run_make (P := Try.prog) w 40 42 i0 _ Try.underlying40 hi0 hz0 .i64 .i64 (n : Int) (n : Int) (by omega) (Int.le_refl _) (by rw [hz2]; omega) (by omega)
  rw [hz1] at h
  simpa using h

set_option maxRecDepth 100000 in
set_option maxHeartbeats 8000000 in
theorem copiesE_any (w0 : World) (l : List Nd) (hcopy : ∀ i (h : i < l.length), CopyOf 69 w0 l[i]) (v : Value) (w : World) (hl : SlIn w0 .E l v) (hw : Below w0.heap.size w0 w) (hlen : l.length ≤ 4096) :
    Calls Try.prog 68 #[v, .func (.func 69) #[] #[]] w (CopiedL w .E l) := by
  obtain ⟨a, c, rfl, hlc, hcm, hrow⟩ := hl
  by_cases h0 : l.length = 0
  · have hz : ((l.length : Int) == 0) = true := by simp [h0]
    have H0 := Lib.hid h0; clear h0
    clear hrow hcopy
    go_enter Try.func68, Try.ntmps68
    go_wp2_with fail
    go_ret
    exact ⟨.slice none 0 0, rfl, .inl ⟨H0.out, rfl, Nat.le_refl _⟩, Below.refl _ _⟩
  · have hz : ((l.length : Int) == 0) = false := by rw [beq_eq_false_iff_ne]; omega
    obtain ⟨b, o, ha, hr2⟩ := hrow.resolve_left h0
    clear hrow
    subst ha
    have HROW := Lib.hid hr2; clear hr2
    have HCOPY := Lib.hid hcopy; clear hcopy
    have H0 := Lib.hid h0; clear h0
    obtain ⟨Z, hZ, hmk⟩ := make_E l.length hlen
    obtain ⟨B, hBe⟩ : ∃ B, w.heap.size = B := ⟨_, rfl⟩
    obtain ⟨W1, hW1⟩ : ∃ W, w.alloc (.cells Z 42) = W := ⟨_, rfl⟩
    have hB1 : Blk W1 B Z 42 := by rw [← hW1, ← hBe]; exact Blk.new w _ _
    have hb1 : Below B w W1 := by rw [← hW1, ← hBe]; exact (Below.refl _ w).alloc (Nat.le_refl _) _
    have hS1 : W1.heap.size = B + 1 := by rw [← hW1, ← hBe, World.size_alloc]
    have HB1 := Lib.hid hB1; clear hB1
    have HBW1 := Lib.hid hb1; clear hb1
    have HS1 := Lib.hid hS1; clear hS1
    have HZS := Lib.hid hZ; clear hZ
    have HW1 := Lib.hid hW1; clear hW1
    have HBE := Lib.hid hBe; clear hBe
    have HHW := Lib.hid hw; clear hw
    go_enter Try.func68, Try.ntmps68
    go_upto_block 0 with fail
    rw [HW1.out, HBE.out]
    clear hmk
    go_wp2_with fail
    go_loopw [16] (fun x wr => ∃ (i m : Nat) (cs : Array Value), x = .int .i64 i ∧ i ≤ l.length ∧ Blk wr B cs 42 ∧ Hid (cs.size = l.length * 4) ∧ SpR wr .E (l.take i) B 0 (B + 1) m ∧ m ≤ wr.heap.size ∧ Below B w wr) (fun x _ => l.length - (intOf x).toNat)
    case atStart => exact ⟨0, B + 1, Z, rfl, by omega, HB1.out, Lib.hid HZS.out, by rw [List.take_zero]; unfold SpR; exact Nat.le_refl _, by rw [HS1.out]; exact Nat.le_refl _, HBW1.out⟩
    case round =>
      obtain ⟨i, m, cs, rfl, hi, hBr, HCS, hRr, hmr, hbr⟩ := hrel
      have HBR := Lib.hid hBr; clear hBr
      have HRR := Lib.hid hRr; clear hRr
      have HBLW := Lib.hid hbr; clear hbr
      by_cases hlt : i < l.length
      · have hbi : (i : Int) + 1 ≤ 9223372036854775807 := by omega
        have hold : Below w0.heap.size w0 wr := HHW.out.trans (HBLW.out.mono (by have := HHW.out.size; have := HBE.out; omega))
        obtain ⟨hty, u0, u1, u2, u3, m0, m1, m2, m3, hnd⟩ := SlIn.item4 rfl HROW.out i hlt
        obtain ⟨fk, fn, fs, fa, fl, fc, rfl, rfl, rfl, rfl⟩ := NdIn.formE hty hnd
        have kk := keeps_below hold
        have k0 := kk _ _ _ m0
        have k1 := kk _ _ _ m1
        have k2 := kk _ _ _ m2
        have k3 := kk _ _ _ m3
        have hBlt := HBR.out.lt
        have hcp := HCOPY.out i hlt [.int .i64 fk, .int .i64 fn, .string fs, .slice fa fl fc] (wr.alloc (.cells #[.int .i64 fk, .int .i64 fn, .string fs, .slice fa fl fc] 42)) hnd (hold.alloc hold.size _)
        have htk : l.take (i + 1) = l.take i ++ [l[i]] := (List.take_append_getElem hlt).symm
        have hll : (l.take i).length = i := by rw [List.length_take]; omega
        obtain ⟨X, hX⟩ : ∃ X, l[i] = X := ⟨_, rfl⟩
        rw [hX] at hcp htk hty
        have HC := Lib.hid hcp; clear hcp
        have HTK := Lib.hid htk; clear htk
        have HLL := Lib.hid hll; clear hll
        have HTY := Lib.hid hty; clear hty
        have hmr2 : m ≤ wr.heap.size := hmr
        clear m0 m1 m2 m3 kk hold hnd hX
        go_wp2_with fail
        refine HC.out.mono ?_
        rintro e w3 ⟨vs', rfl, hN3, hb3⟩
        have hl4 := (SpN.toIn _ _ _ _ hN3).len
        rw [HTY.out] at hl4
        obtain ⟨p0, p1, p2, p3, rfl⟩ := len4 hl4
        obtain ⟨gk, gn, gs, ga, gl, gc, rfl, rfl, rfl, rfl⟩ := NdIn.formE HTY.out (SpN.toIn _ _ _ _ hN3)
        have hb2 : Below wr.heap.size wr w3 := ((Below.refl _ wr).alloc (Nat.le_refl _) (.cells #[.int .i64 fk, .int .i64 fn, .string fs, .slice fa fl fc] 42)).trans (hb3.mono (by simp))
        have hb4 := HBLW.out.trans (hb2.mono (Nat.le_of_lt hBlt))
        have hB2 : Blk w3 B cs 42 := HBR.out.below hb2 hBlt
        have hR2 : SpR w3 .E (l.take i) B 0 (B + 1) m := SpR.keep .E (l.take i) B 0 (B + 1) m (fun k h1 h2 => hb2.block k (by omega)) (fun j u _ hu => (hb2.cell (p := ⟨B, 0 + j, none⟩) hBlt).trans hu) HRR.out
        have hN4 : SpN w3 X [.int .i64 gk, .int .i64 gn, .string gs, .slice ga gl gc] m w3.heap.size := hN3.lo (by simp; omega)
        have hcs : (l.take i).length * 4 + 4 ≤ cs.size := by rw [HCS.out, HLL.out]; omega
        have hcs2 : i * 4 + 4 ≤ cs.size := by rw [HCS.out]; omega
        obtain ⟨hB5, hR5⟩ := sp_put4 rfl hB2 hR2 hN4 HTY.out hcs
        rw [HLL.out] at hB5 hR5
        rw [← HTK.out] at hR5
        have f0 := hB2.free (i * 4)
        have f1 := hB2.free (i * 4 + 1)
        have f2 := hB2.free (i * 4 + 2)
        have f3 := hB2.free (i * 4 + 3)
        obtain ⟨z0, y0⟩ : ∃ z, w3.cell? ⟨B, i * 4, none⟩ = some z := ⟨cs[i * 4]'(by omega), by rw [hB2.cell]; exact Array.getElem?_eq_getElem (by omega)⟩
        obtain ⟨z1, y1⟩ : ∃ z, w3.cell? ⟨B, i * 4 + 1, none⟩ = some z := ⟨cs[i * 4 + 1]'(by omega), by rw [hB2.cell]; exact Array.getElem?_eq_getElem (by omega)⟩
        obtain ⟨z2, y2⟩ : ∃ z, w3.cell? ⟨B, i * 4 + 2, none⟩ = some z := ⟨cs[i * 4 + 2]'(by omega), by rw [hB2.cell]; exact Array.getElem?_eq_getElem (by omega)⟩
        obtain ⟨z3, y3⟩ : ∃ z, w3.cell? ⟨B, i * 4 + 3, none⟩ = some z := ⟨cs[i * 4 + 3]'(by omega), by rw [hB2.cell]; exact Array.getElem?_eq_getElem (by omega)⟩
        have hb5 := ((((hb4.setCell (p := ⟨B, i * 4, none⟩) (by simp only; omega) (.int .i64 gk)).setCell (p := ⟨B, i * 4 + 1, none⟩) (by simp only; omega) (.int .i64 gn)).setCell (p := ⟨B, i * 4 + 2, none⟩) (by simp only; omega) (.string gs)).setCell (p := ⟨B, i * 4 + 3, none⟩) (by simp only; omega) (.slice ga gl gc))
        have hsz5 : w3.heap.size ≤ ((((w3.setCell ⟨B, i * 4, none⟩ (.int .i64 gk)).setCell ⟨B, i * 4 + 1, none⟩ (.int .i64 gn)).setCell ⟨B, i * 4 + 2, none⟩ (.string gs)).setCell ⟨B, i * 4 + 3, none⟩ (.slice ga gl gc)).heap.size := by simp
        obtain ⟨CS5, hCS5⟩ : ∃ c : Array Value, ((((cs.setIfInBounds (i * 4) (.int .i64 gk)).setIfInBounds (i * 4 + 1) (.int .i64 gn)).setIfInBounds (i * 4 + 2) (.string gs)).setIfInBounds (i * 4 + 3) (.slice ga gl gc)) = c := ⟨_, rfl⟩
        have hcsz : CS5.size = l.length * 4 := by rw [← hCS5]; simp [HCS.out]
        rw [hCS5] at hB5
        have HB5 := Lib.hid hB5; clear hB5
        have HR5 := Lib.hid hR5; clear hR5
        have HBL5 := Lib.hid hb5; clear hb5
        have HSZ5 := Lib.hid hsz5; clear hsz5
        have HCS5 := Lib.hid hcsz; clear hcsz
        clear hCS5 hB2 hR2 hN4 hN3 hb3 hb2 hb4 hl4 hcs
        go_wp2_with fail
        go_roundw
        case rel => exact ⟨i + 1, w3.heap.size, CS5, by go_num, by omega, HB5.out, HCS5, HR5.out, HSZ5.out, HBL5.out⟩
        case measure => simp [intOf]; omega
      · obtain rfl : i = l.length := by omega
        have h1 := HRR.out
        rw [List.take_length] at h1
        have HR6 := Lib.hid h1; clear h1
        go_wp2_with fail
        go_ret
        exact ⟨_, rfl, .inr ⟨B, cs, rfl, by rw [HBE.out]; exact Nat.le_refl _, by unfold maxLen; omega, HBR.out, SpR.hi _ _ _ _ _ _ _ HR6.out hmr⟩, by rw [HBE.out]; exact HBLW.out⟩
set_option maxRecDepth 100000 in
set_option maxHeartbeats 16000000 in
theorem copyE_any (w0 : World) : ∀ (N : Nat) (x : Nd), SizeOf.sizeOf x ≤ N → x.ty = .E → Small x → CopyOf 69 w0 x := by
  intro N
  induction N with
  | zero =>
    intro x hN
    obtain ⟨ty, k, n, nm, xs, cs, ts, es⟩ := x
    simp only [Nd.mk.sizeOf_spec] at hN
    omega
  | succ N ih =>
    intro x hN hty hsm vs w hin hw
    have hmem := fun y h => Nd.mem_size (x := x) (y := y) h
    obtain ⟨ty, k, n, nm, xs, cs, ts, es⟩ := x
    simp only [Nd.ty] at hty
    subst hty
    simp only [Nd.xs, Nd.cs, Nd.ts, Nd.es] at hmem
    unfold NdIn at hin
    obtain ⟨⟨rfl, rfl, rfl⟩, hk1, hn1, hsz, vx, vc, vt, ve, rfl, hx, -, -, -⟩ := hin
    obtain ⟨hnm, hxs⟩ := small_E hsm
    have hcopyx : ∀ i (h : i < xs.length), CopyOf 69 w0 xs[i] := fun i h => ih xs[i] (by have := hmem _ (.inl (List.getElem_mem h)); omega) (slIn_ty hx i h) (hxs.at (List.getElem_mem h))
    have HCX := Lib.hid (fun w1 (hb : Below w0.heap.size w0 w1) => copiesE_any w0 xs hcopyx vx w1 hx hb hxs.len)
    have hxv : ∃ a c, vx = .slice a xs.length c := by obtain ⟨a, c, h, _⟩ := hx; exact ⟨a, c, h⟩
    obtain ⟨a, c, rfl⟩ := hxv
    clear hx hcopyx hxs ih hmem hN hsm
    change Calls _ _ #[.agg #[.int .i64 k, .int .i64 n, .string nm, .slice a xs.length c]] w _
    obtain ⟨B, hBe⟩ : ∃ B, w.heap.size = B := ⟨_, rfl⟩
    obtain ⟨W1, hW1⟩ : ∃ W, (w.alloc (.cells #[.int .i64 k, .int .i64 n, .string nm, .slice a xs.length c] 42)).alloc (.cells #[.int .i64 0, .int .i64 0, .string ⟨#[]⟩, .slice none 0 0] 42) = W := ⟨_, rfl⟩
    have hX1 : Blk W1 B #[.int .i64 k, .int .i64 n, .string nm, .slice a xs.length c] 42 := by rw [← hW1, ← hBe]; exact (Blk.new w _ _).alloc _
    have hR1 : Blk W1 (B + 1) #[.int .i64 0, .int .i64 0, .string ⟨#[]⟩, .slice none 0 0] 42 := by rw [← hW1, ← hBe]; exact blk_second w _ _ _
    have hb1 : Below B w W1 := by rw [← hW1, ← hBe]; exact ((Below.refl _ w).alloc (Nat.le_refl _) _).alloc (by simp) _
    have hS1 : W1.heap.size = B + 2 := by rw [← hW1, ← hBe, World.size_alloc, World.size_alloc]
    have HX1 := Lib.hid hX1; clear hX1
    have HR1 := Lib.hid hR1; clear hR1
    have HB1 := Lib.hid hb1; clear hb1
    have HS1 := Lib.hid hS1; clear hS1
    have HNM := Lib.hid hnm; clear hnm
    have HBE := Lib.hid hBe; clear hBe
    have HHW := Lib.hid (hw.trans (HB1.out.mono (by have := hw.size; have := HBE.out; omega))); clear hw
    have HW1 := Lib.hid hW1; clear hW1
    have HK1 := Lib.hid hk1; clear hk1
    have HN1 := Lib.hid hn1; clear hn1
    have HSZ := Lib.hid hsz; clear hsz
    go_enter Try.func69, Try.ntmps69
    go_upto_region 1 with fail
    rw [HW1.out, HBE.out]
    clear HW1
    have hG0 : Res B #[.int .i64 k, .int .i64 n, .string nm, .slice a xs.length c] 42 4 W1 := ⟨HX1.out, _, HR1.out, rfl⟩
    have HG0 := Lib.hid hG0; clear hG0
    have KS := fun w' (hW : Res B #[.int .i64 k, .int .i64 n, .string nm, .slice a xs.length c] 42 4 w') => (⟨hW.blk.cell 0, hW.blk.cell 1, hW.blk.cell 2, hW.blk.cell 3, hW.free 0, hW.free 1, hW.free 2, hW.free 3, hW.any (j := 0) (by decide), hW.any (j := 1) (by decide), hW.any (j := 2) (by decide), hW.any (j := 3) (by decide)⟩ : w'.cell? ⟨B, 0, none⟩ = some (.int .i64 k) ∧ w'.cell? ⟨B, 1, none⟩ = some (.int .i64 n) ∧ w'.cell? ⟨B, 2, none⟩ = some (.string nm) ∧ w'.cell? ⟨B, 3, none⟩ = some (.slice a xs.length c) ∧ w'.frozen? ⟨B + 1, 0, none⟩ = false ∧ w'.frozen? ⟨B + 1, 1, none⟩ = false ∧ w'.frozen? ⟨B + 1, 2, none⟩ = false ∧ w'.frozen? ⟨B + 1, 3, none⟩ = false ∧ w'.cell? ⟨B + 1, 0, none⟩ = some (cellOr w' ⟨B + 1, 0, none⟩) ∧ w'.cell? ⟨B + 1, 1, none⟩ = some (cellOr w' ⟨B + 1, 1, none⟩) ∧ w'.cell? ⟨B + 1, 2, none⟩ = some (cellOr w' ⟨B + 1, 2, none⟩) ∧ w'.cell? ⟨B + 1, 3, none⟩ = some (cellOr w' ⟨B + 1, 3, none⟩))
    go_region_held3 (fun w' => w'.cell? ⟨B, 0, none⟩ = some (.int .i64 k) ∧ w'.cell? ⟨B, 1, none⟩ = some (.int .i64 n) ∧ w'.cell? ⟨B, 2, none⟩ = some (.string nm) ∧ w'.cell? ⟨B, 3, none⟩ = some (.slice a xs.length c) ∧ w'.frozen? ⟨B + 1, 0, none⟩ = false ∧ w'.frozen? ⟨B + 1, 1, none⟩ = false ∧ w'.frozen? ⟨B + 1, 2, none⟩ = false ∧ w'.frozen? ⟨B + 1, 3, none⟩ = false ∧ w'.cell? ⟨B + 1, 0, none⟩ = some (cellOr w' ⟨B + 1, 0, none⟩) ∧ w'.cell? ⟨B + 1, 1, none⟩ = some (cellOr w' ⟨B + 1, 1, none⟩) ∧ w'.cell? ⟨B + 1, 2, none⟩ = some (cellOr w' ⟨B + 1, 2, none⟩) ∧ w'.cell? ⟨B + 1, 3, none⟩ = some (cellOr w' ⟨B + 1, 3, none⟩))
      ((with_reducible refine KS _ ?_; repeat (with_reducible (first | exact HG0.out | refine Res.drew ?_ | refine Res.set ?_ _ _ | refine Res.next ?_ hb2 | refine Res.next ?_ hb1 | fail))))
      (first | (go_at_call_of 68 (Value.slice a xs.length c); (with_reducible refine (HCX.out _ (by repeat (with_reducible (first | exact HHW.out | refine below_drew ?_ | refine below_next ?_ hb1 | fail)))).mono ?_); rintro e w3 ⟨v2, rfl, hLx, hb2⟩; obtain ⟨rx, qx, rfl⟩ : ∃ a c, v2 = .slice a xs.length c := by (obtain ⟨a, c, h, _⟩ := hLx.toIn; exact ⟨a, c, h⟩)) | (go_at_call 33; (with_reducible refine (clone_any _ _ HNM.out).mono ?_); rintro e w2 ⟨rfl, hb1⟩))
    have bR : Blk ((((w3.setCell ⟨B + 1, 0, none⟩ (.int .i64 k)).setCell ⟨B + 1, 1, none⟩ (.int .i64 n)).setCell ⟨B + 1, 2, none⟩ (.string nm)).setCell ⟨B + 1, 3, none⟩ (.slice rx xs.length qx)) (B + 1) #[.int .i64 k, .int .i64 n, .string nm, .slice rx xs.length qx] 42 := (((((((show Blk W1.drew (B + 1) _ _ from HR1.out).next hb1).next hb2).set 0 (.int .i64 k)).set 1 (.int .i64 n)).set 2 (.string nm)).set 3 (.slice rx xs.length qx))
    have hBB : Below B w ((((w3.setCell ⟨B + 1, 0, none⟩ (.int .i64 k)).setCell ⟨B + 1, 1, none⟩ (.int .i64 n)).setCell ⟨B + 1, 2, none⟩ (.string nm)).setCell ⟨B + 1, 3, none⟩ (.slice rx xs.length qx)) := ((((((HB1.out.drew.trans (hb1.mono (by have e0 : W1.drew.heap.size = B + 2 := HS1.out;  omega))).trans (hb2.mono (by have e0 : W1.drew.heap.size = B + 2 := HS1.out; have := hb1.size;  omega))).setCell (p := ⟨B + 1, 0, none⟩) (by simp) (.int .i64 k)).setCell (p := ⟨B + 1, 1, none⟩) (by simp) (.int .i64 n)).setCell (p := ⟨B + 1, 2, none⟩) (by simp) (.string nm)).setCell (p := ⟨B + 1, 3, none⟩) (by simp) (.slice rx xs.length qx))
    have hother : ∀ q, B + 2 ≤ q → (((((w3.setCell ⟨B + 1, 0, none⟩ (.int .i64 k)).setCell ⟨B + 1, 1, none⟩ (.int .i64 n)).setCell ⟨B + 1, 2, none⟩ (.string nm)).setCell ⟨B + 1, 3, none⟩ (.slice rx xs.length qx))).heap[q]? = w3.heap[q]? := fun q hq => by
      rw [Below.heap_setCell _ ⟨B + 1, 3, none⟩ _ q (by simp only; omega), Below.heap_setCell _ ⟨B + 1, 2, none⟩ _ q (by simp only; omega), Below.heap_setCell _ ⟨B + 1, 1, none⟩ _ q (by simp only; omega), Below.heap_setCell _ ⟨B + 1, 0, none⟩ _ q (by simp only; omega)]
    have hsz0 := HS1.out
    have hs1 := hb1.size
    have hs2 := hb2.size
    have hsd : W1.drew.heap.size = W1.heap.size := rfl
    have hMx : SpL ((((w3.setCell ⟨B + 1, 0, none⟩ (.int .i64 k)).setCell ⟨B + 1, 1, none⟩ (.int .i64 n)).setCell ⟨B + 1, 2, none⟩ (.string nm)).setCell ⟨B + 1, 3, none⟩ (.slice rx xs.length qx)) .E xs (.slice rx xs.length qx) w2.heap.size w3.heap.size := hLx.keep (fun q h1 h2 => (hother q (by omega)).trans (rfl))
    have hWs : (((((w3.setCell ⟨B + 1, 0, none⟩ (.int .i64 k)).setCell ⟨B + 1, 1, none⟩ (.int .i64 n)).setCell ⟨B + 1, 2, none⟩ (.string nm)).setCell ⟨B + 1, 3, none⟩ (.slice rx xs.length qx))).heap.size = w3.heap.size := by simp
    obtain ⟨W, hW⟩ : ∃ W, ((((w3.setCell ⟨B + 1, 0, none⟩ (.int .i64 k)).setCell ⟨B + 1, 1, none⟩ (.int .i64 n)).setCell ⟨B + 1, 2, none⟩ (.string nm)).setCell ⟨B + 1, 3, none⟩ (.slice rx xs.length qx)) = W := ⟨_, rfl⟩
    rw [hW] at bR hBB hWs hMx ⊢
    have z0 : W.cell? ⟨B + 1, 0, none⟩ = some (.int .i64 k) := bR.cell 0
    have z1 : W.cell? ⟨B + 1, 1, none⟩ = some (.int .i64 n) := bR.cell 1
    have z2 : W.cell? ⟨B + 1, 2, none⟩ = some (.string nm) := bR.cell 2
    have z3 : W.cell? ⟨B + 1, 3, none⟩ = some (.slice rx xs.length qx) := bR.cell 3
    have hBsz : B ≤ W.heap.size := by omega
    have hfin : SpN W (.mk .E k n nm xs [] [] []) [.int .i64 k, .int .i64 n, .string nm, .slice rx xs.length qx] w.heap.size W.heap.size := by
      unfold SpN
      exact ⟨⟨rfl, rfl, rfl⟩, HK1.out, HN1.out, HSZ.out, _, .slice none 0 0, .slice none 0 0, .slice none 0 0, w3.heap.size, w3.heap.size, w3.heap.size, rfl, SpV.lo hMx (by rw [HBE.out]; omega), SpV.nil _ _ _ (Nat.le_refl _), SpV.nil _ _ _ (Nat.le_refl _), SpV.nil _ _ _ (by rw [hWs]; exact Nat.le_refl _)⟩
    have HFIN := Lib.hid hfin; clear hfin
    have HBB := Lib.hid hBB; clear hBB
    clear bR hother hW hWs hsz0 hsd hBsz hs1 hs2 hMx hLx
    go_wp2_with fail
    exact bodyPost_ret (v := .agg #[.int .i64 k, .int .i64 n, .string nm, .slice rx xs.length qx]) (by simp [results, Try.results69, go_sem, z0, z1, z2, z3]) rfl ⟨[.int .i64 k, .int .i64 n, .string nm, .slice rx xs.length qx], rfl, HFIN.out, by rw [HBE.out]; exact HBB.out⟩
end Go.Proofs.Ytpildlaloclanaa

/-
  The project's copies of conditions (tree's copies, copyCond): proved is that a copy is the same tree, in blocks of its own.
-/
namespace Go.Proofs.Ytpildlaloclanaa
open Go Go.RowKit

theorem info_C : (Try.prog.info? 45).map (fun i => (i.zero, i.size, i.bytes)) = some (some (.agg #[.int .i64 0, .int .i64 0, .slice none 0 0, .slice none 0 0]), 4, 64) := by kernel_rfl
theorem make_C (n : Nat) (hn : n ≤ 4096) : ∃ Z : Array Value, Z.size = n * 4 ∧ ∀ w : World, (Instr.makeSlice 43 (.int .i64 (n : Int)) (.int .i64 (n : Int))).run Try.prog w = .ok (.slice (some ⟨w.heap.size, 0, none⟩) n n) (w.alloc (.cells Z 45)) := by
  obtain ⟨i0, hi0, hz0, hz1, hz2⟩ := info_parts info_C
  refine ⟨madeCells (Value.cells (.agg #[.int .i64 0, .int .i64 0, .slice none 0 0, .slice none 0 0])) (n * 4), size_madeCells _ _, fun w => ?_⟩
  have h := run_make (P := Try.prog) w 43 45 i0 _ Try.underlying43 hi0 hz0 .i64 .i64 (n : Int) (n : Int) (by omega) (Int.le_refl _) (by rw [hz2]; omega) (by omega)
  rw [hz1] at h
  simpa using h

set_option maxRecDepth 100000 in
set_option maxHeartbeats 8000000 in
theorem copiesC_any (w0 : World) (l : List Nd) (hcopy : ∀ i (h : i < l.length), CopyOf 71 w0 l[i]) (v : Value) (w : World) (hl : SlIn w0 .C l v) (hw : Below w0.heap.size w0 w) (hlen : l.length ≤ 4096) :
    Calls Try.prog 70 #[v, .func (.func 71) #[] #[]] w (CopiedL w .C l) := by
  obtain ⟨a, c, rfl, hlc, hcm, hrow⟩ := hl
  by_cases h0 : l.length = 0
  · have hz : ((l.length : Int) == 0) = true := by simp [h0]
    have H0 := Lib.hid h0; clear h0
    clear hrow hcopy
    go_enter Try.func70, Try.ntmps70
    go_wp2_with fail
    go_ret
    exact ⟨.slice none 0 0, rfl, .inl ⟨H0.out, rfl, Nat.le_refl _⟩, Below.refl _ _⟩
  · have hz : ((l.length : Int) == 0) = false := by rw [beq_eq_false_iff_ne]; omega
    obtain ⟨b, o, ha, hr2⟩ := hrow.resolve_left h0
    clear hrow
    subst ha
    have HROW := Lib.hid hr2; clear hr2
    have HCOPY := Lib.hid hcopy; clear hcopy
    have H0 := Lib.hid h0; clear h0
    obtain ⟨Z, hZ, hmk⟩ := make_C l.length hlen
    obtain ⟨B, hBe⟩ : ∃ B, w.heap.size = B := ⟨_, rfl⟩
    obtain ⟨W1, hW1⟩ : ∃ W, w.alloc (.cells Z 45) = W := ⟨_, rfl⟩
    have hB1 : Blk W1 B Z 45 := by rw [← hW1, ← hBe]; exact Blk.new w _ _
    have hb1 : Below B w W1 := by rw [← hW1, ← hBe]; exact (Below.refl _ w).alloc (Nat.le_refl _) _
    have hS1 : W1.heap.size = B + 1 := by rw [← hW1, ← hBe, World.size_alloc]
    have HB1 := Lib.hid hB1; clear hB1
    have HBW1 := Lib.hid hb1; clear hb1
    have HS1 := Lib.hid hS1; clear hS1
    have HZS := Lib.hid hZ; clear hZ
    have HW1 := Lib.hid hW1; clear hW1
    have HBE := Lib.hid hBe; clear hBe
    have HHW := Lib.hid hw; clear hw
    go_enter Try.func70, Try.ntmps70
    go_upto_block 0 with fail
    rw [HW1.out, HBE.out]
    clear hmk
    go_wp2_with fail
    go_loopw [16] (fun x wr => ∃ (i m : Nat) (cs : Array Value), x = .int .i64 i ∧ i ≤ l.length ∧ Blk wr B cs 45 ∧ Hid (cs.size = l.length * 4) ∧ SpR wr .C (l.take i) B 0 (B + 1) m ∧ m ≤ wr.heap.size ∧ Below B w wr) (fun x _ => l.length - (intOf x).toNat)
    case atStart => exact ⟨0, B + 1, Z, rfl, by omega, HB1.out, Lib.hid HZS.out, by rw [List.take_zero]; unfold SpR; exact Nat.le_refl _, by rw [HS1.out]; exact Nat.le_refl _, HBW1.out⟩
    case round =>
      obtain ⟨i, m, cs, rfl, hi, hBr, HCS, hRr, hmr, hbr⟩ := hrel
      have HBR := Lib.hid hBr; clear hBr
      have HRR := Lib.hid hRr; clear hRr
      have HBLW := Lib.hid hbr; clear hbr
      by_cases hlt : i < l.length
      · have hbi : (i : Int) + 1 ≤ 9223372036854775807 := by omega
        have hold : Below w0.heap.size w0 wr := HHW.out.trans (HBLW.out.mono (by have := HHW.out.size; have := HBE.out; omega))
        obtain ⟨hty, u0, u1, u2, u3, m0, m1, m2, m3, hnd⟩ := SlIn.item4 rfl HROW.out i hlt
        obtain ⟨fk, fn, fa, fl, fc, fa2, fl2, fc2, rfl, rfl, rfl, rfl⟩ := NdIn.formC hty hnd
        have kk := keeps_below hold
        have k0 := kk _ _ _ m0
        have k1 := kk _ _ _ m1
        have k2 := kk _ _ _ m2
        have k3 := kk _ _ _ m3
        have hBlt := HBR.out.lt
        have hcp := HCOPY.out i hlt [.int .i64 fk, .int .i64 fn, .slice fa fl fc, .slice fa2 fl2 fc2] (wr.alloc (.cells #[.int .i64 fk, .int .i64 fn, .slice fa fl fc, .slice fa2 fl2 fc2] 45)) hnd (hold.alloc hold.size _)
        have htk : l.take (i + 1) = l.take i ++ [l[i]] := (List.take_append_getElem hlt).symm
        have hll : (l.take i).length = i := by rw [List.length_take]; omega
        obtain ⟨X, hX⟩ : ∃ X, l[i] = X := ⟨_, rfl⟩
        rw [hX] at hcp htk hty
        have HC := Lib.hid hcp; clear hcp
        have HTK := Lib.hid htk; clear htk
        have HLL := Lib.hid hll; clear hll
        have HTY := Lib.hid hty; clear hty
        have hmr2 : m ≤ wr.heap.size := hmr
        clear m0 m1 m2 m3 kk hold hnd hX
        go_wp2_with fail
        refine HC.out.mono ?_
        rintro e w3 ⟨vs', rfl, hN3, hb3⟩
        have hl4 := (SpN.toIn _ _ _ _ hN3).len
        rw [HTY.out] at hl4
        obtain ⟨p0, p1, p2, p3, rfl⟩ := len4 hl4
        obtain ⟨gk, gn, ga, gl, gc, ga2, gl2, gc2, rfl, rfl, rfl, rfl⟩ := NdIn.formC HTY.out (SpN.toIn _ _ _ _ hN3)
        have hb2 : Below wr.heap.size wr w3 := ((Below.refl _ wr).alloc (Nat.le_refl _) (.cells #[.int .i64 fk, .int .i64 fn, .slice fa fl fc, .slice fa2 fl2 fc2] 45)).trans (hb3.mono (by simp))
        have hb4 := HBLW.out.trans (hb2.mono (Nat.le_of_lt hBlt))
        have hB2 : Blk w3 B cs 45 := HBR.out.below hb2 hBlt
        have hR2 : SpR w3 .C (l.take i) B 0 (B + 1) m := SpR.keep .C (l.take i) B 0 (B + 1) m (fun k h1 h2 => hb2.block k (by omega)) (fun j u _ hu => (hb2.cell (p := ⟨B, 0 + j, none⟩) hBlt).trans hu) HRR.out
        have hN4 : SpN w3 X [.int .i64 gk, .int .i64 gn, .slice ga gl gc, .slice ga2 gl2 gc2] m w3.heap.size := hN3.lo (by simp; omega)
        have hcs : (l.take i).length * 4 + 4 ≤ cs.size := by rw [HCS.out, HLL.out]; omega
        have hcs2 : i * 4 + 4 ≤ cs.size := by rw [HCS.out]; omega
        obtain ⟨hB5, hR5⟩ := sp_put4 rfl hB2 hR2 hN4 HTY.out hcs
        rw [HLL.out] at hB5 hR5
        rw [← HTK.out] at hR5
        have f0 := hB2.free (i * 4)
        have f1 := hB2.free (i * 4 + 1)
        have f2 := hB2.free (i * 4 + 2)
        have f3 := hB2.free (i * 4 + 3)
        obtain ⟨z0, y0⟩ : ∃ z, w3.cell? ⟨B, i * 4, none⟩ = some z := ⟨cs[i * 4]'(by omega), by rw [hB2.cell]; exact Array.getElem?_eq_getElem (by omega)⟩
        obtain ⟨z1, y1⟩ : ∃ z, w3.cell? ⟨B, i * 4 + 1, none⟩ = some z := ⟨cs[i * 4 + 1]'(by omega), by rw [hB2.cell]; exact Array.getElem?_eq_getElem (by omega)⟩
        obtain ⟨z2, y2⟩ : ∃ z, w3.cell? ⟨B, i * 4 + 2, none⟩ = some z := ⟨cs[i * 4 + 2]'(by omega), by rw [hB2.cell]; exact Array.getElem?_eq_getElem (by omega)⟩
        obtain ⟨z3, y3⟩ : ∃ z, w3.cell? ⟨B, i * 4 + 3, none⟩ = some z := ⟨cs[i * 4 + 3]'(by omega), by rw [hB2.cell]; exact Array.getElem?_eq_getElem (by omega)⟩
        have hb5 := ((((hb4.setCell (p := ⟨B, i * 4, none⟩) (by simp only; omega) (.int .i64 gk)).setCell (p := ⟨B, i * 4 + 1, none⟩) (by simp only; omega) (.int .i64 gn)).setCell (p := ⟨B, i * 4 + 2, none⟩) (by simp only; omega) (.slice ga gl gc)).setCell (p := ⟨B, i * 4 + 3, none⟩) (by simp only; omega) (.slice ga2 gl2 gc2))
        have hsz5 : w3.heap.size ≤ ((((w3.setCell ⟨B, i * 4, none⟩ (.int .i64 gk)).setCell ⟨B, i * 4 + 1, none⟩ (.int .i64 gn)).setCell ⟨B, i * 4 + 2, none⟩ (.slice ga gl gc)).setCell ⟨B, i * 4 + 3, none⟩ (.slice ga2 gl2 gc2)).heap.size := by simp
        obtain ⟨CS5, hCS5⟩ : ∃ c : Array Value, ((((cs.setIfInBounds (i * 4) (.int .i64 gk)).setIfInBounds (i * 4 + 1) (.int .i64 gn)).setIfInBounds (i * 4 + 2) (.slice ga gl gc)).setIfInBounds (i * 4 + 3) (.slice ga2 gl2 gc2)) = c := ⟨_, rfl⟩
        have hcsz : CS5.size = l.length * 4 := by rw [← hCS5]; simp [HCS.out]
        rw [hCS5] at hB5
        have HB5 := Lib.hid hB5; clear hB5
        have HR5 := Lib.hid hR5; clear hR5
        have HBL5 := Lib.hid hb5; clear hb5
        have HSZ5 := Lib.hid hsz5; clear hsz5
        have HCS5 := Lib.hid hcsz; clear hcsz
        clear hCS5 hB2 hR2 hN4 hN3 hb3 hb2 hb4 hl4 hcs
        go_wp2_with fail
        go_roundw
        case rel => exact ⟨i + 1, w3.heap.size, CS5, by go_num, by omega, HB5.out, HCS5, HR5.out, HSZ5.out, HBL5.out⟩
        case measure => simp [intOf]; omega
      · obtain rfl : i = l.length := by omega
        have h1 := HRR.out
        rw [List.take_length] at h1
        have HR6 := Lib.hid h1; clear h1
        go_wp2_with fail
        go_ret
        exact ⟨_, rfl, .inr ⟨B, cs, rfl, by rw [HBE.out]; exact Nat.le_refl _, by unfold maxLen; omega, HBR.out, SpR.hi _ _ _ _ _ _ _ HR6.out hmr⟩, by rw [HBE.out]; exact HBLW.out⟩
set_option maxRecDepth 100000 in
set_option maxHeartbeats 16000000 in
theorem copyC_any (w0 : World) : ∀ (N : Nat) (x : Nd), SizeOf.sizeOf x ≤ N → x.ty = .C → Small x → CopyOf 71 w0 x := by
  intro N
  induction N with
  | zero =>
    intro x hN
    obtain ⟨ty, k, n, nm, xs, cs, ts, es⟩ := x
    simp only [Nd.mk.sizeOf_spec] at hN
    omega
  | succ N ih =>
    intro x hN hty hsm vs w hin hw
    have hmem := fun y h => Nd.mem_size (x := x) (y := y) h
    obtain ⟨ty, k, n, nm, xs, cs, ts, es⟩ := x
    simp only [Nd.ty] at hty
    subst hty
    simp only [Nd.xs, Nd.cs, Nd.ts, Nd.es] at hmem
    unfold NdIn at hin
    obtain ⟨⟨rfl, rfl, rfl⟩, hk1, hn1, hsz, vx, vc, vt, ve, rfl, hx, hc, -, -⟩ := hin
    obtain ⟨hxs, hcs⟩ := small_C hsm
    have hcopyx : ∀ i (h : i < xs.length), CopyOf 69 w0 xs[i] := fun i h => copyE_any w0 _ xs[i] (Nat.le_refl _) (slIn_ty hx i h) (hxs.at (List.getElem_mem h))
    have HCX := Lib.hid (fun w1 (hb : Below w0.heap.size w0 w1) => copiesE_any w0 xs hcopyx vx w1 hx hb hxs.len)
    have hxv : ∃ a c, vx = .slice a xs.length c := by obtain ⟨a, c, h, _⟩ := hx; exact ⟨a, c, h⟩
    obtain ⟨a, c, rfl⟩ := hxv
    have hcopyc : ∀ i (h : i < cs.length), CopyOf 71 w0 cs[i] := fun i h => ih cs[i] (by have := hmem _ (.inr (.inl (List.getElem_mem h))); omega) (slIn_ty hc i h) (hcs.at (List.getElem_mem h))
    have HCC := Lib.hid (fun w1 (hb : Below w0.heap.size w0 w1) => copiesC_any w0 cs hcopyc vc w1 hc hb hcs.len)
    have hcv : ∃ a c, vc = .slice a cs.length c := by obtain ⟨a, c, h, _⟩ := hc; exact ⟨a, c, h⟩
    obtain ⟨a2, c2, rfl⟩ := hcv
    clear hx hcopyx hxs hc hcopyc hcs ih hmem hN hsm
    change Calls _ _ #[.agg #[.int .i64 k, .int .i64 n, .slice a xs.length c, .slice a2 cs.length c2]] w _
    obtain ⟨B, hBe⟩ : ∃ B, w.heap.size = B := ⟨_, rfl⟩
    obtain ⟨W1, hW1⟩ : ∃ W, (w.alloc (.cells #[.int .i64 k, .int .i64 n, .slice a xs.length c, .slice a2 cs.length c2] 45)).alloc (.cells #[.int .i64 0, .int .i64 0, .slice none 0 0, .slice none 0 0] 45) = W := ⟨_, rfl⟩
    have hX1 : Blk W1 B #[.int .i64 k, .int .i64 n, .slice a xs.length c, .slice a2 cs.length c2] 45 := by rw [← hW1, ← hBe]; exact (Blk.new w _ _).alloc _
    have hR1 : Blk W1 (B + 1) #[.int .i64 0, .int .i64 0, .slice none 0 0, .slice none 0 0] 45 := by rw [← hW1, ← hBe]; exact blk_second w _ _ _
    have hb1 : Below B w W1 := by rw [← hW1, ← hBe]; exact ((Below.refl _ w).alloc (Nat.le_refl _) _).alloc (by simp) _
    have hS1 : W1.heap.size = B + 2 := by rw [← hW1, ← hBe, World.size_alloc, World.size_alloc]
    have HX1 := Lib.hid hX1; clear hX1
    have HR1 := Lib.hid hR1; clear hR1
    have HB1 := Lib.hid hb1; clear hb1
    have HS1 := Lib.hid hS1; clear hS1
    have HBE := Lib.hid hBe; clear hBe
    have HHW := Lib.hid (hw.trans (HB1.out.mono (by have := hw.size; have := HBE.out; omega))); clear hw
    have HW1 := Lib.hid hW1; clear hW1
    have HK1 := Lib.hid hk1; clear hk1
    have HN1 := Lib.hid hn1; clear hn1
    have HSZ := Lib.hid hsz; clear hsz
    go_enter Try.func71, Try.ntmps71
    go_upto_region 1 with fail
    rw [HW1.out, HBE.out]
    clear HW1
    have hG0 : Res B #[.int .i64 k, .int .i64 n, .slice a xs.length c, .slice a2 cs.length c2] 45 4 W1 := ⟨HX1.out, _, HR1.out, rfl⟩
    have HG0 := Lib.hid hG0; clear hG0
    have KS := fun w' (hW : Res B #[.int .i64 k, .int .i64 n, .slice a xs.length c, .slice a2 cs.length c2] 45 4 w') => (⟨hW.blk.cell 0, hW.blk.cell 1, hW.blk.cell 2, hW.blk.cell 3, hW.free 0, hW.free 1, hW.free 2, hW.free 3, hW.any (j := 0) (by decide), hW.any (j := 1) (by decide), hW.any (j := 2) (by decide), hW.any (j := 3) (by decide)⟩ : w'.cell? ⟨B, 0, none⟩ = some (.int .i64 k) ∧ w'.cell? ⟨B, 1, none⟩ = some (.int .i64 n) ∧ w'.cell? ⟨B, 2, none⟩ = some (.slice a xs.length c) ∧ w'.cell? ⟨B, 3, none⟩ = some (.slice a2 cs.length c2) ∧ w'.frozen? ⟨B + 1, 0, none⟩ = false ∧ w'.frozen? ⟨B + 1, 1, none⟩ = false ∧ w'.frozen? ⟨B + 1, 2, none⟩ = false ∧ w'.frozen? ⟨B + 1, 3, none⟩ = false ∧ w'.cell? ⟨B + 1, 0, none⟩ = some (cellOr w' ⟨B + 1, 0, none⟩) ∧ w'.cell? ⟨B + 1, 1, none⟩ = some (cellOr w' ⟨B + 1, 1, none⟩) ∧ w'.cell? ⟨B + 1, 2, none⟩ = some (cellOr w' ⟨B + 1, 2, none⟩) ∧ w'.cell? ⟨B + 1, 3, none⟩ = some (cellOr w' ⟨B + 1, 3, none⟩))
    go_region_held3 (fun w' => w'.cell? ⟨B, 0, none⟩ = some (.int .i64 k) ∧ w'.cell? ⟨B, 1, none⟩ = some (.int .i64 n) ∧ w'.cell? ⟨B, 2, none⟩ = some (.slice a xs.length c) ∧ w'.cell? ⟨B, 3, none⟩ = some (.slice a2 cs.length c2) ∧ w'.frozen? ⟨B + 1, 0, none⟩ = false ∧ w'.frozen? ⟨B + 1, 1, none⟩ = false ∧ w'.frozen? ⟨B + 1, 2, none⟩ = false ∧ w'.frozen? ⟨B + 1, 3, none⟩ = false ∧ w'.cell? ⟨B + 1, 0, none⟩ = some (cellOr w' ⟨B + 1, 0, none⟩) ∧ w'.cell? ⟨B + 1, 1, none⟩ = some (cellOr w' ⟨B + 1, 1, none⟩) ∧ w'.cell? ⟨B + 1, 2, none⟩ = some (cellOr w' ⟨B + 1, 2, none⟩) ∧ w'.cell? ⟨B + 1, 3, none⟩ = some (cellOr w' ⟨B + 1, 3, none⟩))
      ((with_reducible refine KS _ ?_; repeat (with_reducible (first | exact HG0.out | refine Res.drew ?_ | refine Res.set ?_ _ _ | refine Res.next ?_ hb2 | refine Res.next ?_ hb1 | fail))))
      (first | (go_at_call_of 70 (Value.slice a2 cs.length c2); (with_reducible refine (HCC.out _ (by repeat (with_reducible (first | exact HHW.out | refine below_drew ?_ | refine below_next ?_ hb1 | fail)))).mono ?_); rintro e w3 ⟨v2, rfl, hLc, hb2⟩; obtain ⟨rc, qc, rfl⟩ : ∃ a c, v2 = .slice a cs.length c := by (obtain ⟨a, c, h, _⟩ := hLc.toIn; exact ⟨a, c, h⟩)) | (go_at_call_of 68 (Value.slice a xs.length c); (with_reducible refine (HCX.out _ (by repeat (with_reducible (first | exact HHW.out | refine below_drew ?_ | fail)))).mono ?_); rintro e w2 ⟨v1, rfl, hLx, hb1⟩; obtain ⟨rx, qx, rfl⟩ : ∃ a c, v1 = .slice a xs.length c := by (obtain ⟨a, c, h, _⟩ := hLx.toIn; exact ⟨a, c, h⟩)))
    have bR : Blk ((((w3.setCell ⟨B + 1, 0, none⟩ (.int .i64 k)).setCell ⟨B + 1, 1, none⟩ (.int .i64 n)).setCell ⟨B + 1, 2, none⟩ (.slice rx xs.length qx)).setCell ⟨B + 1, 3, none⟩ (.slice rc cs.length qc)) (B + 1) #[.int .i64 k, .int .i64 n, .slice rx xs.length qx, .slice rc cs.length qc] 45 := (((((((show Blk W1.drew (B + 1) _ _ from HR1.out).next hb1).next hb2).set 0 (.int .i64 k)).set 1 (.int .i64 n)).set 2 (.slice rx xs.length qx)).set 3 (.slice rc cs.length qc))
    have hBB : Below B w ((((w3.setCell ⟨B + 1, 0, none⟩ (.int .i64 k)).setCell ⟨B + 1, 1, none⟩ (.int .i64 n)).setCell ⟨B + 1, 2, none⟩ (.slice rx xs.length qx)).setCell ⟨B + 1, 3, none⟩ (.slice rc cs.length qc)) := ((((((HB1.out.drew.trans (hb1.mono (by have e0 : W1.drew.heap.size = B + 2 := HS1.out;  omega))).trans (hb2.mono (by have e0 : W1.drew.heap.size = B + 2 := HS1.out; have := hb1.size;  omega))).setCell (p := ⟨B + 1, 0, none⟩) (by simp) (.int .i64 k)).setCell (p := ⟨B + 1, 1, none⟩) (by simp) (.int .i64 n)).setCell (p := ⟨B + 1, 2, none⟩) (by simp) (.slice rx xs.length qx)).setCell (p := ⟨B + 1, 3, none⟩) (by simp) (.slice rc cs.length qc))
    have hother : ∀ q, B + 2 ≤ q → (((((w3.setCell ⟨B + 1, 0, none⟩ (.int .i64 k)).setCell ⟨B + 1, 1, none⟩ (.int .i64 n)).setCell ⟨B + 1, 2, none⟩ (.slice rx xs.length qx)).setCell ⟨B + 1, 3, none⟩ (.slice rc cs.length qc))).heap[q]? = w3.heap[q]? := fun q hq => by
      rw [Below.heap_setCell _ ⟨B + 1, 3, none⟩ _ q (by simp only; omega), Below.heap_setCell _ ⟨B + 1, 2, none⟩ _ q (by simp only; omega), Below.heap_setCell _ ⟨B + 1, 1, none⟩ _ q (by simp only; omega), Below.heap_setCell _ ⟨B + 1, 0, none⟩ _ q (by simp only; omega)]
    have hsz0 := HS1.out
    have hs1 := hb1.size
    have hs2 := hb2.size
    have hsd : W1.drew.heap.size = W1.heap.size := rfl
    have hMx : SpL ((((w3.setCell ⟨B + 1, 0, none⟩ (.int .i64 k)).setCell ⟨B + 1, 1, none⟩ (.int .i64 n)).setCell ⟨B + 1, 2, none⟩ (.slice rx xs.length qx)).setCell ⟨B + 1, 3, none⟩ (.slice rc cs.length qc)) .E xs (.slice rx xs.length qx) W1.drew.heap.size w2.heap.size := hLx.keep (fun q h1 h2 => (hother q (by omega)).trans (by rw [hb2.block q (by omega)]))
    have hMc : SpL ((((w3.setCell ⟨B + 1, 0, none⟩ (.int .i64 k)).setCell ⟨B + 1, 1, none⟩ (.int .i64 n)).setCell ⟨B + 1, 2, none⟩ (.slice rx xs.length qx)).setCell ⟨B + 1, 3, none⟩ (.slice rc cs.length qc)) .C cs (.slice rc cs.length qc) w2.heap.size w3.heap.size := hLc.keep (fun q h1 h2 => (hother q (by omega)).trans (rfl))
    have hWs : (((((w3.setCell ⟨B + 1, 0, none⟩ (.int .i64 k)).setCell ⟨B + 1, 1, none⟩ (.int .i64 n)).setCell ⟨B + 1, 2, none⟩ (.slice rx xs.length qx)).setCell ⟨B + 1, 3, none⟩ (.slice rc cs.length qc))).heap.size = w3.heap.size := by simp
    obtain ⟨W, hW⟩ : ∃ W, ((((w3.setCell ⟨B + 1, 0, none⟩ (.int .i64 k)).setCell ⟨B + 1, 1, none⟩ (.int .i64 n)).setCell ⟨B + 1, 2, none⟩ (.slice rx xs.length qx)).setCell ⟨B + 1, 3, none⟩ (.slice rc cs.length qc)) = W := ⟨_, rfl⟩
    rw [hW] at bR hBB hWs hMx hMc ⊢
    have z0 : W.cell? ⟨B + 1, 0, none⟩ = some (.int .i64 k) := bR.cell 0
    have z1 : W.cell? ⟨B + 1, 1, none⟩ = some (.int .i64 n) := bR.cell 1
    have z2 : W.cell? ⟨B + 1, 2, none⟩ = some (.slice rx xs.length qx) := bR.cell 2
    have z3 : W.cell? ⟨B + 1, 3, none⟩ = some (.slice rc cs.length qc) := bR.cell 3
    have hBsz : B ≤ W.heap.size := by omega
    have hfin : SpN W (.mk .C k n ⟨#[]⟩ xs cs [] []) [.int .i64 k, .int .i64 n, .slice rx xs.length qx, .slice rc cs.length qc] w.heap.size W.heap.size := by
      unfold SpN
      exact ⟨⟨rfl, rfl, rfl⟩, HK1.out, HN1.out, HSZ.out, _, _, .slice none 0 0, .slice none 0 0, w2.heap.size, w3.heap.size, w3.heap.size, rfl, SpV.lo hMx (by rw [HBE.out]; omega), hMc, SpV.nil _ _ _ (Nat.le_refl _), SpV.nil _ _ _ (by rw [hWs]; exact Nat.le_refl _)⟩
    have HFIN := Lib.hid hfin; clear hfin
    have HBB := Lib.hid hBB; clear hBB
    clear bR hother hW hWs hsz0 hsd hBsz hs1 hs2 hMx hLx hMc hLc
    go_wp2_with fail
    exact bodyPost_ret (v := .agg #[.int .i64 k, .int .i64 n, .slice rx xs.length qx, .slice rc cs.length qc]) (by simp [results, Try.results71, go_sem, z0, z1, z2, z3]) rfl ⟨[.int .i64 k, .int .i64 n, .slice rx xs.length qx, .slice rc cs.length qc], rfl, HFIN.out, by rw [HBE.out]; exact HBB.out⟩
end Go.Proofs.Ytpildlaloclanaa

/-
  The project's copies of statements and declarations (tree's copies, copyStmt, copyDecl): proved is that a copy is the same tree, in blocks of its own.
-/
namespace Go.Proofs.Ytpildlaloclanaa
open Go Go.RowKit

theorem info_S : (Try.prog.info? 67).map (fun i => (i.zero, i.size, i.bytes)) = some (some (.agg #[.int .i64 0, .string ⟨#[]⟩, .slice none 0 0, .slice none 0 0, .slice none 0 0, .slice none 0 0]), 6, 120) := by kernel_rfl
theorem make_S (n : Nat) (hn : n ≤ 4096) : ∃ Z : Array Value, Z.size = n * 6 ∧ ∀ w : World, (Instr.makeSlice 23 (.int .i64 (n : Int)) (.int .i64 (n : Int))).run Try.prog w = .ok (.slice (some ⟨w.heap.size, 0, none⟩) n n) (w.alloc (.cells Z 67)) := by
  obtain ⟨i0, hi0, hz0, hz1, hz2⟩ := info_parts info_S
  refine ⟨madeCells (Value.cells (.agg #[.int .i64 0, .string ⟨#[]⟩, .slice none 0 0, .slice none 0 0, .slice none 0 0, .slice none 0 0])) (n * 6), size_madeCells _ _, fun w => ?_⟩
  have h := run_make (P := Try.prog) w 23 67 i0 _ Try.underlying23 hi0 hz0 .i64 .i64 (n : Int) (n : Int) (by omega) (Int.le_refl _) (by rw [hz2]; omega) (by omega)
  rw [hz1] at h
  simpa using h

set_option maxRecDepth 100000 in
set_option maxHeartbeats 8000000 in
theorem copiesS_any (w0 : World) (l : List Nd) (hcopy : ∀ i (h : i < l.length), CopyOf 48 w0 l[i]) (v : Value) (w : World) (hl : SlIn w0 .S l v) (hw : Below w0.heap.size w0 w) (hlen : l.length ≤ 4096) :
    Calls Try.prog 47 #[v, .func (.func 48) #[] #[]] w (CopiedL w .S l) := by
  obtain ⟨a, c, rfl, hlc, hcm, hrow⟩ := hl
  by_cases h0 : l.length = 0
  · have hz : ((l.length : Int) == 0) = true := by simp [h0]
    have H0 := Lib.hid h0; clear h0
    clear hrow hcopy
    go_enter Try.func47, Try.ntmps47
    go_wp2_with fail
    go_ret
    exact ⟨.slice none 0 0, rfl, .inl ⟨H0.out, rfl, Nat.le_refl _⟩, Below.refl _ _⟩
  · have hz : ((l.length : Int) == 0) = false := by rw [beq_eq_false_iff_ne]; omega
    obtain ⟨b, o, ha, hr2⟩ := hrow.resolve_left h0
    clear hrow
    subst ha
    have HROW := Lib.hid hr2; clear hr2
    have HCOPY := Lib.hid hcopy; clear hcopy
    have H0 := Lib.hid h0; clear h0
    obtain ⟨Z, hZ, hmk⟩ := make_S l.length hlen
    obtain ⟨B, hBe⟩ : ∃ B, w.heap.size = B := ⟨_, rfl⟩
    obtain ⟨W1, hW1⟩ : ∃ W, w.alloc (.cells Z 67) = W := ⟨_, rfl⟩
    have hB1 : Blk W1 B Z 67 := by rw [← hW1, ← hBe]; exact Blk.new w _ _
    have hb1 : Below B w W1 := by rw [← hW1, ← hBe]; exact (Below.refl _ w).alloc (Nat.le_refl _) _
    have hS1 : W1.heap.size = B + 1 := by rw [← hW1, ← hBe, World.size_alloc]
    have HB1 := Lib.hid hB1; clear hB1
    have HBW1 := Lib.hid hb1; clear hb1
    have HS1 := Lib.hid hS1; clear hS1
    have HZS := Lib.hid hZ; clear hZ
    have HW1 := Lib.hid hW1; clear hW1
    have HBE := Lib.hid hBe; clear hBe
    have HHW := Lib.hid hw; clear hw
    go_enter Try.func47, Try.ntmps47
    go_upto_block 0 with fail
    rw [HW1.out, HBE.out]
    clear hmk
    go_wp2_with fail
    go_loopw [16] (fun x wr => ∃ (i m : Nat) (cs : Array Value), x = .int .i64 i ∧ i ≤ l.length ∧ Blk wr B cs 67 ∧ Hid (cs.size = l.length * 6) ∧ SpR wr .S (l.take i) B 0 (B + 1) m ∧ m ≤ wr.heap.size ∧ Below B w wr) (fun x _ => l.length - (intOf x).toNat)
    case atStart => exact ⟨0, B + 1, Z, rfl, by omega, HB1.out, Lib.hid HZS.out, by rw [List.take_zero]; unfold SpR; exact Nat.le_refl _, by rw [HS1.out]; exact Nat.le_refl _, HBW1.out⟩
    case round =>
      obtain ⟨i, m, cs, rfl, hi, hBr, HCS, hRr, hmr, hbr⟩ := hrel
      have HBR := Lib.hid hBr; clear hBr
      have HRR := Lib.hid hRr; clear hRr
      have HBLW := Lib.hid hbr; clear hbr
      by_cases hlt : i < l.length
      · have hbi : (i : Int) + 1 ≤ 9223372036854775807 := by omega
        have hold : Below w0.heap.size w0 wr := HHW.out.trans (HBLW.out.mono (by have := HHW.out.size; have := HBE.out; omega))
        obtain ⟨hty, u0, u1, u2, u3, u4, u5, m0, m1, m2, m3, m4, m5, hnd⟩ := SlIn.item6 rfl HROW.out i hlt
        obtain ⟨fk, fs, fa, fl, fc, fa2, fl2, fc2, fa3, fl3, fc3, fa4, fl4, fc4, rfl, rfl, rfl, rfl, rfl, rfl⟩ := NdIn.formS hty hnd
        have kk := keeps_below hold
        have k0 := kk _ _ _ m0
        have k1 := kk _ _ _ m1
        have k2 := kk _ _ _ m2
        have k3 := kk _ _ _ m3
        have k4 := kk _ _ _ m4
        have k5 := kk _ _ _ m5
        have hBlt := HBR.out.lt
        have hcp := HCOPY.out i hlt [.int .i64 fk, .string fs, .slice fa fl fc, .slice fa2 fl2 fc2, .slice fa3 fl3 fc3, .slice fa4 fl4 fc4] (wr.alloc (.cells #[.int .i64 fk, .string fs, .slice fa fl fc, .slice fa2 fl2 fc2, .slice fa3 fl3 fc3, .slice fa4 fl4 fc4] 67)) hnd (hold.alloc hold.size _)
        have htk : l.take (i + 1) = l.take i ++ [l[i]] := (List.take_append_getElem hlt).symm
        have hll : (l.take i).length = i := by rw [List.length_take]; omega
        obtain ⟨X, hX⟩ : ∃ X, l[i] = X := ⟨_, rfl⟩
        rw [hX] at hcp htk hty
        have HC := Lib.hid hcp; clear hcp
        have HTK := Lib.hid htk; clear htk
        have HLL := Lib.hid hll; clear hll
        have HTY := Lib.hid hty; clear hty
        have hmr2 : m ≤ wr.heap.size := hmr
        clear m0 m1 m2 m3 m4 m5 kk hold hnd hX
        go_wp2_with fail
        refine HC.out.mono ?_
        rintro e w3 ⟨vs', rfl, hN3, hb3⟩
        have hl4 := (SpN.toIn _ _ _ _ hN3).len
        rw [HTY.out] at hl4
        obtain ⟨p0, p1, p2, p3, p4, p5, rfl⟩ := len6 hl4
        obtain ⟨gk, gs, ga, gl, gc, ga2, gl2, gc2, ga3, gl3, gc3, ga4, gl4, gc4, rfl, rfl, rfl, rfl, rfl, rfl⟩ := NdIn.formS HTY.out (SpN.toIn _ _ _ _ hN3)
        have hb2 : Below wr.heap.size wr w3 := ((Below.refl _ wr).alloc (Nat.le_refl _) (.cells #[.int .i64 fk, .string fs, .slice fa fl fc, .slice fa2 fl2 fc2, .slice fa3 fl3 fc3, .slice fa4 fl4 fc4] 67)).trans (hb3.mono (by simp))
        have hb4 := HBLW.out.trans (hb2.mono (Nat.le_of_lt hBlt))
        have hB2 : Blk w3 B cs 67 := HBR.out.below hb2 hBlt
        have hR2 : SpR w3 .S (l.take i) B 0 (B + 1) m := SpR.keep .S (l.take i) B 0 (B + 1) m (fun k h1 h2 => hb2.block k (by omega)) (fun j u _ hu => (hb2.cell (p := ⟨B, 0 + j, none⟩) hBlt).trans hu) HRR.out
        have hN4 : SpN w3 X [.int .i64 gk, .string gs, .slice ga gl gc, .slice ga2 gl2 gc2, .slice ga3 gl3 gc3, .slice ga4 gl4 gc4] m w3.heap.size := hN3.lo (by simp; omega)
        have hcs : (l.take i).length * 6 + 6 ≤ cs.size := by rw [HCS.out, HLL.out]; omega
        have hcs2 : i * 6 + 6 ≤ cs.size := by rw [HCS.out]; omega
        obtain ⟨hB5, hR5⟩ := sp_put6 rfl hB2 hR2 hN4 HTY.out hcs
        rw [HLL.out] at hB5 hR5
        rw [← HTK.out] at hR5
        have f0 := hB2.free (i * 6)
        have f1 := hB2.free (i * 6 + 1)
        have f2 := hB2.free (i * 6 + 2)
        have f3 := hB2.free (i * 6 + 3)
        have f4 := hB2.free (i * 6 + 4)
        have f5 := hB2.free (i * 6 + 5)
        obtain ⟨z0, y0⟩ : ∃ z, w3.cell? ⟨B, i * 6, none⟩ = some z := ⟨cs[i * 6]'(by omega), by rw [hB2.cell]; exact Array.getElem?_eq_getElem (by omega)⟩
        obtain ⟨z1, y1⟩ : ∃ z, w3.cell? ⟨B, i * 6 + 1, none⟩ = some z := ⟨cs[i * 6 + 1]'(by omega), by rw [hB2.cell]; exact Array.getElem?_eq_getElem (by omega)⟩
        obtain ⟨z2, y2⟩ : ∃ z, w3.cell? ⟨B, i * 6 + 2, none⟩ = some z := ⟨cs[i * 6 + 2]'(by omega), by rw [hB2.cell]; exact Array.getElem?_eq_getElem (by omega)⟩
        obtain ⟨z3, y3⟩ : ∃ z, w3.cell? ⟨B, i * 6 + 3, none⟩ = some z := ⟨cs[i * 6 + 3]'(by omega), by rw [hB2.cell]; exact Array.getElem?_eq_getElem (by omega)⟩
        obtain ⟨z4, y4⟩ : ∃ z, w3.cell? ⟨B, i * 6 + 4, none⟩ = some z := ⟨cs[i * 6 + 4]'(by omega), by rw [hB2.cell]; exact Array.getElem?_eq_getElem (by omega)⟩
        obtain ⟨z5, y5⟩ : ∃ z, w3.cell? ⟨B, i * 6 + 5, none⟩ = some z := ⟨cs[i * 6 + 5]'(by omega), by rw [hB2.cell]; exact Array.getElem?_eq_getElem (by omega)⟩
        have hb5 := ((((((hb4.setCell (p := ⟨B, i * 6, none⟩) (by simp only; omega) (.int .i64 gk)).setCell (p := ⟨B, i * 6 + 1, none⟩) (by simp only; omega) (.string gs)).setCell (p := ⟨B, i * 6 + 2, none⟩) (by simp only; omega) (.slice ga gl gc)).setCell (p := ⟨B, i * 6 + 3, none⟩) (by simp only; omega) (.slice ga2 gl2 gc2)).setCell (p := ⟨B, i * 6 + 4, none⟩) (by simp only; omega) (.slice ga3 gl3 gc3)).setCell (p := ⟨B, i * 6 + 5, none⟩) (by simp only; omega) (.slice ga4 gl4 gc4))
        have hsz5 : w3.heap.size ≤ ((((((w3.setCell ⟨B, i * 6, none⟩ (.int .i64 gk)).setCell ⟨B, i * 6 + 1, none⟩ (.string gs)).setCell ⟨B, i * 6 + 2, none⟩ (.slice ga gl gc)).setCell ⟨B, i * 6 + 3, none⟩ (.slice ga2 gl2 gc2)).setCell ⟨B, i * 6 + 4, none⟩ (.slice ga3 gl3 gc3)).setCell ⟨B, i * 6 + 5, none⟩ (.slice ga4 gl4 gc4)).heap.size := by simp
        obtain ⟨CS5, hCS5⟩ : ∃ c : Array Value, ((((((cs.setIfInBounds (i * 6) (.int .i64 gk)).setIfInBounds (i * 6 + 1) (.string gs)).setIfInBounds (i * 6 + 2) (.slice ga gl gc)).setIfInBounds (i * 6 + 3) (.slice ga2 gl2 gc2)).setIfInBounds (i * 6 + 4) (.slice ga3 gl3 gc3)).setIfInBounds (i * 6 + 5) (.slice ga4 gl4 gc4)) = c := ⟨_, rfl⟩
        have hcsz : CS5.size = l.length * 6 := by rw [← hCS5]; simp [HCS.out]
        rw [hCS5] at hB5
        have HB5 := Lib.hid hB5; clear hB5
        have HR5 := Lib.hid hR5; clear hR5
        have HBL5 := Lib.hid hb5; clear hb5
        have HSZ5 := Lib.hid hsz5; clear hsz5
        have HCS5 := Lib.hid hcsz; clear hcsz
        clear hCS5 hB2 hR2 hN4 hN3 hb3 hb2 hb4 hl4 hcs
        go_wp2_with fail
        go_roundw
        case rel => exact ⟨i + 1, w3.heap.size, CS5, by go_num, by omega, HB5.out, HCS5, HR5.out, HSZ5.out, HBL5.out⟩
        case measure => simp [intOf]; omega
      · obtain rfl : i = l.length := by omega
        have h1 := HRR.out
        rw [List.take_length] at h1
        have HR6 := Lib.hid h1; clear h1
        go_wp2_with fail
        go_ret
        exact ⟨_, rfl, .inr ⟨B, cs, rfl, by rw [HBE.out]; exact Nat.le_refl _, by unfold maxLen; omega, HBR.out, SpR.hi _ _ _ _ _ _ _ HR6.out hmr⟩, by rw [HBE.out]; exact HBLW.out⟩
set_option maxRecDepth 100000 in
set_option maxHeartbeats 16000000 in
theorem copyS_any (w0 : World) : ∀ (N : Nat) (x : Nd), SizeOf.sizeOf x ≤ N → x.ty = .S → Small x → CopyOf 48 w0 x := by
  intro N
  induction N with
  | zero =>
    intro x hN
    obtain ⟨ty, k, n, nm, xs, cs, ts, es⟩ := x
    simp only [Nd.mk.sizeOf_spec] at hN
    omega
  | succ N ih =>
    intro x hN hty hsm vs w hin hw
    have hmem := fun y h => Nd.mem_size (x := x) (y := y) h
    obtain ⟨ty, k, n, nm, xs, cs, ts, es⟩ := x
    simp only [Nd.ty] at hty
    subst hty
    simp only [Nd.xs, Nd.cs, Nd.ts, Nd.es] at hmem
    unfold NdIn at hin
    obtain ⟨hfit, hk1, hn1, hsz, vx, vc, vt, ve, rfl, hx, hc, ht, he⟩ := hin
    simp only [fits] at hfit
    subst hfit
    obtain ⟨hnm, hxs, hcs, hts, hes⟩ := small_S hsm
    have hcopyx : ∀ i (h : i < xs.length), CopyOf 69 w0 xs[i] := fun i h => copyE_any w0 _ xs[i] (Nat.le_refl _) (slIn_ty hx i h) (hxs.at (List.getElem_mem h))
    have HCX := Lib.hid (fun w1 (hb : Below w0.heap.size w0 w1) => copiesE_any w0 xs hcopyx vx w1 hx hb hxs.len)
    have hxv : ∃ a c, vx = .slice a xs.length c := by obtain ⟨a, c, h, _⟩ := hx; exact ⟨a, c, h⟩
    obtain ⟨a, c, rfl⟩ := hxv
    have hcopyc : ∀ i (h : i < cs.length), CopyOf 71 w0 cs[i] := fun i h => copyC_any w0 _ cs[i] (Nat.le_refl _) (slIn_ty hc i h) (hcs.at (List.getElem_mem h))
    have HCC := Lib.hid (fun w1 (hb : Below w0.heap.size w0 w1) => copiesC_any w0 cs hcopyc vc w1 hc hb hcs.len)
    have hcv : ∃ a c, vc = .slice a cs.length c := by obtain ⟨a, c, h, _⟩ := hc; exact ⟨a, c, h⟩
    obtain ⟨a2, c2, rfl⟩ := hcv
    have hcopyt : ∀ i (h : i < ts.length), CopyOf 48 w0 ts[i] := fun i h => ih ts[i] (by have := hmem _ (.inr (.inr (.inl (List.getElem_mem h)))); omega) (slIn_ty ht i h) (hts.at (List.getElem_mem h))
    have HCT := Lib.hid (fun w1 (hb : Below w0.heap.size w0 w1) => copiesS_any w0 ts hcopyt vt w1 ht hb hts.len)
    have htv : ∃ a c, vt = .slice a ts.length c := by obtain ⟨a, c, h, _⟩ := ht; exact ⟨a, c, h⟩
    obtain ⟨a3, c3, rfl⟩ := htv
    have hcopye : ∀ i (h : i < es.length), CopyOf 48 w0 es[i] := fun i h => ih es[i] (by have := hmem _ (.inr (.inr (.inr (List.getElem_mem h)))); omega) (slIn_ty he i h) (hes.at (List.getElem_mem h))
    have HCE := Lib.hid (fun w1 (hb : Below w0.heap.size w0 w1) => copiesS_any w0 es hcopye ve w1 he hb hes.len)
    have hev : ∃ a c, ve = .slice a es.length c := by obtain ⟨a, c, h, _⟩ := he; exact ⟨a, c, h⟩
    obtain ⟨a4, c4, rfl⟩ := hev
    clear hx hcopyx hxs hc hcopyc hcs ht hcopyt hts he hcopye hes ih hmem hN hsm
    change Calls _ _ #[.agg #[.int .i64 k, .string nm, .slice a xs.length c, .slice a2 cs.length c2, .slice a3 ts.length c3, .slice a4 es.length c4]] w _
    obtain ⟨B, hBe⟩ : ∃ B, w.heap.size = B := ⟨_, rfl⟩
    obtain ⟨W1, hW1⟩ : ∃ W, (w.alloc (.cells #[.int .i64 k, .string nm, .slice a xs.length c, .slice a2 cs.length c2, .slice a3 ts.length c3, .slice a4 es.length c4] 67)).alloc (.cells #[.int .i64 0, .string ⟨#[]⟩, .slice none 0 0, .slice none 0 0, .slice none 0 0, .slice none 0 0] 67) = W := ⟨_, rfl⟩
    have hX1 : Blk W1 B #[.int .i64 k, .string nm, .slice a xs.length c, .slice a2 cs.length c2, .slice a3 ts.length c3, .slice a4 es.length c4] 67 := by rw [← hW1, ← hBe]; exact (Blk.new w _ _).alloc _
    have hR1 : Blk W1 (B + 1) #[.int .i64 0, .string ⟨#[]⟩, .slice none 0 0, .slice none 0 0, .slice none 0 0, .slice none 0 0] 67 := by rw [← hW1, ← hBe]; exact blk_second w _ _ _
    have hb1 : Below B w W1 := by rw [← hW1, ← hBe]; exact ((Below.refl _ w).alloc (Nat.le_refl _) _).alloc (by simp) _
    have hS1 : W1.heap.size = B + 2 := by rw [← hW1, ← hBe, World.size_alloc, World.size_alloc]
    have HX1 := Lib.hid hX1; clear hX1
    have HR1 := Lib.hid hR1; clear hR1
    have HB1 := Lib.hid hb1; clear hb1
    have HS1 := Lib.hid hS1; clear hS1
    have HNM := Lib.hid hnm; clear hnm
    have HBE := Lib.hid hBe; clear hBe
    have HHW := Lib.hid (hw.trans (HB1.out.mono (by have := hw.size; have := HBE.out; omega))); clear hw
    have HW1 := Lib.hid hW1; clear hW1
    have HK1 := Lib.hid hk1; clear hk1
    have HN1 := Lib.hid hn1; clear hn1
    have HSZ := Lib.hid hsz; clear hsz
    go_enter Try.func48, Try.ntmps48
    go_upto_region 1 with fail
    rw [HW1.out, HBE.out]
    clear HW1
    have hG0 : Res B #[.int .i64 k, .string nm, .slice a xs.length c, .slice a2 cs.length c2, .slice a3 ts.length c3, .slice a4 es.length c4] 67 6 W1 := ⟨HX1.out, _, HR1.out, rfl⟩
    have HG0 := Lib.hid hG0; clear hG0
    have KS := fun w' (hW : Res B #[.int .i64 k, .string nm, .slice a xs.length c, .slice a2 cs.length c2, .slice a3 ts.length c3, .slice a4 es.length c4] 67 6 w') => (⟨hW.blk.cell 0, hW.blk.cell 1, hW.blk.cell 2, hW.blk.cell 3, hW.blk.cell 4, hW.blk.cell 5, hW.free 0, hW.free 1, hW.free 2, hW.free 3, hW.free 4, hW.free 5, hW.any (j := 0) (by decide), hW.any (j := 1) (by decide), hW.any (j := 2) (by decide), hW.any (j := 3) (by decide), hW.any (j := 4) (by decide), hW.any (j := 5) (by decide)⟩ : w'.cell? ⟨B, 0, none⟩ = some (.int .i64 k) ∧ w'.cell? ⟨B, 1, none⟩ = some (.string nm) ∧ w'.cell? ⟨B, 2, none⟩ = some (.slice a xs.length c) ∧ w'.cell? ⟨B, 3, none⟩ = some (.slice a2 cs.length c2) ∧ w'.cell? ⟨B, 4, none⟩ = some (.slice a3 ts.length c3) ∧ w'.cell? ⟨B, 5, none⟩ = some (.slice a4 es.length c4) ∧ w'.frozen? ⟨B + 1, 0, none⟩ = false ∧ w'.frozen? ⟨B + 1, 1, none⟩ = false ∧ w'.frozen? ⟨B + 1, 2, none⟩ = false ∧ w'.frozen? ⟨B + 1, 3, none⟩ = false ∧ w'.frozen? ⟨B + 1, 4, none⟩ = false ∧ w'.frozen? ⟨B + 1, 5, none⟩ = false ∧ w'.cell? ⟨B + 1, 0, none⟩ = some (cellOr w' ⟨B + 1, 0, none⟩) ∧ w'.cell? ⟨B + 1, 1, none⟩ = some (cellOr w' ⟨B + 1, 1, none⟩) ∧ w'.cell? ⟨B + 1, 2, none⟩ = some (cellOr w' ⟨B + 1, 2, none⟩) ∧ w'.cell? ⟨B + 1, 3, none⟩ = some (cellOr w' ⟨B + 1, 3, none⟩) ∧ w'.cell? ⟨B + 1, 4, none⟩ = some (cellOr w' ⟨B + 1, 4, none⟩) ∧ w'.cell? ⟨B + 1, 5, none⟩ = some (cellOr w' ⟨B + 1, 5, none⟩))
    go_region_held3 (fun w' => w'.cell? ⟨B, 0, none⟩ = some (.int .i64 k) ∧ w'.cell? ⟨B, 1, none⟩ = some (.string nm) ∧ w'.cell? ⟨B, 2, none⟩ = some (.slice a xs.length c) ∧ w'.cell? ⟨B, 3, none⟩ = some (.slice a2 cs.length c2) ∧ w'.cell? ⟨B, 4, none⟩ = some (.slice a3 ts.length c3) ∧ w'.cell? ⟨B, 5, none⟩ = some (.slice a4 es.length c4) ∧ w'.frozen? ⟨B + 1, 0, none⟩ = false ∧ w'.frozen? ⟨B + 1, 1, none⟩ = false ∧ w'.frozen? ⟨B + 1, 2, none⟩ = false ∧ w'.frozen? ⟨B + 1, 3, none⟩ = false ∧ w'.frozen? ⟨B + 1, 4, none⟩ = false ∧ w'.frozen? ⟨B + 1, 5, none⟩ = false ∧ w'.cell? ⟨B + 1, 0, none⟩ = some (cellOr w' ⟨B + 1, 0, none⟩) ∧ w'.cell? ⟨B + 1, 1, none⟩ = some (cellOr w' ⟨B + 1, 1, none⟩) ∧ w'.cell? ⟨B + 1, 2, none⟩ = some (cellOr w' ⟨B + 1, 2, none⟩) ∧ w'.cell? ⟨B + 1, 3, none⟩ = some (cellOr w' ⟨B + 1, 3, none⟩) ∧ w'.cell? ⟨B + 1, 4, none⟩ = some (cellOr w' ⟨B + 1, 4, none⟩) ∧ w'.cell? ⟨B + 1, 5, none⟩ = some (cellOr w' ⟨B + 1, 5, none⟩))
      ((with_reducible refine KS _ ?_; repeat (with_reducible (first | exact HG0.out | refine Res.drew ?_ | refine Res.set ?_ _ _ | refine Res.next ?_ hb5 | refine Res.next ?_ hb4 | refine Res.next ?_ hb3 | refine Res.next ?_ hb2 | refine Res.next ?_ hb1 | fail))))
      (first | (go_at_call_of 47 (Value.slice a4 es.length c4); (with_reducible refine (HCE.out _ (by repeat (with_reducible (first | exact HHW.out | refine below_drew ?_ | refine below_next ?_ hb4 | refine below_next ?_ hb3 | refine below_next ?_ hb2 | refine below_next ?_ hb1 | fail)))).mono ?_); rintro e w6 ⟨v5, rfl, hLe, hb5⟩; obtain ⟨re, qe, rfl⟩ : ∃ a c, v5 = .slice a es.length c := by (obtain ⟨a, c, h, _⟩ := hLe.toIn; exact ⟨a, c, h⟩)) | (go_at_call_of 47 (Value.slice a3 ts.length c3); (with_reducible refine (HCT.out _ (by repeat (with_reducible (first | exact HHW.out | refine below_drew ?_ | refine below_next ?_ hb3 | refine below_next ?_ hb2 | refine below_next ?_ hb1 | fail)))).mono ?_); rintro e w5 ⟨v4, rfl, hLt, hb4⟩; obtain ⟨rt, qt, rfl⟩ : ∃ a c, v4 = .slice a ts.length c := by (obtain ⟨a, c, h, _⟩ := hLt.toIn; exact ⟨a, c, h⟩)) | (go_at_call_of 70 (Value.slice a2 cs.length c2); (with_reducible refine (HCC.out _ (by repeat (with_reducible (first | exact HHW.out | refine below_drew ?_ | refine below_next ?_ hb2 | refine below_next ?_ hb1 | fail)))).mono ?_); rintro e w4 ⟨v3, rfl, hLc, hb3⟩; obtain ⟨rc, qc, rfl⟩ : ∃ a c, v3 = .slice a cs.length c := by (obtain ⟨a, c, h, _⟩ := hLc.toIn; exact ⟨a, c, h⟩)) | (go_at_call_of 68 (Value.slice a xs.length c); (with_reducible refine (HCX.out _ (by repeat (with_reducible (first | exact HHW.out | refine below_drew ?_ | refine below_next ?_ hb1 | fail)))).mono ?_); rintro e w3 ⟨v2, rfl, hLx, hb2⟩; obtain ⟨rx, qx, rfl⟩ : ∃ a c, v2 = .slice a xs.length c := by (obtain ⟨a, c, h, _⟩ := hLx.toIn; exact ⟨a, c, h⟩)) | (go_at_call 33; (with_reducible refine (clone_any _ _ HNM.out).mono ?_); rintro e w2 ⟨rfl, hb1⟩))
    have bR : Blk ((((((w6.setCell ⟨B + 1, 0, none⟩ (.int .i64 k)).setCell ⟨B + 1, 1, none⟩ (.string nm)).setCell ⟨B + 1, 2, none⟩ (.slice rx xs.length qx)).setCell ⟨B + 1, 3, none⟩ (.slice rc cs.length qc)).setCell ⟨B + 1, 4, none⟩ (.slice rt ts.length qt)).setCell ⟨B + 1, 5, none⟩ (.slice re es.length qe)) (B + 1) #[.int .i64 k, .string nm, .slice rx xs.length qx, .slice rc cs.length qc, .slice rt ts.length qt, .slice re es.length qe] 67 := ((((((((((((show Blk W1.drew (B + 1) _ _ from HR1.out).next hb1).next hb2).next hb3).next hb4).next hb5).set 0 (.int .i64 k)).set 1 (.string nm)).set 2 (.slice rx xs.length qx)).set 3 (.slice rc cs.length qc)).set 4 (.slice rt ts.length qt)).set 5 (.slice re es.length qe))
    have hBB : Below B w ((((((w6.setCell ⟨B + 1, 0, none⟩ (.int .i64 k)).setCell ⟨B + 1, 1, none⟩ (.string nm)).setCell ⟨B + 1, 2, none⟩ (.slice rx xs.length qx)).setCell ⟨B + 1, 3, none⟩ (.slice rc cs.length qc)).setCell ⟨B + 1, 4, none⟩ (.slice rt ts.length qt)).setCell ⟨B + 1, 5, none⟩ (.slice re es.length qe)) := (((((((((((HB1.out.drew.trans (hb1.mono (by have e0 : W1.drew.heap.size = B + 2 := HS1.out;  omega))).trans (hb2.mono (by have e0 : W1.drew.heap.size = B + 2 := HS1.out; have := hb1.size;  omega))).trans (hb3.mono (by have e0 : W1.drew.heap.size = B + 2 := HS1.out; have := hb1.size; have := hb2.size;  omega))).trans (hb4.mono (by have e0 : W1.drew.heap.size = B + 2 := HS1.out; have := hb1.size; have := hb2.size; have := hb3.size;  omega))).trans (hb5.mono (by have e0 : W1.drew.heap.size = B + 2 := HS1.out; have := hb1.size; have := hb2.size; have := hb3.size; have := hb4.size;  omega))).setCell (p := ⟨B + 1, 0, none⟩) (by simp) (.int .i64 k)).setCell (p := ⟨B + 1, 1, none⟩) (by simp) (.string nm)).setCell (p := ⟨B + 1, 2, none⟩) (by simp) (.slice rx xs.length qx)).setCell (p := ⟨B + 1, 3, none⟩) (by simp) (.slice rc cs.length qc)).setCell (p := ⟨B + 1, 4, none⟩) (by simp) (.slice rt ts.length qt)).setCell (p := ⟨B + 1, 5, none⟩) (by simp) (.slice re es.length qe))
    have hother : ∀ q, B + 2 ≤ q → (((((((w6.setCell ⟨B + 1, 0, none⟩ (.int .i64 k)).setCell ⟨B + 1, 1, none⟩ (.string nm)).setCell ⟨B + 1, 2, none⟩ (.slice rx xs.length qx)).setCell ⟨B + 1, 3, none⟩ (.slice rc cs.length qc)).setCell ⟨B + 1, 4, none⟩ (.slice rt ts.length qt)).setCell ⟨B + 1, 5, none⟩ (.slice re es.length qe))).heap[q]? = w6.heap[q]? := fun q hq => by
      rw [Below.heap_setCell _ ⟨B + 1, 5, none⟩ _ q (by simp only; omega), Below.heap_setCell _ ⟨B + 1, 4, none⟩ _ q (by simp only; omega), Below.heap_setCell _ ⟨B + 1, 3, none⟩ _ q (by simp only; omega), Below.heap_setCell _ ⟨B + 1, 2, none⟩ _ q (by simp only; omega), Below.heap_setCell _ ⟨B + 1, 1, none⟩ _ q (by simp only; omega), Below.heap_setCell _ ⟨B + 1, 0, none⟩ _ q (by simp only; omega)]
    have hsz0 := HS1.out
    have hs1 := hb1.size
    have hs2 := hb2.size
    have hs3 := hb3.size
    have hs4 := hb4.size
    have hs5 := hb5.size
    have hsd : W1.drew.heap.size = W1.heap.size := rfl
    have hMx : SpL ((((((w6.setCell ⟨B + 1, 0, none⟩ (.int .i64 k)).setCell ⟨B + 1, 1, none⟩ (.string nm)).setCell ⟨B + 1, 2, none⟩ (.slice rx xs.length qx)).setCell ⟨B + 1, 3, none⟩ (.slice rc cs.length qc)).setCell ⟨B + 1, 4, none⟩ (.slice rt ts.length qt)).setCell ⟨B + 1, 5, none⟩ (.slice re es.length qe)) .E xs (.slice rx xs.length qx) w2.heap.size w3.heap.size := hLx.keep (fun q h1 h2 => (hother q (by omega)).trans (by rw [hb5.block q (by omega), hb4.block q (by omega), hb3.block q (by omega)]))
    have hMc : SpL ((((((w6.setCell ⟨B + 1, 0, none⟩ (.int .i64 k)).setCell ⟨B + 1, 1, none⟩ (.string nm)).setCell ⟨B + 1, 2, none⟩ (.slice rx xs.length qx)).setCell ⟨B + 1, 3, none⟩ (.slice rc cs.length qc)).setCell ⟨B + 1, 4, none⟩ (.slice rt ts.length qt)).setCell ⟨B + 1, 5, none⟩ (.slice re es.length qe)) .C cs (.slice rc cs.length qc) w3.heap.size w4.heap.size := hLc.keep (fun q h1 h2 => (hother q (by omega)).trans (by rw [hb5.block q (by omega), hb4.block q (by omega)]))
    have hMt : SpL ((((((w6.setCell ⟨B + 1, 0, none⟩ (.int .i64 k)).setCell ⟨B + 1, 1, none⟩ (.string nm)).setCell ⟨B + 1, 2, none⟩ (.slice rx xs.length qx)).setCell ⟨B + 1, 3, none⟩ (.slice rc cs.length qc)).setCell ⟨B + 1, 4, none⟩ (.slice rt ts.length qt)).setCell ⟨B + 1, 5, none⟩ (.slice re es.length qe)) .S ts (.slice rt ts.length qt) w4.heap.size w5.heap.size := hLt.keep (fun q h1 h2 => (hother q (by omega)).trans (by rw [hb5.block q (by omega)]))
    have hMe : SpL ((((((w6.setCell ⟨B + 1, 0, none⟩ (.int .i64 k)).setCell ⟨B + 1, 1, none⟩ (.string nm)).setCell ⟨B + 1, 2, none⟩ (.slice rx xs.length qx)).setCell ⟨B + 1, 3, none⟩ (.slice rc cs.length qc)).setCell ⟨B + 1, 4, none⟩ (.slice rt ts.length qt)).setCell ⟨B + 1, 5, none⟩ (.slice re es.length qe)) .S es (.slice re es.length qe) w5.heap.size w6.heap.size := hLe.keep (fun q h1 h2 => (hother q (by omega)).trans (rfl))
    have hWs : (((((((w6.setCell ⟨B + 1, 0, none⟩ (.int .i64 k)).setCell ⟨B + 1, 1, none⟩ (.string nm)).setCell ⟨B + 1, 2, none⟩ (.slice rx xs.length qx)).setCell ⟨B + 1, 3, none⟩ (.slice rc cs.length qc)).setCell ⟨B + 1, 4, none⟩ (.slice rt ts.length qt)).setCell ⟨B + 1, 5, none⟩ (.slice re es.length qe))).heap.size = w6.heap.size := by simp
    obtain ⟨W, hW⟩ : ∃ W, ((((((w6.setCell ⟨B + 1, 0, none⟩ (.int .i64 k)).setCell ⟨B + 1, 1, none⟩ (.string nm)).setCell ⟨B + 1, 2, none⟩ (.slice rx xs.length qx)).setCell ⟨B + 1, 3, none⟩ (.slice rc cs.length qc)).setCell ⟨B + 1, 4, none⟩ (.slice rt ts.length qt)).setCell ⟨B + 1, 5, none⟩ (.slice re es.length qe)) = W := ⟨_, rfl⟩
    rw [hW] at bR hBB hWs hMx hMc hMt hMe ⊢
    have z0 : W.cell? ⟨B + 1, 0, none⟩ = some (.int .i64 k) := bR.cell 0
    have z1 : W.cell? ⟨B + 1, 1, none⟩ = some (.string nm) := bR.cell 1
    have z2 : W.cell? ⟨B + 1, 2, none⟩ = some (.slice rx xs.length qx) := bR.cell 2
    have z3 : W.cell? ⟨B + 1, 3, none⟩ = some (.slice rc cs.length qc) := bR.cell 3
    have z4 : W.cell? ⟨B + 1, 4, none⟩ = some (.slice rt ts.length qt) := bR.cell 4
    have z5 : W.cell? ⟨B + 1, 5, none⟩ = some (.slice re es.length qe) := bR.cell 5
    have hBsz : B ≤ W.heap.size := by omega
    have hfin : SpN W (.mk .S k 0 nm xs cs ts es) [.int .i64 k, .string nm, .slice rx xs.length qx, .slice rc cs.length qc, .slice rt ts.length qt, .slice re es.length qe] w.heap.size W.heap.size := by
      unfold SpN
      exact ⟨rfl, HK1.out, HN1.out, HSZ.out, _, _, _, _, w3.heap.size, w4.heap.size, w5.heap.size, rfl, SpV.lo hMx (by rw [HBE.out]; omega), hMc, hMt, SpL.hi hMe (by rw [hWs]; exact Nat.le_refl _)⟩
    have HFIN := Lib.hid hfin; clear hfin
    have HBB := Lib.hid hBB; clear hBB
    clear bR hother hW hWs hsz0 hsd hBsz hs1 hs2 hs3 hs4 hs5 hMx hLx hMc hLc hMt hLt hMe hLe
    go_wp2_with fail
    exact bodyPost_ret (v := .agg #[.int .i64 k, .string nm, .slice rx xs.length qx, .slice rc cs.length qc, .slice rt ts.length qt, .slice re es.length qe]) (by simp [results, Try.results48, go_sem, z0, z1, z2, z3, z4, z5]) rfl ⟨[.int .i64 k, .string nm, .slice rx xs.length qx, .slice rc cs.length qc, .slice rt ts.length qt, .slice re es.length qe], rfl, HFIN.out, by rw [HBE.out]; exact HBB.out⟩

theorem info_D : (Try.prog.info? 63).map (fun i => (i.zero, i.size, i.bytes)) = some (some (.agg #[.string ⟨#[]⟩, .int .i64 0]), 2, 24) := by kernel_rfl
theorem make_D (n : Nat) (hn : n ≤ 4096) : ∃ Z : Array Value, Z.size = n * 2 ∧ ∀ w : World, (Instr.makeSlice 22 (.int .i64 (n : Int)) (.int .i64 (n : Int))).run Try.prog w = .ok (.slice (some ⟨w.heap.size, 0, none⟩) n n) (w.alloc (.cells Z 63)) := by
  obtain ⟨i0, hi0, hz0, hz1, hz2⟩ := info_parts info_D
  refine ⟨madeCells (Value.cells (.agg #[.string ⟨#[]⟩, .int .i64 0])) (n * 2), size_madeCells _ _, fun w => ?_⟩
  have h := run_make (P := Try.prog) w 22 63 i0 _ Try.underlying22 hi0 hz0 .i64 .i64 (n : Int) (n : Int) (by omega) (Int.le_refl _) (by rw [hz2]; omega) (by omega)
  rw [hz1] at h
  simpa using h

set_option maxRecDepth 100000 in
set_option maxHeartbeats 8000000 in
theorem copiesD_any (w0 : World) (l : List Nd) (hcopy : ∀ i (h : i < l.length), CopyOf 46 w0 l[i]) (v : Value) (w : World) (hl : SlIn w0 .D l v) (hw : Below w0.heap.size w0 w) (hlen : l.length ≤ 4096) :
    Calls Try.prog 45 #[v, .func (.func 46) #[] #[]] w (CopiedL w .D l) := by
  obtain ⟨a, c, rfl, hlc, hcm, hrow⟩ := hl
  by_cases h0 : l.length = 0
  · have hz : ((l.length : Int) == 0) = true := by simp [h0]
    have H0 := Lib.hid h0; clear h0
    clear hrow hcopy
    go_enter Try.func45, Try.ntmps45
    go_wp2_with fail
    go_ret
    exact ⟨.slice none 0 0, rfl, .inl ⟨H0.out, rfl, Nat.le_refl _⟩, Below.refl _ _⟩
  · have hz : ((l.length : Int) == 0) = false := by rw [beq_eq_false_iff_ne]; omega
    obtain ⟨b, o, ha, hr2⟩ := hrow.resolve_left h0
    clear hrow
    subst ha
    have HROW := Lib.hid hr2; clear hr2
    have HCOPY := Lib.hid hcopy; clear hcopy
    have H0 := Lib.hid h0; clear h0
    obtain ⟨Z, hZ, hmk⟩ := make_D l.length hlen
    obtain ⟨B, hBe⟩ : ∃ B, w.heap.size = B := ⟨_, rfl⟩
    obtain ⟨W1, hW1⟩ : ∃ W, w.alloc (.cells Z 63) = W := ⟨_, rfl⟩
    have hB1 : Blk W1 B Z 63 := by rw [← hW1, ← hBe]; exact Blk.new w _ _
    have hb1 : Below B w W1 := by rw [← hW1, ← hBe]; exact (Below.refl _ w).alloc (Nat.le_refl _) _
    have hS1 : W1.heap.size = B + 1 := by rw [← hW1, ← hBe, World.size_alloc]
    have HB1 := Lib.hid hB1; clear hB1
    have HBW1 := Lib.hid hb1; clear hb1
    have HS1 := Lib.hid hS1; clear hS1
    have HZS := Lib.hid hZ; clear hZ
    have HW1 := Lib.hid hW1; clear hW1
    have HBE := Lib.hid hBe; clear hBe
    have HHW := Lib.hid hw; clear hw
    go_enter Try.func45, Try.ntmps45
    go_upto_block 0 with fail
    rw [HW1.out, HBE.out]
    clear hmk
    go_wp2_with fail
    go_loopw [16] (fun x wr => ∃ (i m : Nat) (cs : Array Value), x = .int .i64 i ∧ i ≤ l.length ∧ Blk wr B cs 63 ∧ Hid (cs.size = l.length * 2) ∧ SpR wr .D (l.take i) B 0 (B + 1) m ∧ m ≤ wr.heap.size ∧ Below B w wr) (fun x _ => l.length - (intOf x).toNat)
    case atStart => exact ⟨0, B + 1, Z, rfl, by omega, HB1.out, Lib.hid HZS.out, by rw [List.take_zero]; unfold SpR; exact Nat.le_refl _, by rw [HS1.out]; exact Nat.le_refl _, HBW1.out⟩
    case round =>
      obtain ⟨i, m, cs, rfl, hi, hBr, HCS, hRr, hmr, hbr⟩ := hrel
      have HBR := Lib.hid hBr; clear hBr
      have HRR := Lib.hid hRr; clear hRr
      have HBLW := Lib.hid hbr; clear hbr
      by_cases hlt : i < l.length
      · have hbi : (i : Int) + 1 ≤ 9223372036854775807 := by omega
        have hold : Below w0.heap.size w0 wr := HHW.out.trans (HBLW.out.mono (by have := HHW.out.size; have := HBE.out; omega))
        obtain ⟨hty, u0, u1, m0, m1, hnd⟩ := SlIn.item2 rfl HROW.out i hlt
        obtain ⟨fs, fn, rfl, rfl⟩ := NdIn.formD hty hnd
        have kk := keeps_below hold
        have k0 := kk _ _ _ m0
        have k1 := kk _ _ _ m1
        have hBlt := HBR.out.lt
        have hcp := HCOPY.out i hlt [.string fs, .int .i64 fn] (wr.alloc (.cells #[.string fs, .int .i64 fn] 63)) hnd (hold.alloc hold.size _)
        have htk : l.take (i + 1) = l.take i ++ [l[i]] := (List.take_append_getElem hlt).symm
        have hll : (l.take i).length = i := by rw [List.length_take]; omega
        obtain ⟨X, hX⟩ : ∃ X, l[i] = X := ⟨_, rfl⟩
        rw [hX] at hcp htk hty
        have HC := Lib.hid hcp; clear hcp
        have HTK := Lib.hid htk; clear htk
        have HLL := Lib.hid hll; clear hll
        have HTY := Lib.hid hty; clear hty
        have hmr2 : m ≤ wr.heap.size := hmr
        clear m0 m1 kk hold hnd hX
        go_wp2_with fail
        refine HC.out.mono ?_
        rintro e w3 ⟨vs', rfl, hN3, hb3⟩
        have hl4 := (SpN.toIn _ _ _ _ hN3).len
        rw [HTY.out] at hl4
        obtain ⟨p0, p1, rfl⟩ := len2 hl4
        obtain ⟨gs, gn, rfl, rfl⟩ := NdIn.formD HTY.out (SpN.toIn _ _ _ _ hN3)
        have hb2 : Below wr.heap.size wr w3 := ((Below.refl _ wr).alloc (Nat.le_refl _) (.cells #[.string fs, .int .i64 fn] 63)).trans (hb3.mono (by simp))
        have hb4 := HBLW.out.trans (hb2.mono (Nat.le_of_lt hBlt))
        have hB2 : Blk w3 B cs 63 := HBR.out.below hb2 hBlt
        have hR2 : SpR w3 .D (l.take i) B 0 (B + 1) m := SpR.keep .D (l.take i) B 0 (B + 1) m (fun k h1 h2 => hb2.block k (by omega)) (fun j u _ hu => (hb2.cell (p := ⟨B, 0 + j, none⟩) hBlt).trans hu) HRR.out
        have hN4 : SpN w3 X [.string gs, .int .i64 gn] m w3.heap.size := hN3.lo (by simp; omega)
        have hcs : (l.take i).length * 2 + 2 ≤ cs.size := by rw [HCS.out, HLL.out]; omega
        have hcs2 : i * 2 + 2 ≤ cs.size := by rw [HCS.out]; omega
        obtain ⟨hB5, hR5⟩ := sp_put2 rfl hB2 hR2 hN4 HTY.out hcs
        rw [HLL.out] at hB5 hR5
        rw [← HTK.out] at hR5
        have f0 := hB2.free (i * 2)
        have f1 := hB2.free (i * 2 + 1)
        obtain ⟨z0, y0⟩ : ∃ z, w3.cell? ⟨B, i * 2, none⟩ = some z := ⟨cs[i * 2]'(by omega), by rw [hB2.cell]; exact Array.getElem?_eq_getElem (by omega)⟩
        obtain ⟨z1, y1⟩ : ∃ z, w3.cell? ⟨B, i * 2 + 1, none⟩ = some z := ⟨cs[i * 2 + 1]'(by omega), by rw [hB2.cell]; exact Array.getElem?_eq_getElem (by omega)⟩
        have hb5 := ((hb4.setCell (p := ⟨B, i * 2, none⟩) (by simp only; omega) (.string gs)).setCell (p := ⟨B, i * 2 + 1, none⟩) (by simp only; omega) (.int .i64 gn))
        have hsz5 : w3.heap.size ≤ ((w3.setCell ⟨B, i * 2, none⟩ (.string gs)).setCell ⟨B, i * 2 + 1, none⟩ (.int .i64 gn)).heap.size := by simp
        obtain ⟨CS5, hCS5⟩ : ∃ c : Array Value, ((cs.setIfInBounds (i * 2) (.string gs)).setIfInBounds (i * 2 + 1) (.int .i64 gn)) = c := ⟨_, rfl⟩
        have hcsz : CS5.size = l.length * 2 := by rw [← hCS5]; simp [HCS.out]
        rw [hCS5] at hB5
        have HB5 := Lib.hid hB5; clear hB5
        have HR5 := Lib.hid hR5; clear hR5
        have HBL5 := Lib.hid hb5; clear hb5
        have HSZ5 := Lib.hid hsz5; clear hsz5
        have HCS5 := Lib.hid hcsz; clear hcsz
        clear hCS5 hB2 hR2 hN4 hN3 hb3 hb2 hb4 hl4 hcs
        go_wp2_with fail
        go_roundw
        case rel => exact ⟨i + 1, w3.heap.size, CS5, by go_num, by omega, HB5.out, HCS5, HR5.out, HSZ5.out, HBL5.out⟩
        case measure => simp [intOf]; omega
      · obtain rfl : i = l.length := by omega
        have h1 := HRR.out
        rw [List.take_length] at h1
        have HR6 := Lib.hid h1; clear h1
        go_wp2_with fail
        go_ret
        exact ⟨_, rfl, .inr ⟨B, cs, rfl, by rw [HBE.out]; exact Nat.le_refl _, by unfold maxLen; omega, HBR.out, SpR.hi _ _ _ _ _ _ _ HR6.out hmr⟩, by rw [HBE.out]; exact HBLW.out⟩
set_option maxRecDepth 100000 in
set_option maxHeartbeats 16000000 in
theorem copyD_any (w0 : World) (x : Nd) (hty : x.ty = .D) (hsm : Small x) : CopyOf 46 w0 x := by
  intro vs w hin hw
  obtain ⟨ty, k, n, nm, xs, cs, ts, es⟩ := x
  simp only [Nd.ty] at hty
  subst hty
  unfold NdIn at hin
  obtain ⟨⟨rfl, rfl, rfl, rfl, rfl⟩, hk1, hn1, hsz, vx, vc, vt, ve, rfl, -, -, -, -⟩ := hin
  have hnm := small_D hsm
  change Calls _ _ #[.agg #[.string nm, .int .i64 n]] w _
  obtain ⟨B, hBe⟩ : ∃ B, w.heap.size = B := ⟨_, rfl⟩
  obtain ⟨W1, hW1⟩ : ∃ W, (w.alloc (.cells #[.string nm, .int .i64 n] 63)).alloc (.cells #[.string ⟨#[]⟩, .int .i64 0] 63) = W := ⟨_, rfl⟩
  have hX1 : Blk W1 B #[.string nm, .int .i64 n] 63 := by rw [← hW1, ← hBe]; exact (Blk.new w _ _).alloc _
  have hR1 : Blk W1 (B + 1) #[.string ⟨#[]⟩, .int .i64 0] 63 := by rw [← hW1, ← hBe]; exact blk_second w _ _ _
  have hb1 : Below B w W1 := by rw [← hW1, ← hBe]; exact ((Below.refl _ w).alloc (Nat.le_refl _) _).alloc (by simp) _
  have hS1 : W1.heap.size = B + 2 := by rw [← hW1, ← hBe, World.size_alloc, World.size_alloc]
  have HX1 := Lib.hid hX1; clear hX1
  have HR1 := Lib.hid hR1; clear hR1
  have HB1 := Lib.hid hb1; clear hb1
  have HS1 := Lib.hid hS1; clear hS1
  have HNM := Lib.hid hnm; clear hnm
  have HBE := Lib.hid hBe; clear hBe
  have HHW := Lib.hid (hw.trans (HB1.out.mono (by have := hw.size; have := HBE.out; omega))); clear hw
  have HW1 := Lib.hid hW1; clear hW1
  have HK1 := Lib.hid hk1; clear hk1
  have HN1 := Lib.hid hn1; clear hn1
  have HSZ := Lib.hid hsz; clear hsz
  go_enter Try.func46, Try.ntmps46
  go_upto_region 1 with fail
  rw [HW1.out, HBE.out]
  clear HW1
  have hG0 : Res B #[.string nm, .int .i64 n] 63 2 W1 := ⟨HX1.out, _, HR1.out, rfl⟩
  have HG0 := Lib.hid hG0; clear hG0
  have KS := fun w' (hW : Res B #[.string nm, .int .i64 n] 63 2 w') => (⟨hW.blk.cell 0, hW.blk.cell 1, hW.free 0, hW.free 1, hW.any (j := 0) (by decide), hW.any (j := 1) (by decide)⟩ : w'.cell? ⟨B, 0, none⟩ = some (.string nm) ∧ w'.cell? ⟨B, 1, none⟩ = some (.int .i64 n) ∧ w'.frozen? ⟨B + 1, 0, none⟩ = false ∧ w'.frozen? ⟨B + 1, 1, none⟩ = false ∧ w'.cell? ⟨B + 1, 0, none⟩ = some (cellOr w' ⟨B + 1, 0, none⟩) ∧ w'.cell? ⟨B + 1, 1, none⟩ = some (cellOr w' ⟨B + 1, 1, none⟩))
  go_region_held3 (fun w' => w'.cell? ⟨B, 0, none⟩ = some (.string nm) ∧ w'.cell? ⟨B, 1, none⟩ = some (.int .i64 n) ∧ w'.frozen? ⟨B + 1, 0, none⟩ = false ∧ w'.frozen? ⟨B + 1, 1, none⟩ = false ∧ w'.cell? ⟨B + 1, 0, none⟩ = some (cellOr w' ⟨B + 1, 0, none⟩) ∧ w'.cell? ⟨B + 1, 1, none⟩ = some (cellOr w' ⟨B + 1, 1, none⟩))
    ((with_reducible refine KS _ ?_; repeat (with_reducible (first | exact HG0.out | refine Res.drew ?_ | refine Res.set ?_ _ _ | refine Res.next ?_ hb1 | fail))))
    (first | (go_at_call 33; (with_reducible refine (clone_any _ _ HNM.out).mono ?_); rintro e w2 ⟨rfl, hb1⟩))
  have bR : Blk ((w2.setCell ⟨B + 1, 0, none⟩ (.string nm)).setCell ⟨B + 1, 1, none⟩ (.int .i64 n)) (B + 1) #[.string nm, .int .i64 n] 63 := ((((show Blk W1.drew (B + 1) _ _ from HR1.out).next hb1).set 0 (.string nm)).set 1 (.int .i64 n))
  have hBB : Below B w ((w2.setCell ⟨B + 1, 0, none⟩ (.string nm)).setCell ⟨B + 1, 1, none⟩ (.int .i64 n)) := (((HB1.out.drew.trans (hb1.mono (by have e0 : W1.drew.heap.size = B + 2 := HS1.out;  omega))).setCell (p := ⟨B + 1, 0, none⟩) (by simp) (.string nm)).setCell (p := ⟨B + 1, 1, none⟩) (by simp) (.int .i64 n))
  have hother : ∀ q, B + 2 ≤ q → (((w2.setCell ⟨B + 1, 0, none⟩ (.string nm)).setCell ⟨B + 1, 1, none⟩ (.int .i64 n))).heap[q]? = w2.heap[q]? := fun q hq => by
    rw [Below.heap_setCell _ ⟨B + 1, 1, none⟩ _ q (by simp only; omega), Below.heap_setCell _ ⟨B + 1, 0, none⟩ _ q (by simp only; omega)]
  have hsz0 := HS1.out
  have hs1 := hb1.size
  have hsd : W1.drew.heap.size = W1.heap.size := rfl
  have hWs : (((w2.setCell ⟨B + 1, 0, none⟩ (.string nm)).setCell ⟨B + 1, 1, none⟩ (.int .i64 n))).heap.size = w2.heap.size := by simp
  obtain ⟨W, hW⟩ : ∃ W, ((w2.setCell ⟨B + 1, 0, none⟩ (.string nm)).setCell ⟨B + 1, 1, none⟩ (.int .i64 n)) = W := ⟨_, rfl⟩
  rw [hW] at bR hBB hWs ⊢
  have z0 : W.cell? ⟨B + 1, 0, none⟩ = some (.string nm) := bR.cell 0
  have z1 : W.cell? ⟨B + 1, 1, none⟩ = some (.int .i64 n) := bR.cell 1
  have hBsz : B ≤ W.heap.size := by omega
  have hfin : SpN W (.mk .D 0 n nm [] [] [] []) [.string nm, .int .i64 n] w.heap.size W.heap.size := by
    unfold SpN
    exact ⟨⟨rfl, rfl, rfl, rfl, rfl⟩, HK1.out, HN1.out, HSZ.out, .slice none 0 0, .slice none 0 0, .slice none 0 0, .slice none 0 0, W.heap.size, W.heap.size, W.heap.size, rfl, SpV.nil _ _ _ (by rw [HBE.out]; exact hBsz), SpV.nil _ _ _ (Nat.le_refl _), SpV.nil _ _ _ (Nat.le_refl _), SpV.nil _ _ _ (Nat.le_refl _)⟩
  have HFIN := Lib.hid hfin; clear hfin
  have HBB := Lib.hid hBB; clear hBB
  clear bR hother hW hWs hsz0 hsd hBsz hs1
  go_wp2_with fail
  exact bodyPost_ret (v := .agg #[.string nm, .int .i64 n]) (by simp [results, Try.results46, go_sem, z0, z1]) rfl ⟨[.string nm, .int .i64 n], rfl, HFIN.out, by rw [HBE.out]; exact HBB.out⟩
end Go.Proofs.Ytpildlaloclanaa

/-
  The law's spoil (gnomonlaw3's): proved is that it turns the blocks of the program's own lists alone.
-/
namespace Go.Proofs.Ytpildlaloclanaa
open Go Go.RowKit

/-- w' is w but for the blocks from lo to hi, and new ones. -/
structure Out (lo hi : Nat) (w w' : World) : Prop where
  os : w'.os = w.os
  tape : w'.tape = w.tape
  output : w'.output = w.output
  size : w.heap.size ≤ w'.heap.size
  block : ∀ k, k < w.heap.size → k < lo ∨ hi ≤ k → w'.heap[k]? = w.heap[k]?
theorem Out.refl (lo hi : Nat) (w : World) : Out lo hi w w := ⟨rfl, rfl, rfl, Nat.le_refl _, fun _ _ _ => rfl⟩
theorem Out.trans {lo hi : Nat} {a b c : World} (h : Out lo hi a b) (k : Out lo hi b c) : Out lo hi a c :=
  ⟨k.os.trans h.os, k.tape.trans h.tape, k.output.trans h.output, Nat.le_trans h.size k.size, fun i hi ho => (k.block i (Nat.lt_of_lt_of_le hi h.size) ho).trans (h.block i hi ho)⟩
theorem Out.mono {lo hi lo' hi' : Nat} {a b : World} (h : Out lo hi a b) (h1 : lo' ≤ lo) (h2 : hi ≤ hi') : Out lo' hi' a b :=
  ⟨h.os, h.tape, h.output, h.size, fun k hk ho => h.block k hk (by omega)⟩
theorem Out.setCell {lo hi : Nat} {a b : World} (h : Out lo hi a b) {p : Addr} (h1 : lo ≤ p.block) (h2 : p.block < hi) (u : Value) : Out lo hi a (b.setCell p u) :=
  ⟨h.os, h.tape, h.output, by rw [World.size_setCell]; exact h.size, fun k hk ho => (Below.heap_setCell b p u k (by omega)).trans (h.block k hk ho)⟩
theorem Out.below {lo hi : Nat} {a b : World} (h : Below a.heap.size a b) : Out lo hi a b := ⟨h.os, h.tape, h.output, h.size, fun k hk _ => h.block k hk⟩
theorem Blk.out {lo hi : Nat} {w w' : World} {b : Nat} {cs : Array Value} {t : TypeId} (h : Blk w b cs t) (ho : Out lo hi w w') (hb : b < lo ∨ hi ≤ b) : Blk w' b cs t := (ho.block b h.lt hb).trans h
theorem Out.cell {lo hi : Nat} {w w' : World} (ho : Out lo hi w w') {b o : Nat} {u : Value} (h : w.cell? ⟨b, o, none⟩ = some u) (hb : b < lo ∨ hi ≤ b) : w'.cell? ⟨b, o, none⟩ = some u :=
  (World.cell?_of_block (a := ⟨b, o, none⟩) (ho.block b (World.block_lt_of_cell? w ⟨b, o, none⟩ h) hb)).trans h
theorem set_cell {w : World} {b off j : Nat} {u x : Value} {cs : Array Value} {T : TypeId} (hB : Blk w b cs T) (hne : off ≠ j) (h : w.cell? ⟨b, j, none⟩ = some x) : (w.setCell ⟨b, off, none⟩ u).cell? ⟨b, j, none⟩ = some x := by
  have h1 := hB.cell j
  have h2 := (hB.set off u).cell j
  rw [h2, Array.getElem?_setIfInBounds_ne (by omega), ← h1]
  exact h
/-- The cells of a block from offset n on are as they were; it may be written. -/
def TailOf (w0 w : World) (b n : Nat) (T : TypeId) : Prop := (∃ cs, Blk w b cs T) ∧ ∀ j u, n ≤ j → w0.cell? ⟨b, j, none⟩ = some u → w.cell? ⟨b, j, none⟩ = some u
theorem TailOf.set {w0 w : World} {b n off : Nat} {T : TypeId} (h : TailOf w0 w b n T) {n' : Nat} (hn : n ≤ n') (ho : off < n') (u : Value) : TailOf w0 (w.setCell ⟨b, off, none⟩ u) b n' T := by
  obtain ⟨⟨cs, hB⟩, hc⟩ := h
  exact ⟨⟨_, hB.set off u⟩, fun j x hj hx => set_cell hB (by omega) (hc j x (by omega) hx)⟩
theorem TailOf.start {w : World} {b : Nat} {cs : Array Value} {T : TypeId} (h : Blk w b cs T) : TailOf w w b 0 T := ⟨⟨cs, h⟩, fun _ _ _ h => h⟩
/-- What is still to be spoilt of a list of statements. -/
def Tail (w : World) (ss : List Nd) (v : Value) (i mi hi : Nat) (lo : Nat) : Prop := (ss.length = 0 ∧ v = .slice none 0 0) ∨ ∃ b cs, v = .slice (some ⟨b, 0, none⟩) ss.length ss.length ∧ Blk w b cs (tyId .S) ∧ lo ≤ b ∧ b < mi ∧ SpR w .S (ss.drop i) b (i * 6) mi hi
theorem Tail.start {w : World} {ss : List Nd} {v : Value} {lo hi : Nat} (h : SpL w .S ss v lo hi) : ∃ mi, lo ≤ mi ∧ mi ≤ hi ∧ Tail w ss v 0 mi hi lo := by
  rcases h with ⟨h1, h2, h3⟩ | ⟨b, cs, h1, h2, _, h3, h4⟩
  · exact ⟨lo, Nat.le_refl _, h3, .inl ⟨h1, h2⟩⟩
  · have := SpR.le .S ss b 0 (b + 1) hi h4
    exact ⟨b + 1, by omega, this, .inr ⟨b, cs, h1, h3, h2, by omega, by simpa using h4⟩⟩

theorem tail_D {w0 wr : World} {ds : List Nd} {bd c lo m i : Nat} (hD : SpL w0 .D ds (.slice (some ⟨bd, 0, none⟩) ds.length c) lo m) (hT : TailOf w0 wr bd (i * 2) (tyId .D)) (hi : i < ds.length) :
    ∃ u0 u1 cs, wr.cell? ⟨bd, i * 2, none⟩ = some u0 ∧ wr.cell? ⟨bd, i * 2 + 1, none⟩ = some u1 ∧ Blk wr bd cs (tyId .D) := by
  rcases hD with ⟨h1, -, -⟩ | ⟨b, cs0, h1, -, -, -, h4⟩
  · omega
  · simp only [Value.slice.injEq, Option.some.injEq, Addr.mk.injEq] at h1
    obtain ⟨⟨rfl, -, -⟩, -, -⟩ := h1
    obtain ⟨hty, u0, u1, m0, m1, -⟩ := SlIn.item2 rfl (SpR.toIn _ _ _ _ _ _ h4) i hi
    rw [Nat.zero_add] at m0 m1
    obtain ⟨⟨cs, hB⟩, hc⟩ := hT
    exact ⟨u0, u1, cs, hc _ _ (Nat.le_refl _) m0, hc _ _ (by omega) m1, hB⟩
theorem tail_E {w0 wr : World} {xs : List Nd} {bx c lo m i : Nat} (hD : SpL w0 .E xs (.slice (some ⟨bx, 0, none⟩) xs.length c) lo m) (hT : TailOf w0 wr bx (i * 4) (tyId .E)) (hi : i < xs.length) :
    ∃ u0 u1 u2 u3 cs, wr.cell? ⟨bx, i * 4, none⟩ = some u0 ∧ wr.cell? ⟨bx, i * 4 + 1, none⟩ = some u1 ∧ wr.cell? ⟨bx, i * 4 + 2, none⟩ = some u2 ∧ wr.cell? ⟨bx, i * 4 + 3, none⟩ = some u3 ∧ Blk wr bx cs (tyId .E) := by
  rcases hD with ⟨h1, -, -⟩ | ⟨b, cs0, h1, -, -, -, h4⟩
  · omega
  · simp only [Value.slice.injEq, Option.some.injEq, Addr.mk.injEq] at h1
    obtain ⟨⟨rfl, -, -⟩, -, -⟩ := h1
    obtain ⟨hty, u0, u1, u2, u3, m0, m1, m2, m3, -⟩ := SlIn.item4 rfl (SpR.toIn _ _ _ _ _ _ h4) i hi
    rw [Nat.zero_add] at m0 m1 m2 m3
    obtain ⟨⟨cs, hB⟩, hc⟩ := hT
    exact ⟨u0, u1, u2, u3, cs, hc _ _ (Nat.le_refl _) m0, hc _ _ (by omega) m1, hc _ _ (by omega) m2, hc _ _ (by omega) m3, hB⟩

set_option maxRecDepth 100000 in
set_option maxHeartbeats 16000000 in
theorem spoil_any : ∀ (N : Nat) (ds ss : List Nd) (v0 v1 : Value) (lo m hi : Nat) (w : World), SizeOf.sizeOf ss ≤ N → SpL w .D ds v0 lo m → SpL w .S ss v1 m hi → hi ≤ w.heap.size →
    Calls Try.prog 24 #[.agg #[v0, v1]] w (fun e w' => e = .returned (.tuple #[]) ∧ Out lo hi w w') := by
  intro N
  induction N with
  | zero =>
    intro ds ss v0 v1 lo m hi w hN
    cases ss <;> simp at hN
  | succ N ih =>
    intro ds ss v0 v1 lo m hi w hN hd hs hhi
    have hlm := hd.le
    have hmh := hs.le
    have hdin := hd.toIn
    have hsin := hs.toIn
    obtain ⟨B, hBe⟩ : ∃ B, w.heap.size = B := ⟨_, rfl⟩
    obtain ⟨W1, hW1⟩ : ∃ W1, w.alloc (.cells #[v0, v1] 25) = W1 := ⟨_, rfl⟩
    have hX1 : Blk W1 B #[v0, v1] 25 := by rw [← hW1, ← hBe]; exact Blk.new w _ _
    have hb1 : Below w.heap.size w W1 := by rw [← hW1]; exact (Below.refl _ w).alloc (Nat.le_refl _) _
    have hS1 : W1.heap.size = B + 1 := by rw [← hW1, ← hBe, World.size_alloc]
    have hd1 := hd.keep (w' := W1) (fun k h1 h2 => hb1.block k (by omega))
    have hs1 := hs.keep (w' := W1) (fun k h1 h2 => hb1.block k (by omega))
    have hdin1 := hd1.toIn
    have hdv : ∃ a c, v0 = .slice a ds.length c := by obtain ⟨a, c, h, _⟩ := hdin; exact ⟨a, c, h⟩
    have hsv : ∃ a c, v1 = .slice a ss.length c := by obtain ⟨a, c, h, _⟩ := hsin; exact ⟨a, c, h⟩
    have hsm : ss.length ≤ maxLen := by obtain ⟨a, c, -, h1, h2, -⟩ := hsin; omega
    have hdm : ds.length ≤ maxLen := by obtain ⟨a, c, -, h1, h2, -⟩ := hdin; omega
    obtain ⟨a0, c0, hdv⟩ := hdv
    obtain ⟨a1, c1, hsv⟩ := hsv
    have HD := Lib.hid hd1; clear hd hd1 hdin hdin1
    have HS := Lib.hid hs1; clear hs hs1 hsin
    have HIH := Lib.hid ih; clear ih
    have HX1 := Lib.hid hX1; clear hX1
    have HS1 := Lib.hid hS1; clear hS1
    have hhB : hi ≤ B := by omega
    have HB1 := Lib.hid hb1; clear hb1
    have HW1 := Lib.hid hW1; clear hW1
    have HBE := Lib.hid hBe; clear hBe
    subst hdv hsv
    go_enter Try.func24, Try.ntmps24
    go_upto_block 0 with fail
    rw [HW1.out, HBE.out]
    clear HW1
    obtain ⟨mi0, hlo0, hhi0, htl0⟩ := Tail.start HS.out
    have HT0 := Lib.hid htl0; clear htl0
    go_cut [2] (fun _ wx => Out lo m W1 wx ∧ Blk wx B #[.slice a0 ds.length c0, .slice a1 ss.length c1] 25)
    case first =>
      go_wp2_with fail
      go_loopw [2] (fun x wr => ∃ i : Nat, x = .int .i64 i ∧ i ≤ ds.length ∧ Out lo m W1 wr ∧ Blk wr B #[.slice a0 ds.length c0, .slice a1 ss.length c1] 25 ∧ (ds.length = 0 ∨ ∃ bd, a0 = some ⟨bd, 0, none⟩ ∧ lo ≤ bd ∧ bd < m ∧ TailOf W1 wr bd (i * 2) (tyId .D))) (fun x _ => ds.length - (intOf x).toNat)
      case atStart =>
        refine ⟨0, rfl, by omega, Out.refl _ _ _, HX1.out, ?_⟩
        rcases HD.out with ⟨h1, -, -⟩ | ⟨bd, cs, h1, h2, -, h3, h4⟩
        · exact .inl h1
        · right
          have := SpR.le .D ds bd 0 (bd + 1) m h4
          simp only [Value.slice.injEq] at h1
          exact ⟨bd, h1.1, h2, by omega, by simpa using TailOf.start h3⟩
      case round =>
        obtain ⟨i, rfl, hi, hOr, hXr, hTr⟩ := hrel
        have e3 : wr.cell? ⟨B, 0, none⟩ = some (.slice a0 ds.length c0) := hXr.cell 0
        have HX := Lib.hid hXr; clear hXr
        have HO := Lib.hid hOr; clear hOr
        by_cases hlt : i < ds.length
        · have hbi : (i : Int) + 1 ≤ 9223372036854775807 := by unfold maxLen at hdm; omega
          obtain ⟨bd, ha, hbd1, hbd2, hT⟩ := hTr.resolve_left (by omega)
          subst ha
          obtain ⟨u0, u1, cs, k0, k1, hBl⟩ := tail_D HD.out hT hlt
          have f0 := hBl.free (i * 2)
          have f1 := hBl.free (i * 2 + 1)
          have hOO := ((HO.out.setCell (p := ⟨bd, i * 2, none⟩) (by simp only; omega) (by simp only; omega) (.string ⟨#[119, 104, 105, 108, 101]⟩)).setCell (p := ⟨bd, i * 2 + 1, none⟩) (by simp only; omega) (by simp only; omega) (.int .i64 (-1)))
          have hXX : Blk ((wr.setCell ⟨bd, i * 2, none⟩ (.string ⟨#[119, 104, 105, 108, 101]⟩)).setCell ⟨bd, i * 2 + 1, none⟩ (.int .i64 (-1))) B #[.slice (some ⟨bd, 0, none⟩) ds.length c0, .slice a1 ss.length c1] 25 := ((HX.out.other (a := ⟨bd, i * 2, none⟩) (by simp only; omega) (.string ⟨#[119, 104, 105, 108, 101]⟩)).other (a := ⟨bd, i * 2 + 1, none⟩) (by simp only; omega) (.int .i64 (-1)))
          have hTT := ((hT.set (off := i * 2) (n' := i * 2 + 1) (by omega) (by omega) (.string ⟨#[119, 104, 105, 108, 101]⟩)).set (off := i * 2 + 1) (n' := i * 2 + 2) (by omega) (by omega) (.int .i64 (-1)))
          have HOO := Lib.hid hOO; clear hOO
          have HXX := Lib.hid hXX; clear hXX
          have HTT := Lib.hid hTT; clear hTT
          clear hT hBl
          go_wp2_with fail
          go_roundw
          case rel => exact ⟨i + 1, by go_num, by omega, HOO.out, HXX.out, .inr ⟨bd, rfl, hbd1, hbd2, by have := HTT.out; rwa [show i * 2 + 1 + 1 = (i + 1) * 2 by omega] at this⟩⟩
          case measure => simp [intOf]; omega
        · obtain rfl : i = ds.length := by omega
          clear hTr
          go_wp2_with fail
          go_meet
          exact ⟨HO.out, HX.out⟩
    case rest =>
      obtain ⟨hO2, hX2⟩ := hcut
      have hT2 : Tail wc ss (.slice a1 ss.length c1) 0 mi0 hi m := by
        rcases HT0.out with h | ⟨bb, cs, h1, h2, h3, h4, h5⟩
        · exact .inl h
        · have hlt2 := h2.lt
          exact .inr ⟨bb, cs, h1, h2.out hO2 (by omega), h3, h4, SpR.keep .S (ss.drop 0) bb (0 * 6) mi0 hi (fun q q1 q2 => hO2.block q (by have := HS1.out; omega) (by omega)) (fun j u _ hu => hO2.cell hu (by omega)) h5⟩
      have HO2 := Lib.hid (hO2.mono (Nat.le_refl lo) hmh)
      have HX2 := Lib.hid hX2; clear hX2
      have HT2 := Lib.hid hT2; clear hT2
      have HWC := Lib.hid hO2.size
      clear hO2 HT0
      go_wp2_with fail
      go_loopw [3] (fun x wr => ∃ ii mi : Nat, x = .int .i64 ii ∧ ii ≤ ss.length ∧ m ≤ mi ∧ mi ≤ hi ∧ Out lo hi W1 wr ∧ Blk wr B #[.slice a0 ds.length c0, .slice a1 ss.length c1] 25 ∧ Tail wr ss (.slice a1 ss.length c1) ii mi hi m) (fun x _ => ss.length - (intOf x).toNat)
      case atStart => exact ⟨0, mi0, rfl, by omega, hlo0, hhi0, HO2.out, HX2.out, HT2.out⟩
      case round =>
        obtain ⟨ii, mi, rfl, hii, hmi1, hmi2, hOr, hXr, hTr⟩ := hrel
        obtain ⟨wo, hwo⟩ : ∃ x, x = wr := ⟨_, rfl⟩
        subst hwo
        have e3 : wo.cell? ⟨B, 1, none⟩ = some (.slice a1 ss.length c1) := hXr.cell 1
        have hwrs : B + 1 ≤ wo.heap.size := by have := hOr.size; have := HS1.out; omega
        have HX := Lib.hid hXr; clear hXr
        have HO := Lib.hid hOr; clear hOr
        by_cases hlt : ii < ss.length
        · have hbii : (ii : Int) + 1 ≤ 9223372036854775807 := by unfold maxLen at hsm; omega
          obtain ⟨bb, csb, he, hBb, hbb1, hbb2, hRow⟩ := hTr.resolve_left (by intro h; omega)
          simp only [Value.slice.injEq] at he
          obtain ⟨rfl, -, rfl⟩ := he
          rw [List.drop_eq_getElem_cons hlt] at hRow
          unfold SpR at hRow
          obtain ⟨mj, ⟨hty, vs, hcells, hN⟩, hRest⟩ := hRow
          have hsz0 := List.sizeOf_lt_of_mem (List.getElem_mem hlt)
          have hle1 := SpN.le _ _ _ _ hN
          have hle2 := SpR.le _ _ _ _ _ _ hRest
          obtain ⟨X, hX⟩ : ∃ X, ss[ii] = X := ⟨_, rfl⟩
          rw [hX] at hN hty hsz0
          clear hX
          obtain ⟨ty, k, n, nm, xs, cs, ts, es⟩ := X
          simp only [Nd.ty] at hty
          subst hty
          unfold SpN at hN
          obtain ⟨-, -, -, -, vx, vc, vt, ve, m1, m2, m3, hvs, hVx, hVc, hVt, hVe⟩ := hN
          simp only [lay] at hvs
          subst hvs
          have a1 := hVx.le (fun b o l h => SpR.le .E xs b o l h)
          have a2 := hVc.le (fun b o l h => SpR.le .C cs b o l h)
          have a3 := hVt.le (fun b o l h => SpR.le .S ts b o l h)
          have a4 := hVe.le (fun b o l h => SpR.le .S es b o l h)
          have hLx : SpL wo .E xs vx mi m1 := hVx
          have hLt : SpL wo .S ts vt m2 m3 := hVt
          have hLe : SpL wo .S es ve m3 mj := hVe
          simp only [Nd.mk.sizeOf_spec] at hsz0
          have H241 := Lib.hid (fun v1 lo m hi w => HIH.out [] ts (.slice none 0 0) v1 lo m hi w (by omega))
          have H242 := Lib.hid (fun v1 lo m hi w => HIH.out [] es (.slice none 0 0) v1 lo m hi w (by omega))
          have hxv : ∃ a c, vx = .slice a xs.length c := by obtain ⟨a, c, h, _⟩ := hLx.toIn; exact ⟨a, c, h⟩
          obtain ⟨a, c, rfl⟩ := hxv
          have htv : ∃ a c, vt = .slice a ts.length c := by obtain ⟨a, c, h, _⟩ := hLt.toIn; exact ⟨a, c, h⟩
          obtain ⟨a3', c3, rfl⟩ := htv
          have hev : ∃ a c, ve = .slice a es.length c := by obtain ⟨a, c, h, _⟩ := hLe.toIn; exact ⟨a, c, h⟩
          obtain ⟨a4', c4, rfl⟩ := hev
          have hcv : ∃ a l c, vc = .slice a l c := by
            rcases hVc with ⟨-, h, -⟩ | ⟨b, cs, h, -⟩
            · exact ⟨_, _, _, h⟩
            · exact ⟨_, _, _, h⟩
          obtain ⟨a2', l2, c2, rfl⟩ := hcv
          clear hVx hVc hVt hVe
          have g0 := hcells 0 _ rfl
          have g1 := hcells 1 _ rfl
          have g2 := hcells 2 _ rfl
          have g3 := hcells 3 _ rfl
          have g4 := hcells 4 _ rfl
          have g5 := hcells 5 _ rfl
          rw [Nat.add_zero] at g0
          have hxm : xs.length ≤ maxLen := by obtain ⟨a, c, -, h1, h2, -⟩ := hLx.toIn; omega
          have HBB := Lib.hid hBb; clear hBb
          have HLX := Lib.hid hLx; clear hLx
          have HLT := Lib.hid hLt; clear hLt
          have HLE := Lib.hid hLe; clear hLe
          have HREST := Lib.hid hRest; clear hRest
          have HG := Lib.hid (show _ ∧ _ ∧ _ ∧ _ ∧ _ ∧ _ from ⟨g0, g1, g2, g3, g4, g5⟩)
          clear hcells hTr g0 g1 g3 hsz0
          go_upto_block 4 with fail
          go_cut [4] (fun _ wx => Out mi m1 wo wx)
          case first =>
            go_wp2_with fail
            go_loopw [4] (fun x wr => ∃ k2 : Nat, x = .int .i64 k2 ∧ k2 ≤ xs.length ∧ Out mi m1 wo wr ∧ (xs.length = 0 ∨ ∃ bx, a = some ⟨bx, 0, none⟩ ∧ mi ≤ bx ∧ bx < m1 ∧ TailOf wo wr bx (k2 * 4) (tyId .E))) (fun x _ => xs.length - (intOf x).toNat)
            case atStart =>
              refine ⟨0, rfl, by omega, Out.refl _ _ _, ?_⟩
              rcases HLX.out with ⟨h1, -, -⟩ | ⟨bx, cs, h1, h2, -, h3, h4⟩
              · exact .inl h1
              · right
                have := SpR.le .E xs bx 0 (bx + 1) m1 h4
                simp only [Value.slice.injEq] at h1
                exact ⟨bx, h1.1, h2, by omega, by simpa using TailOf.start h3⟩
            case round =>
              obtain ⟨k2, rfl, hk2, hOk, hTk⟩ := hrel
              have e4 : wr.cell? ⟨B, 1, none⟩ = some (.slice (some ⟨bb, 0, none⟩) ss.length ss.length) := (HX.out.out hOk (by omega)).cell 1
              have g2k := hOk.cell g2 (by omega)
              by_cases hlk : k2 < xs.length
              · have hbk : (k2 : Int) + 1 ≤ 9223372036854775807 := by unfold maxLen at hxm; omega
                obtain ⟨bx, ha, hbx1, hbx2, hT⟩ := hTk.resolve_left (by omega)
                subst ha
                obtain ⟨u0, u1, u2, u3, cs, k0, k1, k2', k3, hBl⟩ := tail_E HLX.out hT hlk
                have f0 := hBl.free (k2 * 4)
                have f1 := hBl.free (k2 * 4 + 1)
                have f2 := hBl.free (k2 * 4 + 2)
                have f3 := hBl.free (k2 * 4 + 3)
                have hOO := ((((hOk.setCell (p := ⟨bx, k2 * 4, none⟩) (by simp only; omega) (by simp only; omega) (.int .i64 0)).setCell (p := ⟨bx, k2 * 4 + 1, none⟩) (by simp only; omega) (by simp only; omega) (.int .i64 0)).setCell (p := ⟨bx, k2 * 4 + 2, none⟩) (by simp only; omega) (by simp only; omega) (.string ⟨#[]⟩)).setCell (p := ⟨bx, k2 * 4 + 3, none⟩) (by simp only; omega) (by simp only; omega) (.slice none 0 0))
                have hTT := ((((hT.set (off := k2 * 4) (n' := k2 * 4 + 1) (by omega) (by omega) (.int .i64 0)).set (off := k2 * 4 + 1) (n' := k2 * 4 + 2) (by omega) (by omega) (.int .i64 0)).set (off := k2 * 4 + 2) (n' := k2 * 4 + 3) (by omega) (by omega) (.string ⟨#[]⟩)).set (off := k2 * 4 + 3) (n' := k2 * 4 + 4) (by omega) (by omega) (.slice none 0 0))
                have HOO := Lib.hid hOO; clear hOO
                have HTT := Lib.hid hTT; clear hTT
                clear hT hBl hOk
                go_wp2_with fail
                go_roundw
                case rel => exact ⟨k2 + 1, by go_num, by omega, HOO.out, .inr ⟨bx, rfl, hbx1, hbx2, by have := HTT.out; rwa [show k2 * 4 + 3 + 1 = (k2 + 1) * 4 by omega] at this⟩⟩
                case measure => simp [intOf]; omega
              · obtain rfl : k2 = xs.length := by omega
                have HOO := Lib.hid hOk; clear hOk hTk
                go_wp2_with fail
                go_meet
                exact HOO.out
          case rest =>
            have hO3 := hcut
            have e4 : wc.cell? ⟨B, 1, none⟩ = some (.slice (some ⟨bb, 0, none⟩) ss.length ss.length) := (HX.out.out hO3 (by omega)).cell 1
            have g4c := hO3.cell g4 (by omega)
            have hLt3 := HLT.out.keep (w' := wc) (fun q q1 q2 => hO3.block q (by omega) (by omega))
            have HSA := Lib.hid (H241.out (.slice a3' ts.length c3) m2 m2 m3 wc (.inl ⟨rfl, rfl, Nat.le_refl _⟩) hLt3 (by have := hO3.size; omega))
            clear hLt3 hcut
            have HO3 := Lib.hid hO3; clear hO3
            go_wp2_with fail
            refine HSA.out.mono ?_
            rintro e w4 ⟨rfl, hO4⟩
            have hO4b := HO3.out.mono (Nat.le_refl mi) (show m1 ≤ m3 by omega) |>.trans (hO4.mono (show mi ≤ m2 by omega) (Nat.le_refl _))
            have e5 : w4.cell? ⟨B, 1, none⟩ = some (.slice (some ⟨bb, 0, none⟩) ss.length ss.length) := (HX.out.out hO4b (by omega)).cell 1
            have g5c := hO4b.cell g5 (by omega)
            have hLe4 := HLE.out.keep (w' := w4) (fun q q1 q2 => hO4b.block q (by omega) (by omega))
            have HSB := Lib.hid (H242.out (.slice a4' es.length c4) m3 m3 mj w4 (.inl ⟨rfl, rfl, Nat.le_refl _⟩) hLe4 (by have := hO4b.size; omega))
            clear hLe4 hO4
            have HO4 := Lib.hid hO4b; clear hO4b
            clear e4 g4c
            go_wp2_with fail
            refine HSB.out.mono ?_
            rintro e w5 ⟨rfl, hO5⟩
            have hO5b := (HO4.out.mono (Nat.le_refl mi) (show m3 ≤ mj by omega)).trans (hO5.mono (show mi ≤ m3 by omega) (Nat.le_refl _))
            have hX5 := HX.out.out hO5b (by omega)
            have e6 : w5.cell? ⟨B, 1, none⟩ = some (.slice (some ⟨bb, 0, none⟩) ss.length ss.length) := hX5.cell 1
            obtain ⟨p0, p1, p2, p3, p4, p5⟩ := HG.out
            have k0 := hO5b.cell p0 (by omega)
            have k1 := hO5b.cell p1 (by omega)
            have k2 := hO5b.cell p2 (by omega)
            have k3 := hO5b.cell p3 (by omega)
            have k4 := hO5b.cell p4 (by omega)
            have k5 := hO5b.cell p5 (by omega)
            have hB5 := HBB.out.out hO5b (by omega)
            have f0 := hB5.free (ii * 6)
            have f1 := hB5.free (ii * 6 + 1)
            have f2 := hB5.free (ii * 6 + 2)
            have f3 := hB5.free (ii * 6 + 3)
            have f4 := hB5.free (ii * 6 + 4)
            have f5 := hB5.free (ii * 6 + 5)
            have hT5 : TailOf w5 w5 bb (ii * 6) (tyId .S) := ⟨⟨_, hB5⟩, fun _ _ _ h => h⟩
            have hT6 := ((((((hT5.set (off := ii * 6) (n' := ii * 6 + 1) (by omega) (by omega) (.int .i64 0)).set (off := ii * 6 + 1) (n' := ii * 6 + 2) (by omega) (by omega) (.string ⟨#[]⟩)).set (off := ii * 6 + 2) (n' := ii * 6 + 3) (by omega) (by omega) (.slice none 0 0)).set (off := ii * 6 + 3) (n' := ii * 6 + 4) (by omega) (by omega) (.slice none 0 0)).set (off := ii * 6 + 4) (n' := ii * 6 + 5) (by omega) (by omega) (.slice none 0 0)).set (off := ii * 6 + 5) (n' := ii * 6 + 6) (by omega) (by omega) (.slice none 0 0))
            have hO6 := (((((((HO.out.trans (hO5b.mono (show lo ≤ mi by omega) (show mj ≤ hi by omega))).setCell (p := ⟨bb, ii * 6, none⟩) (by simp only; omega) (by simp only; omega) (.int .i64 0)).setCell (p := ⟨bb, ii * 6 + 1, none⟩) (by simp only; omega) (by simp only; omega) (.string ⟨#[]⟩)).setCell (p := ⟨bb, ii * 6 + 2, none⟩) (by simp only; omega) (by simp only; omega) (.slice none 0 0)).setCell (p := ⟨bb, ii * 6 + 3, none⟩) (by simp only; omega) (by simp only; omega) (.slice none 0 0)).setCell (p := ⟨bb, ii * 6 + 4, none⟩) (by simp only; omega) (by simp only; omega) (.slice none 0 0)).setCell (p := ⟨bb, ii * 6 + 5, none⟩) (by simp only; omega) (by simp only; omega) (.slice none 0 0))
            have hX6 : Blk ((((((w5.setCell ⟨bb, ii * 6, none⟩ (.int .i64 0)).setCell ⟨bb, ii * 6 + 1, none⟩ (.string ⟨#[]⟩)).setCell ⟨bb, ii * 6 + 2, none⟩ (.slice none 0 0)).setCell ⟨bb, ii * 6 + 3, none⟩ (.slice none 0 0)).setCell ⟨bb, ii * 6 + 4, none⟩ (.slice none 0 0)).setCell ⟨bb, ii * 6 + 5, none⟩ (.slice none 0 0)) B #[.slice a0 ds.length c0, .slice (some ⟨bb, 0, none⟩) ss.length ss.length] 25 := ((((((hX5.other (a := ⟨bb, ii * 6, none⟩) (by simp only; omega) (.int .i64 0)).other (a := ⟨bb, ii * 6 + 1, none⟩) (by simp only; omega) (.string ⟨#[]⟩)).other (a := ⟨bb, ii * 6 + 2, none⟩) (by simp only; omega) (.slice none 0 0)).other (a := ⟨bb, ii * 6 + 3, none⟩) (by simp only; omega) (.slice none 0 0)).other (a := ⟨bb, ii * 6 + 4, none⟩) (by simp only; omega) (.slice none 0 0)).other (a := ⟨bb, ii * 6 + 5, none⟩) (by simp only; omega) (.slice none 0 0))
            have hR6 : SpR ((((((w5.setCell ⟨bb, ii * 6, none⟩ (.int .i64 0)).setCell ⟨bb, ii * 6 + 1, none⟩ (.string ⟨#[]⟩)).setCell ⟨bb, ii * 6 + 2, none⟩ (.slice none 0 0)).setCell ⟨bb, ii * 6 + 3, none⟩ (.slice none 0 0)).setCell ⟨bb, ii * 6 + 4, none⟩ (.slice none 0 0)).setCell ⟨bb, ii * 6 + 5, none⟩ (.slice none 0 0)) .S (ss.drop (ii + 1)) bb ((ii + 1) * 6) mj hi := by
              refine SpR.keep .S (ss.drop (ii + 1)) bb ((ii + 1) * 6) mj hi (fun q q1 q2 => ?_) (fun j u _ hu => ?_) (by have := HREST.out; rwa [show ii * 6 + Ty.S.size = (ii + 1) * 6 by simp only [Ty.size]; omega] at this)
              · rw [Below.heap_setCell _ ⟨bb, ii * 6 + 5, none⟩ _ q (by simp only; omega), Below.heap_setCell _ ⟨bb, ii * 6 + 4, none⟩ _ q (by simp only; omega), Below.heap_setCell _ ⟨bb, ii * 6 + 3, none⟩ _ q (by simp only; omega), Below.heap_setCell _ ⟨bb, ii * 6 + 2, none⟩ _ q (by simp only; omega), Below.heap_setCell _ ⟨bb, ii * 6 + 1, none⟩ _ q (by simp only; omega), Below.heap_setCell _ ⟨bb, ii * 6, none⟩ _ q (by simp only; omega)]
                exact hO5b.block q (by omega) (by omega)
              · exact hT6.2 _ _ (by omega) (hO5b.cell hu (by omega))
            obtain ⟨cs6, hB6⟩ := hT6.1
            have HOO := Lib.hid hO6; clear hO6
            have HXX := Lib.hid hX6; clear hX6
            have HRR := Lib.hid hR6; clear hR6
            have HB6 := Lib.hid hB6; clear hB6
            clear hT5 hT6 hB5 hO5 hO5b hX5 p0 p1 p2 p3 p4 p5 e5 g5c
            go_wp2_with fail
            go_roundw
            case rel => exact ⟨ii + 1, mj, by go_num, by omega, by omega, by omega, HOO.out, HXX.out, .inr ⟨bb, cs6, rfl, HB6.out, hbb1, by omega, HRR.out⟩⟩
            case measure => simp [intOf]; omega
        · obtain rfl : ii = ss.length := by omega
          have HOF := Lib.hid ((Out.below HB1.out).trans HO.out)
          clear hTr
          go_wp2_with fail
          go_end0
          exact ⟨rfl, HOF.out⟩
end Go.Proofs.Ytpildlaloclanaa

/-
  The project's Copy of a program (tree's): proved is that it tells the same program in blocks of its own, or the error.
-/
namespace Go.Proofs.Ytpildlaloclanaa
open Go Go.RowKit

mutual
theorem fit_allN : ∀ (x : Nd), fitN x → ∀ y ∈ allN x, fitN y
  | .mk ty k n s xs cs ts es, h, y, hy => by
    have h0 := h
    unfold fitN at h
    obtain ⟨_, hx, hc, ht, he⟩ := h
    unfold allN at hy
    rcases List.mem_cons.1 hy with rfl | hy
    · exact h0
    · cases ty with
      | E => exact fit_allL .E xs hx y hy
      | C =>
        rcases List.mem_append.1 hy with hy | hy
        · exact fit_allL .E xs hx y hy
        · exact fit_allL .C cs hc y hy
      | S =>
        rcases List.mem_append.1 hy with hy | hy
        · exact fit_allL .C cs hc y hy
        · rcases List.mem_append.1 hy with hy | hy
          · exact fit_allL .E xs hx y hy
          · rcases List.mem_append.1 hy with hy | hy
            · exact fit_allL .S ts ht y hy
            · exact fit_allL .S es he y hy
      | D => simp at hy
theorem fit_allL : ∀ (ty : Ty) (l : List Nd), fitL ty l → ∀ y ∈ allL l, fitN y
  | _, [], _, y, hy => by simp [allL] at hy
  | ty, x :: r, h, y, hy => by
    unfold fitL at h
    obtain ⟨_, hx, hr⟩ := h
    rw [allL, List.mem_append] at hy
    rcases hy with hy | hy
    · exact fit_allN x hx y hy
    · exact fit_allL ty r hr y hy
end
theorem toList_nil {s : ByteArray} (h : (s.toList == ([] : List UInt8)) = true) : s.size ≤ 65536 := by
  have h1 : s.toList = [] := by simpa using h
  rw [ByteArray.toList_eq] at h1
  have h2 : s.data = #[] := by simpa using h1
  obtain ⟨d⟩ := s
  simp only at h2
  subst h2
  exact Nat.zero_le _
/-- What the fault says of a name. -/
theorem raw_small {y : Nd} (hf : fitN y) (hw : wellN y = true) (hm : mustN y = true → (ownNm y).size ≤ 128) : (rawNm y).size ≤ 65536 := by
  obtain ⟨ty, k, n, s, xs, cs, ts, es⟩ := y
  unfold fitN at hf
  obtain ⟨hfit, -⟩ := hf
  cases ty with
  | E =>
    simp only [rawNm]
    cases hb : ((k == 2) || (k == 4)) with
    | true => have := hm hb; simp only [ownNm] at this; omega
    | false =>
      simp only [wellN, wellE, hb, Bool.false_or, Bool.and_eq_true] at hw
      exact toList_nil hw.1.2
  | C =>
    obtain ⟨rfl, -⟩ := hfit
    exact Nat.zero_le _
  | S =>
    simp only [rawNm]
    cases hb : ((k == 1) || (k == 2)) with
    | true => have := hm hb; simp only [ownNm] at this; omega
    | false =>
      simp only [wellN, wellS, hb, Bool.false_or, Bool.and_eq_true] at hw
      exact toList_nil hw.1.2
  | D => have := hm rfl; simp only [ownNm] at this; simp only [rawNm]; omega
theorem small_of {ds ss : List Nd} (hd : fitL .D ds) (hs : fitL .S ss) (h : faultT (progT ds ss) = 0) : SmallL ds ∧ SmallL ss := by
  have hz := fault_lim h
  have hlen := (progT_ok ds ss).1
  have hl := progT_list hz
  have hn := fault_names h
  rw [hl] at hlen hn
  have hw : ∀ y ∈ allL (ds ++ ss), wellN y = true := by
    unfold faultT at h
    rw [if_neg (by simpa using hz)] at h
    split at h
    · omega
    · rename_i hb
      intro y hy
      rw [← hl] at hy
      cases hc : wellN y with
      | true => rfl
      | false => exact absurd (List.any_eq_true.2 ⟨y, hy, by rw [hc]; rfl⟩) hb
  rw [allL_app] at hlen hn hw
  simp only [List.length_append] at hlen
  exact ⟨⟨by omega, fun y hy => raw_small (fit_allL .D ds hd y hy) (hw y (by simp [hy])) (hn y (by simp [hy]))⟩, ⟨by omega, fun y hy => raw_small (fit_allL .S ss hs y hy) (hw y (by simp [hy])) (hn y (by simp [hy]))⟩⟩

/-- What Copy tells. -/
def CopyTo (w : World) (ds ss : List Nd) (f : Int) : Ending → World → Prop := fun e w' => ∃ r0 r1, e = .returned (.tuple #[.agg #[r0, r1], .int .i64 f]) ∧ (if f = 0 then ∃ m, SpL w' .D ds r0 w.heap.size m ∧ SpL w' .S ss r1 m w'.heap.size else r0 = .slice none 0 0 ∧ r1 = .slice none 0 0) ∧ Below w.heap.size w w'

set_option maxRecDepth 100000 in
set_option maxHeartbeats 8000000 in
theorem tcopy_any (ds ss : List Nd) (v0 v1 : Value) (w : World) (hd : SlIn w .D ds v0) (hs : SlIn w .S ss v1) :
    Calls Try.prog 22 #[.agg #[v0, v1]] w (CopyTo w ds ss (faultT (progT ds ss))) := by
  have hfd := fit_list hd
  have hfs := fit_list hs
  have HTC := Lib.hid (fun w1 (hb : Below w.heap.size w w1) => tcheck_any ds ss v0 v1 w1 (hd.keep (keeps_below hb)) (hs.keep (keeps_below hb)))
  have hsm := small_of hfd hfs
  have HCD := Lib.hid (fun (h : SmallL ds) w1 (hb : Below w.heap.size w w1) => copiesD_any w ds (fun i hi => copyD_any w ds[i] (slIn_ty hd i hi) (h.at (List.getElem_mem hi))) v0 w1 hd hb h.len)
  have HCS := Lib.hid (fun (h : SmallL ss) w1 (hb : Below w.heap.size w w1) => copiesS_any w ss (fun i hi => copyS_any w _ ss[i] (Nat.le_refl _) (slIn_ty hs i hi) (h.at (List.getElem_mem hi))) v1 w1 hs hb h.len)
  obtain ⟨F, hF⟩ : ∃ F, faultT (progT ds ss) = F := ⟨_, rfl⟩
  rw [hF] at HTC hsm ⊢
  clear hF hfd hfs
  have HSM := Lib.hid hsm; clear hsm
  have hdv : ∃ a c, v0 = .slice a ds.length c := by obtain ⟨a, c, h, _⟩ := hd; exact ⟨a, c, h⟩
  obtain ⟨a0, c0, rfl⟩ := hdv
  have hsv : ∃ a c, v1 = .slice a ss.length c := by obtain ⟨a, c, h, _⟩ := hs; exact ⟨a, c, h⟩
  obtain ⟨a1, c1, rfl⟩ := hsv
  clear hd hs
  obtain ⟨B, hBe⟩ : ∃ B, w.heap.size = B := ⟨_, rfl⟩
  obtain ⟨W1, hW1⟩ : ∃ W, (w.alloc (.cells #[.slice a0 ds.length c0, .slice a1 ss.length c1] 25)).alloc (.cells #[.slice none 0 0, .slice none 0 0] 25) = W := ⟨_, rfl⟩
  have hX1 : Blk W1 B #[.slice a0 ds.length c0, .slice a1 ss.length c1] 25 := by rw [← hW1, ← hBe]; exact (Blk.new w _ _).alloc _
  have hR1 : Blk W1 (B + 1) #[.slice none 0 0, .slice none 0 0] 25 := by rw [← hW1, ← hBe]; exact blk_second w _ _ _
  have hb1 : Below w.heap.size w W1 := by rw [← hW1]; exact ((Below.refl _ w).alloc (Nat.le_refl _) _).alloc (by simp) _
  have hS1 : W1.heap.size = B + 2 := by rw [← hW1, ← hBe, World.size_alloc, World.size_alloc]
  have x0 : W1.cell? ⟨B, 0, none⟩ = some (.slice a0 ds.length c0) := hX1.cell 0
  have x1 : W1.cell? ⟨B, 1, none⟩ = some (.slice a1 ss.length c1) := hX1.cell 1
  have HX1 := Lib.hid hX1; clear hX1
  have HR1 := Lib.hid hR1; clear hR1
  have HB1 := Lib.hid hb1; clear hb1
  have HS1 := Lib.hid hS1; clear hS1
  have HBE := Lib.hid hBe; clear hBe
  have HW1 := Lib.hid hW1; clear hW1
  by_cases hz : F = 0
  · subst hz
    obtain ⟨hsd, hss⟩ := HSM.out rfl
    have HSD := Lib.hid hsd; clear hsd
    have HSS := Lib.hid hss; clear hss HSM
    go_enter Try.func22, Try.ntmps22
    go_upto_region 1 with fail
    rw [HW1.out, HBE.out]
    clear HW1
    go_upto_region 4 with (first | (go_at_call 12; (with_reducible refine (HTC.out _ HB1.out).mono ?_); rintro e w2 ⟨rfl, hb1⟩) | fail)
    have hX2 := HX1.out.next hb1
    have hR2 := HR1.out.next hb1
    have hs1 := hb1.size
    have HB2 := Lib.hid (below_next HB1.out hb1); clear hb1 HB1
    have hG0 : Res B #[.slice a0 ds.length c0, .slice a1 ss.length c1] 25 2 w2 := ⟨hX2, _, hR2, rfl⟩
    have HG0 := Lib.hid hG0; clear hG0 hX2
    have HR2 := Lib.hid hR2; clear hR2
    clear x0 x1
    have KS := fun w' (hW : Res B #[.slice a0 ds.length c0, .slice a1 ss.length c1] 25 2 w') => (⟨hW.blk.cell 0, hW.blk.cell 1, hW.free 0, hW.free 1, hW.any (j := 0) (by decide), hW.any (j := 1) (by decide)⟩ : w'.cell? ⟨B, 0, none⟩ = some (.slice a0 ds.length c0) ∧ w'.cell? ⟨B, 1, none⟩ = some (.slice a1 ss.length c1) ∧ w'.frozen? ⟨B + 1, 0, none⟩ = false ∧ w'.frozen? ⟨B + 1, 1, none⟩ = false ∧ w'.cell? ⟨B + 1, 0, none⟩ = some (cellOr w' ⟨B + 1, 0, none⟩) ∧ w'.cell? ⟨B + 1, 1, none⟩ = some (cellOr w' ⟨B + 1, 1, none⟩))
    go_region_held3 (fun w' => w'.cell? ⟨B, 0, none⟩ = some (.slice a0 ds.length c0) ∧ w'.cell? ⟨B, 1, none⟩ = some (.slice a1 ss.length c1) ∧ w'.frozen? ⟨B + 1, 0, none⟩ = false ∧ w'.frozen? ⟨B + 1, 1, none⟩ = false ∧ w'.cell? ⟨B + 1, 0, none⟩ = some (cellOr w' ⟨B + 1, 0, none⟩) ∧ w'.cell? ⟨B + 1, 1, none⟩ = some (cellOr w' ⟨B + 1, 1, none⟩))
      ((with_reducible refine KS _ ?_; repeat (with_reducible (first | exact HG0.out | refine Res.drew ?_ | refine Res.set ?_ _ _ | refine Res.next ?_ hb4 | refine Res.next ?_ hb3 | fail))))
      (first | (go_at_call 45; (with_reducible refine (HCD.out HSD.out _ (by repeat (with_reducible (first | exact HB2.out | refine below_drew ?_ | fail)))).mono ?_); rintro e w3 ⟨r0, rfl, hL3, hb3⟩; obtain ⟨ra, rc, rfl⟩ : ∃ a c, r0 = .slice a ds.length c := by (obtain ⟨a, c, h, _⟩ := hL3.toIn; exact ⟨a, c, h⟩)) | (go_at_call 47; (with_reducible refine (HCS.out HSS.out _ (by repeat (with_reducible (first | exact HB2.out | refine below_drew ?_ | refine below_next ?_ hb3 | fail)))).mono ?_); rintro e w4 ⟨r1, rfl, hL4, hb4⟩; obtain ⟨sa, sc, rfl⟩ : ∃ a c, r1 = .slice a ss.length c := by (obtain ⟨a, c, h, _⟩ := hL4.toIn; exact ⟨a, c, h⟩)))
    have e0 : w2.drew.heap.size = w2.heap.size := rfl
    have hs3 := hb3.size
    have hs4 := hb4.size
    have hSS1 := HS1.out
    have bR : Blk ((w4.setCell ⟨B + 1, 0, none⟩ (.slice ra ds.length rc)).setCell ⟨B + 1, 1, none⟩ (.slice sa ss.length sc)) (B + 1) #[.slice ra ds.length rc, .slice sa ss.length sc] 25 := ((((show Blk w2.drew (B + 1) _ _ from HR2.out).next hb3).next hb4).set 0 (.slice ra ds.length rc)).set 1 (.slice sa ss.length sc)
    have hBB : Below w.heap.size w ((w4.setCell ⟨B + 1, 0, none⟩ (.slice ra ds.length rc)).setCell ⟨B + 1, 1, none⟩ (.slice sa ss.length sc)) := ((below_next (below_next (below_drew HB2.out) hb3) hb4).setCell (p := ⟨B + 1, 0, none⟩) (by have := HBE.out; simp only; omega) _).setCell (p := ⟨B + 1, 1, none⟩) (by have := HBE.out; simp only; omega) _
    have hother : ∀ q, B + 2 ≤ q → ((w4.setCell ⟨B + 1, 0, none⟩ (.slice ra ds.length rc)).setCell ⟨B + 1, 1, none⟩ (.slice sa ss.length sc)).heap[q]? = w4.heap[q]? := fun q hq => by
      rw [Below.heap_setCell _ ⟨B + 1, 1, none⟩ _ q (by simp only; omega), Below.heap_setCell _ ⟨B + 1, 0, none⟩ _ q (by simp only; omega)]
    have hM0 := hL3.keep (w' := (w4.setCell ⟨B + 1, 0, none⟩ (.slice ra ds.length rc)).setCell ⟨B + 1, 1, none⟩ (.slice sa ss.length sc)) (fun q h1 h2 => (hother q (by omega)).trans (hb4.block q (by omega)))
    have hM1 := hL4.keep (w' := (w4.setCell ⟨B + 1, 0, none⟩ (.slice ra ds.length rc)).setCell ⟨B + 1, 1, none⟩ (.slice sa ss.length sc)) (fun q h1 h2 => hother q (by omega))
    have hWs : ((w4.setCell ⟨B + 1, 0, none⟩ (.slice ra ds.length rc)).setCell ⟨B + 1, 1, none⟩ (.slice sa ss.length sc)).heap.size = w4.heap.size := by simp
    obtain ⟨W, hW⟩ : ∃ W, (w4.setCell ⟨B + 1, 0, none⟩ (.slice ra ds.length rc)).setCell ⟨B + 1, 1, none⟩ (.slice sa ss.length sc) = W := ⟨_, rfl⟩
    rw [hW] at bR hBB hM0 hM1 hWs ⊢
    have z0 : W.cell? ⟨B + 1, 0, none⟩ = some (.slice ra ds.length rc) := bR.cell 0
    have z1 : W.cell? ⟨B + 1, 1, none⟩ = some (.slice sa ss.length sc) := bR.cell 1
    have hfin : ∃ m, SpL W .D ds (.slice ra ds.length rc) w.heap.size m ∧ SpL W .S ss (.slice sa ss.length sc) m W.heap.size := ⟨w3.heap.size, SpV.lo hM0 (by have := HBE.out; omega), SpL.hi hM1 (by rw [hWs]; exact Nat.le_refl _)⟩
    have HFIN := Lib.hid hfin; clear hfin
    have HBB := Lib.hid hBB; clear hBB
    clear bR hother hM0 hM1 hWs hW hs3 hs4 hSS1 e0 hL3 hL4 hs1
    go_wp2_with fail
    exact bodyPost_ret (v := .tuple #[.agg #[.slice ra ds.length rc, .slice sa ss.length sc], .int .i64 0]) (by simp [results, Try.results22, go_sem, z0, z1]) rfl ⟨_, _, rfl, by rw [if_pos rfl]; exact HFIN.out, HBB.out⟩
  · have hz1 : (F != 0) = true := by simpa using hz
    have HZ := Lib.hid hz; clear hz
    clear HSM HCD HCS
    go_enter Try.func22, Try.ntmps22
    go_upto_region 1 with fail
    rw [HW1.out, HBE.out]
    clear HW1
    go_wp2_with (first | (go_at_call 12; (with_reducible refine (HTC.out _ HB1.out).mono ?_); rintro e w2 ⟨rfl, hb1⟩; have z0 := (HR1.out.next hb1).cell 0; have z1 := (HR1.out.next hb1).cell 1; have f0 := (HR1.out.next hb1).free 0; have f1 := (HR1.out.next hb1).free 1; simp at z0 z1) | fail)
    have bR : Blk ((w2.setCell ⟨B + 1, 0, none⟩ (.slice none 0 0)).setCell ⟨B + 1, 1, none⟩ (.slice none 0 0)) (B + 1) #[.slice none 0 0, .slice none 0 0] 25 := ((HR1.out.next hb1).set 0 (.slice none 0 0)).set 1 (.slice none 0 0)
    have hBB : Below w.heap.size w ((w2.setCell ⟨B + 1, 0, none⟩ (.slice none 0 0)).setCell ⟨B + 1, 1, none⟩ (.slice none 0 0)) := ((below_next HB1.out hb1).setCell (p := ⟨B + 1, 0, none⟩) (by have := HBE.out; simp only; omega) _).setCell (p := ⟨B + 1, 1, none⟩) (by have := HBE.out; simp only; omega) _
    obtain ⟨W, hW⟩ : ∃ W, (w2.setCell ⟨B + 1, 0, none⟩ (.slice none 0 0)).setCell ⟨B + 1, 1, none⟩ (.slice none 0 0) = W := ⟨_, rfl⟩
    rw [hW] at bR hBB ⊢
    have y0 : W.cell? ⟨B + 1, 0, none⟩ = some (.slice none 0 0) := bR.cell 0
    have y1 : W.cell? ⟨B + 1, 1, none⟩ = some (.slice none 0 0) := bR.cell 1
    exact bodyPost_ret (v := .tuple #[.agg #[.slice none 0 0, .slice none 0 0], .int .i64 F]) (by simp [results, Try.results22, go_sem, y0, y1]) rfl ⟨_, _, rfl, by rw [if_neg HZ.out]; exact ⟨rfl, rfl⟩, hBB⟩
end Go.Proofs.Ytpildlaloclanaa
