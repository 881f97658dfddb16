/-
  The project's tour over a tree (tree's walk, each, show): what a tour holds; proved is beyond, and what each step keeps.
-/
import Derived.Test.YtbchibmmkmldiaaGreatDoorTwalkE
import Derived.OwnWalk
import Derived.Deep.AppendLies
import Derived.Deep.RegionLaw
import Derived.Deep.RegionWith
import Derived.Deep.Onto
import Derived.BigRegion
namespace Go.Proofs.YtbchibmmkmldiaaGreatDoor
open Go Go.RowKit

/-- The named type as which a node is shown. -/
def ifTy : Ty → TypeId | .E => 84 | .C => 122 | .S => 119 | .D => 118
def nodeV (ty : Ty) (vs : List Value) : Value := .iface (ifTy ty) (.agg vs.toArray)
/-- What a tour has met: the nodes, the greatest depth, the limit that ended it. -/
structure Tr where
  l : List Nd
  dep : Int
  lim : Int
def Tr.ok (t : Tr) : Prop := t.l.length ≤ 4096 ∧ 0 ≤ t.dep ∧ t.dep ≤ 64
/-- Which limit the next node would be past. -/
def byd (k : Nat) (d : Int) : Int := if k = 4096 then 33 else if 64 < d then 32 else 0
def nodeT (x : Nd) (d : Int) (t : Tr) : Tr := if byd t.l.length d ≠ 0 then ⟨t.l, t.dep, byd t.l.length d⟩ else ⟨t.l ++ [x], max t.dep d, 0⟩
mutual
def tourN : Nd → Int → Tr → Tr
  | .mk ty k n s xs cs ts es, d, t =>
    if (nodeT (.mk ty k n s xs cs ts es) d t).lim ≠ 0 then nodeT (.mk ty k n s xs cs ts es) d t else match ty with
      | .E => tourL xs (d + 1) (nodeT (.mk ty k n s xs cs ts es) d t)
      | .C => if (tourL xs (d + 1) (nodeT (.mk ty k n s xs cs ts es) d t)).lim ≠ 0 then tourL xs (d + 1) (nodeT (.mk ty k n s xs cs ts es) d t) else tourL cs (d + 1) (tourL xs (d + 1) (nodeT (.mk ty k n s xs cs ts es) d t))
      | .S => let a := tourL cs (d + 1) (nodeT (.mk ty k n s xs cs ts es) d t)
        if a.lim ≠ 0 then a else let b := tourL xs (d + 1) a
          if b.lim ≠ 0 then b else let c := tourL ts (d + 1) b
            if c.lim ≠ 0 then c else tourL es (d + 1) c
      | .D => nodeT (.mk ty k n s xs cs ts es) d t
def tourL : List Nd → Int → Tr → Tr
  | [], _, t => t
  | x :: r, d, t => if (tourN x d t).lim ≠ 0 then tourN x d t else tourL r d (tourN x d t)
end

/-- A list of nodes, as values. -/
def NodesAre (w0 : World) (l : List Nd) (xs : List Value) : Prop := ∀ i (h : i < l.length), ∃ vs, xs[i]? = some (nodeV (l[i]).ty vs) ∧ NdIn w0 l[i] vs
theorem NodesAre.nil (w0 : World) : NodesAre w0 [] [] := fun i h => by simp at h
theorem NodesAre.snoc {w0 : World} {l : List Nd} {xs : List Value} {x : Nd} {vs : List Value} (h : NodesAre w0 l xs) (hl : xs.length = l.length) (hx : NdIn w0 x vs) : NodesAre w0 (l ++ [x]) (xs ++ [nodeV x.ty vs]) := fun i hi => by
  by_cases h1 : i < l.length
  · obtain ⟨us, h2, h3⟩ := h i h1
    refine ⟨us, ?_, ?_⟩
    · rw [List.getElem?_append_left (by omega), List.getElem_append_left h1]; exact h2
    · rw [List.getElem_append_left h1]; exact h3
  · have e : i = l.length := by simp at hi; omega
    subst e
    refine ⟨vs, ?_, ?_⟩
    · rw [List.getElem?_append_right (by omega)]
      simp [hl]
    · simpa using hx
/-- A tour in memory: its block, the list that it owns. -/
structure TourIn (w0 w : World) (B : Nat) (t : Tr) (v : Value) : Prop where
  blk : Blk w B #[v, .int .i64 t.dep, .int .i64 t.lim] 62
  own : ∃ xs, w.ownsRow (B + 1) 97 1 v t.l.length xs ∧ NodesAre w0 t.l xs
/-- w' is w but for the block B, the row, and new blocks. -/
structure Fr (B : Nat) (row row' : Option Nat) (w w' : World) : Prop where
  os : w'.os = w.os
  tape : w'.tape = w.tape
  output : w'.output = w.output
  size : w.heap.size ≤ w'.heap.size
  block : ∀ k, k < w.heap.size → k ≠ B → some k ≠ row → w'.heap[k]? = w.heap[k]?
  row : row' = row ∨ ∀ g, row' = some g → w.heap.size ≤ g
theorem Fr.refl (B : Nat) (row : Option Nat) (w : World) : Fr B row row w w := ⟨rfl, rfl, rfl, Nat.le_refl _, fun _ _ _ _ => rfl, .inl rfl⟩
theorem Fr.trans {B : Nat} {r0 r1 r2 : Option Nat} {a b c : World} (h : Fr B r0 r1 a b) (k : Fr B r1 r2 b c) : Fr B r0 r2 a c := by
  refine ⟨k.os.trans h.os, k.tape.trans h.tape, k.output.trans h.output, Nat.le_trans h.size k.size, fun i hi hn hr => ?_, ?_⟩
  · refine (k.block i (Nat.lt_of_lt_of_le hi h.size) hn ?_).trans (h.block i hi hn hr)
    rcases h.row with h1 | h1
    · rw [h1]; exact hr
    · intro e; have := h1 i e.symm; omega
  · rcases k.row with h2 | h2
    · rw [h2]; exact h.row
    · exact .inr fun g hg => Nat.le_trans h.size (h2 g hg)
theorem Fr.below {B : Nat} {r : Option Nat} {w w' : World} (h : Below w.heap.size w w') : Fr B r r w w' := ⟨h.os, h.tape, h.output, h.size, fun k hk _ _ => h.block k hk, .inl rfl⟩
theorem Fr.only {B : Nat} {r : Option Nat} {w w' : World} (h : Only B w w') : Fr B r r w w' := ⟨h.os, h.tape, h.output, h.size, fun k hk hn _ => h.block k hk hn, .inl rfl⟩
theorem Fr.alloc {B : Nat} {r r' : Option Nat} {a w : World} (h : Fr B r r' a w) (o : Obj) : Fr B r r' a (w.alloc o) := h.trans (Fr.below ((Below.refl _ w).alloc (Nat.le_refl _) o))
theorem Fr.old {B B0 : Nat} {r r' : Option Nat} {w w' : World} (h : Fr B r r' w w') (h0 : B0 ≤ B) (h1 : B0 ≤ w.heap.size) (hr : ∀ g, r = some g → B < g) : Below B0 w w' :=
  ⟨h.os, h.tape, h.output, h.size, fun k hk => h.block k (by omega) (by omega) (fun e => by have := hr k e.symm; omega)⟩
theorem Blk.fr {B : Nat} {r r' : Option Nat} {w w' : World} {b : Nat} {cs : Array Value} {t : TypeId} (h : Blk w b cs t) (ho : Fr B r r' w w') (hb : b ≠ B) (hr : some b ≠ r) : Blk w' b cs t := (ho.block b h.lt hb hr).trans h
theorem TourIn.below {w0 w w' : World} {B : Nat} {t : Tr} {v : Value} (h : TourIn w0 w B t v) (hb : Below w.heap.size w w') : TourIn w0 w' B t v := by
  obtain ⟨h1, xs, h2, h3⟩ := h
  refine ⟨h1.below hb h1.lt, xs, ?_, h3⟩
  obtain ⟨h4, h5⟩ := h2
  refine ⟨h4, h5.imp id fun ⟨g, cap, cur, hv, hg, hh, hr⟩ => ⟨g, cap, cur, hv, hg, (hb.block g (Array.getElem?_eq_some_iff.1 hh).1).trans hh, hr⟩⟩
theorem TourIn.row {w0 w : World} {B : Nat} {t : Tr} {v : Value} (h : TourIn w0 w B t v) : ∀ g, v.ownBlock = some g → B < g ∧ g < w.heap.size := fun g hg => by
  obtain ⟨_, xs, h2, _⟩ := h
  have := h2.lt g hg
  omega
theorem TourIn.shape {w0 w : World} {B : Nat} {t : Tr} {v : Value} (h : TourIn w0 w B t v) : ∃ a c, v = .slice a t.l.length c := by
  obtain ⟨_, xs, h2, _⟩ := h
  rcases h2 with ⟨_, ⟨h1, h2⟩ | ⟨g, cap, cur, hv, _⟩⟩
  · exact ⟨none, 0, by rw [h2, h1]⟩
  · exact ⟨_, _, hv⟩

theorem beyond_any (w0 w : World) (B : Nat) (t : Tr) (v : Value) (d : Int) (h : TourIn w0 w B t v) :
    Calls Tryz.prog 56 #[.pointer (some ⟨B, 0, none⟩), .int .i64 d] w fun e w' => e = .returned (.int .i64 (byd t.l.length d)) ∧ w = w' := by
  obtain ⟨a, c, rfl⟩ := h.shape
  have c0 : w.cell? ⟨B, 0, none⟩ = some (.slice a t.l.length c) := h.blk.cell 0
  clear h
  by_cases hk : t.l.length = 4096
  · have hb : byd t.l.length d = 33 := by unfold byd; rw [if_pos hk]
    rw [hb]
    have hk2 : ((t.l.length : Int) == 4096) = true := by simp [hk]
    clear hb hk
    go_enter Tryz.func56, Tryz.ntmps56
    go_wp2
    go_ret
    exact ⟨rfl, rfl⟩
  · have hk2 : ((t.l.length : Int) == 4096) = false := by rw [beq_eq_false_iff_ne]; omega
    by_cases h64 : 64 < d
    · have hb : byd t.l.length d = 32 := by unfold byd; rw [if_neg hk, if_pos h64]
      rw [hb]
      clear hb hk
      go_enter Tryz.func56, Tryz.ntmps56
      go_wp2
      go_ret
      exact ⟨rfl, rfl⟩
    · have hb : byd t.l.length d = 0 := by unfold byd; rw [if_neg hk, if_neg h64]
      rw [hb]
      clear hb hk
      go_enter Tryz.func56, Tryz.ntmps56
      go_wp2
      go_ret
      exact ⟨rfl, rfl⟩
theorem exprNode_any (v0 v1 v2 v3 : Value) (w : World) :
    Calls Tryz.prog 124 #[.agg #[v0, v1, v2, v3]] w fun e w' => e = .returned (nodeV .E [v0, v1, v2, v3]) ∧ Below w.heap.size w w' := by
  go_enter Tryz.func124, Tryz.ntmps124
  go_wp2
  go_ret
  exact ⟨rfl, (Below.refl _ _).alloc (Nat.le_refl _) _⟩
end Go.Proofs.YtbchibmmkmldiaaGreatDoor
