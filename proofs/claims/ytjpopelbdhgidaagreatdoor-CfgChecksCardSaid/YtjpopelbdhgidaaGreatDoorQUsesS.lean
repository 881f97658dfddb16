/-
  The document's names in statements (gnomonref3's stmtUses, Uses): proved is that they are put behind the list that is handed on.
-/
import Derived.Test.YtjpopelbdhgidaaGreatDoorQTwalkS
import Derived.Test.YtjpopelbdhgidaaGreatDoorQTourH
import Derived.Maps.Range
import Derived.Outline
import Derived.Deep.DeepCutAuto
import Derived.Deep.CutBlock
import Derived.Test.YtjpopelbdhgidaaGreatDoorQPlainE
/-
  Lists of one's own that functions hand on and append to: a frame for them; cells of such a list; names that are used, in a row.
-/
namespace Go.Proofs.YtjpopelbdhgidaaGreatDoor
open Go Go.RowKit

/-- w' is w but for the row r and new blocks; the row r' is r or new. -/
def Gr (r r' : Option Nat) (w w' : World) : Prop := w.grownBy w' r ∧ (r' = r ∨ ∀ g, r' = some g → w.heap.size ≤ g)
theorem Gr.refl (r : Option Nat) (w : World) : Gr r r w w := ⟨World.grownBy.refl w r, .inl rfl⟩
theorem Gr.trans {r0 r1 r2 : Option Nat} {a b c : World} (h : Gr r0 r1 a b) (k : Gr r1 r2 b c) : Gr r0 r2 a c := by
  refine ⟨h.1.andThen k.1 (fun j hj => ?_), ?_⟩
  · rcases h.2 with h1 | h1
    · exact .inr (by rw [← h1]; exact hj)
    · exact .inl (h1 j hj)
  · rcases k.2 with h2 | h2
    · rw [h2]; exact h.2
    · exact .inr fun g hg => Nat.le_trans h.1.size (h2 g hg)
theorem Gr.below {r : Option Nat} {w w' : World} (h : Below w.heap.size w w') : Gr r r w w' := ⟨⟨h.os, h.tape, h.output, h.size, fun k hk _ => h.block k hk⟩, .inl rfl⟩
theorem Gr.size {r r' : Option Nat} {w w' : World} (h : Gr r r' w w') : w.heap.size ≤ w'.heap.size := h.1.size
theorem Gr.alloc {r r' : Option Nat} {a w : World} (h : Gr r r' a w) (o : Obj) : Gr r r' a (w.alloc o) := h.trans (Gr.below ((Below.refl _ w).alloc (Nat.le_refl _) o))
theorem Gr.drew {r r' : Option Nat} {a w : World} (h : Gr r r' a w) : Gr r r' a w.drew := h.trans (Gr.below (Below.refl _ w).drew)
theorem Gr.old {B0 : Nat} {r r' : Option Nat} {w w' : World} (h : Gr r r' w w') (h1 : B0 ≤ w.heap.size) (hr : ∀ g, r = some g → B0 ≤ g) : Below B0 w w' :=
  ⟨h.1.os, h.1.tape, h.1.output, h.1.size, fun k hk => h.1.block k (by omega) (fun e => by have := hr k e.symm; omega)⟩
theorem Blk.gr {r r' : Option Nat} {w w' : World} {b : Nat} {cs : Array Value} {t : TypeId} (h : Blk w b cs t) (ho : Gr r r' w w') (hr : r ≠ some b) : Blk w' b cs t := (ho.1.block b h.lt (fun e => hr e.symm)).trans h
theorem gr_grown {a w w' : World} {r row r' : Option Nat} (h : Gr r row a w) (hg : w.grownBy w' row) (hr : r' = row ∨ ∀ g, r' = some g → w.heap.size ≤ g) : Gr r r' a w' := h.trans ⟨hg, hr⟩
theorem ownsRow_below {w w' : World} {base : Nat} {e : TypeId} {size n : Nat} {v : Value} {xs : List Value} (h : w.ownsRow base e size v n xs) (hb : Below w.heap.size w w') : w'.ownsRow base e size v n xs :=
  h.kept (row := none) ⟨hb.os, hb.tape, hb.output, hb.size, fun k hk _ => hb.block k hk⟩ (by cases hv : v.ownBlock <;> simp)

theorem own_new {x : Option Nat} {gg k n cap : Nat} (hat : x = some gg ∨ gg = k) : (Value.slice (some ⟨gg, 0, none⟩) n cap).ownBlock = x ∨ ∀ g, (Value.slice (some ⟨gg, 0, none⟩) n cap).ownBlock = some g → k ≤ g := by
  rcases hat with h | h
  · exact .inl h.symm
  · right
    intro g hg
    have e : gg = g := by simpa [Value.ownBlock] using hg
    omega

/-- A name that is used, and whether as an array's. -/
abbrev Us := ByteArray × Bool
def headU (nm : ByteArray) (a b : Bool) : List Us := if a || b then [(nm, b)] else []
mutual
/-- The names that stand in a node, in the nodes' order. -/
def usesN : Nd → List Us
  | .mk ty k _ nm xs cs ts es => match ty with
    | .E => headU nm (k == 2) (k == 4) ++ usesL xs
    | .C => usesL xs ++ usesL cs
    | .S => headU nm (k == 1) (k == 2) ++ (usesL cs ++ (usesL xs ++ (usesL ts ++ usesL es)))
    | .D => []
def usesL : List Nd → List Us
  | [] => []
  | x :: r => usesN x ++ usesL r
end
theorem usesL_app : ∀ (l m : List Nd), usesL (l ++ m) = usesL l ++ usesL m
  | [], m => by simp [usesL]
  | x :: r, m => by rw [List.cons_append, usesL, usesL, usesL_app r m, List.append_assoc]
theorem usesL_take {l : List Nd} {i : Nat} (hi : i < l.length) : usesL (l.take (i + 1)) = usesL (l.take i) ++ usesN l[i] := by
  rw [← List.take_append_getElem hi, usesL_app]
  simp [usesL]
theorem usesL_take_le {l : List Nd} (i : Nat) : (usesL (l.take i)).length ≤ (usesL l).length := by
  conv => rhs; rw [← List.take_append_drop i l, usesL_app]
  simp
theorem usesL_at_le {l : List Nd} {i : Nat} (hi : i < l.length) : (usesL (l.take i)).length + (usesN l[i]).length ≤ (usesL l).length := by
  have h := usesL_take_le (l := l) (i + 1)
  rw [usesL_take hi, List.length_append] at h
  exact h
theorem info_str : (Tryz.prog.info? 9).map (fun i => (i.zero, i.size, i.bytes)) = some (some (.string ⟨#[]⟩), 1, 16) := by kernel_rfl
end Go.Proofs.YtjpopelbdhgidaaGreatDoor

/-
  The document's names in an expression (gnomonref3's exprUses): proved is that it puts them behind the list that it is handed.
-/
namespace Go.Proofs.YtjpopelbdhgidaaGreatDoor
open Go Go.RowKit

end Go.Proofs.YtjpopelbdhgidaaGreatDoor

/-
  The document's names in a condition (gnomonref3's condUses): proved is that it puts them behind the list that it is handed.
-/
namespace Go.Proofs.YtjpopelbdhgidaaGreatDoor
open Go Go.RowKit

end Go.Proofs.YtjpopelbdhgidaaGreatDoor

/-
  The document's sameness of conditions (gnomonref3's SameCond): proved is that it answers whether two trees in memory are the same, and that it turns nothing that lay.
-/
namespace Go.Proofs.YtjpopelbdhgidaaGreatDoor
open Go Go.RowKit

end Go.Proofs.YtjpopelbdhgidaaGreatDoor

/-
  The document's sameness of statements in a row (gnomonref3's sameStmts): proved is that it answers whether two rows of trees in memory are the same, and that it turns nothing that lay.
-/
namespace Go.Proofs.YtjpopelbdhgidaaGreatDoor
open Go Go.RowKit

end Go.Proofs.YtjpopelbdhgidaaGreatDoor

/-
  The document's names in statements (gnomonref3's stmtUses, Uses): proved is that they are put behind the list that is handed on.
-/
namespace Go.Proofs.YtjpopelbdhgidaaGreatDoor
open Go Go.RowKit

end Go.Proofs.YtjpopelbdhgidaaGreatDoor
