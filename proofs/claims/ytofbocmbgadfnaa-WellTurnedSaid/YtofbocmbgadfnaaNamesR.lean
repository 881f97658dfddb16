/-
  The document's Names of a program (gnomonref3's): proved is what it tells: all names in order, each once, in a list of its own.
-/
import Derived.Test.YtofbocmbgadfnaaPutR
import Derived.Test.YtofbocmbgadfnaaOwnM
namespace Go.Proofs.Ytofbocmbgadfnaa
open Go Go.RowKit

/-- The document's names: of the declarations, then of the statements. -/
def namesR (ds ss : List Nd) : List ByteArray := ((usesL ss).map Prod.fst).foldl putL ((ds.map ownNm).foldl putL [])
theorem foldl_len : ∀ (m l : List ByteArray), (m.foldl putL l).length ≤ l.length + m.length
  | [], l => by simp
  | x :: r, l => by
    have h := foldl_len r (putL l x)
    have := putL_len l x
    simp only [List.foldl_cons, List.length_cons]
    omega
theorem foldl_take {l m : List ByteArray} {i : Nat} (hi : i < m.length) : (m.take (i + 1)).foldl putL l = putL ((m.take i).foldl putL l) m[i] := by
  rw [← List.take_append_getElem hi, List.foldl_append]
  rfl
theorem own_ne {w : World} {b s n b' s' n' : Nat} {e e' : TypeId} {v v' : Value} {xs xs' : List Value} (h : w.ownsRow b e s v n xs) (h' : w.ownsRow b' e' s' v' n' xs') (hne : e ≠ e') : v.ownBlock = none ∨ v.ownBlock ≠ v'.ownBlock := by
  rcases h.2 with ⟨rfl, _⟩ | ⟨g, cap, cur, rfl, _, hg, _⟩
  · exact .inl rfl
  · right
    rcases h'.2 with ⟨rfl, _⟩ | ⟨g', cap', cur', rfl, _, hg', _⟩
    · simp [Value.ownBlock]
    · simp only [Value.ownBlock]
      intro e1
      obtain rfl : g = g' := by simpa using e1
      rw [hg] at hg'
      simp at hg'
      exact hne hg'.2
theorem own_use {w : World} {base : Nat} {v : Value} {l : List Us} (h : w.ownsRow base 56 2 v l.length (cellsU l)) : ∃ a c, v = .slice a l.length c ∧ l.length ≤ c ∧ (l.length = 0 ∨ ∃ g, a = some ⟨g, 0, none⟩ ∧ ∀ i (hi : i < l.length), w.cell? ⟨g, i * 2, none⟩ = some (.string l[i].1)) := by
  by_cases h0 : l.length = 0
  · rcases h.2 with ⟨rfl, _⟩ | ⟨g, cap, cur, rfl, _, _, hn, _⟩
    · exact ⟨none, 0, by rw [h0], by omega, .inl h0⟩
    · exact ⟨_, cap, rfl, hn, .inl h0⟩
  · have hc := fun g hg => h.cells (g := g) hg
    rcases h.2 with ⟨_, h1⟩ | ⟨g, cap, cur, rfl, _, _, hn, _⟩
    · exact absurd h1 h0
    · refine ⟨_, cap, rfl, hn, .inr ⟨g, rfl, fun i hi => ?_⟩⟩
      have hx : ∀ (l : List Us) (i : Nat) (hi : i < l.length), (cellsU l)[i * 2]? = some (.string l[i].1) := by
        intro l
        induction l with
        | nil => intro i hi; simp at hi
        | cons x r ih =>
          intro i hi
          cases i with
          | zero => rfl
          | succ j =>
            have := ih j (by simpa using hi)
            rw [show (j + 1) * 2 = j * 2 + 1 + 1 by omega]
            simpa [cellsU] using this
      have := hc g rfl (i * 2) _ (hx l i hi)
      rwa [add_none, Nat.zero_add] at this

end Go.Proofs.Ytofbocmbgadfnaa
