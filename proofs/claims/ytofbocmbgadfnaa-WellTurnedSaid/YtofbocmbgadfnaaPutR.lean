/-
  The document's put and Uses (gnomonref3's): proved is that put puts a name behind a list of one's own unless it is there, and that Uses tells all names in statements.
-/
import Derived.Test.YtofbocmbgadfnaaUsesS
namespace Go.Proofs.Ytofbocmbgadfnaa
open Go Go.RowKit

/-- A list of names with one more, unless it is there. -/
def putL (l : List ByteArray) (s : ByteArray) : List ByteArray := if l.any (fun x => x.toList == s.toList) then l else l ++ [s]
theorem putL_len (l : List ByteArray) (s : ByteArray) : (putL l s).length ≤ l.length + 1 := by
  unfold putL
  split
  · omega
  · simp
def cellsT (l : List ByteArray) : List Value := l.map Value.string
theorem cellsT_len (l : List ByteArray) : (cellsT l).length = l.length := List.length_map ..
def PutTo (w : World) (base : Nat) (v : Value) (L : List ByteArray) : Ending → World → Prop := fun e w' => ∃ v', e = .returned v' ∧ w'.ownsRow base 9 1 v' L.length (cellsT L) ∧ Gr v.ownBlock v'.ownBlock w w'
/-- What a list of names of one's own looks like. -/
theorem own_str {w : World} {base : Nat} {v : Value} {l : List ByteArray} (h : w.ownsRow base 9 1 v l.length (cellsT l)) : ∃ a c, v = .slice a l.length c ∧ l.length ≤ c ∧ (l.length = 0 ∨ ∃ g, a = some ⟨g, 0, none⟩ ∧ ∀ i (hi : i < l.length), w.cell? ⟨g, i, none⟩ = some (.string l[i])) := by
  by_cases h0 : l.length = 0
  · rcases h.2 with ⟨rfl, _⟩ | ⟨g, cap, cur, rfl, _, _, hn, _⟩
    · exact ⟨none, 0, by rw [h0], by omega, .inl h0⟩
    · exact ⟨_, cap, rfl, hn, .inl h0⟩
  · have hc := fun g hg => h.cells (g := g) hg
    rcases h.2 with ⟨_, h1⟩ | ⟨g, cap, cur, rfl, _, _, hn, _⟩
    · exact absurd h1 h0
    · refine ⟨_, cap, rfl, hn, .inr ⟨g, rfl, fun i hi => ?_⟩⟩
      have := hc g rfl i (.string l[i]) (by simp [cellsT, hi])
      rwa [add_none, Nat.zero_add] at this
theorem news_str (w : World) (s : ByteArray) (c : Nat) (hc : w.heap.size = c) : ∀ j u, ([.string s] : List Value)[j]? = some u → (w.alloc (.cells #[.string s] 9)).cell? ((⟨c, 0, none⟩ : Addr).add j) = some u := by
  rw [← hc]
  exact World.news_of_block (cs := #[.string s]) (t := 9) (fr := (0, 0)) (heap_alloc_new w _)
theorem str_one (s : ByteArray) : ∀ u ∈ ([.string s] : List Value), u.oneCell' = true := by
  intro u hu
  simp at hu
  subst hu
  rfl

/-- Uses: all names in the statements. -/
theorem uses_any (ds ss : List Nd) (v0 v1 : Value) (w : World) (hd : SlIn w .D ds v0) (hs : SlIn w .S ss v1) (hlen : (usesL ss).length ≤ 1099511627776) :
    Calls Try.prog 21 #[.agg #[v0, v1]] w (fun e w' => ∃ v', e = .returned v' ∧ w'.ownsRow w.heap.size 56 2 v' (usesL ss).length (cellsU (usesL ss)) ∧ Below w.heap.size w w') := by
  have hb0 : Below w.heap.size w (w.alloc (.cells #[v0, v1] 25)) := (Below.refl _ w).alloc (Nat.le_refl _) _
  have hC := stmtUses_any w w.heap.size (Nat.le_refl _) _ ss v1 [] (.slice none 0 0) (w.alloc (.cells #[v0, v1] 25)) (Nat.le_refl _) hs hb0 hb0.size (World.ownsRow_nil _ _ _ _) (by simpa using hlen)
  rw [List.nil_append] at hC
  obtain ⟨a0, c0, rfl, -⟩ := hd
  obtain ⟨a1, c1, rfl, -⟩ := hs
  obtain ⟨L, hL⟩ : ∃ L, usesL ss = L := ⟨_, rfl⟩
  rw [hL] at hC ⊢
  clear hL hlen
  have HC := Lib.hid hC; clear hC
  have HB0 := Lib.hid hb0; clear hb0
  go_enter Try.func21, Try.ntmps21
  go_wp2_with fail
  refine HC.out.mono ?_
  rintro e w1 ⟨v', rfl, hO, hG⟩
  have HOO := Lib.hid hO; clear hO
  have HG := Lib.hid (HB0.out.trans (hG.old HB0.out.size (fun g hg => by cases hg))); clear hG
  go_wp2_with fail
  go_ret
  exact ⟨v', rfl, HOO.out, HG.out⟩
end Go.Proofs.Ytofbocmbgadfnaa
