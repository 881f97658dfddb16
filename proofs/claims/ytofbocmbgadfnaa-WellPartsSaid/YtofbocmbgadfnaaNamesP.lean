/-
  The project's Names of a program (tree's): proved is what it tells: the names of all nodes in order, each once, in a list of its own, or the error.
-/
import Derived.Test.YtofbocmbgadfnaaNamesR
import Derived.Test.YtofbocmbgadfnaaTops
import Derived.Test.YtofbocmbgadfnaaShelf
import Derived.Maps.OwnSet
import Derived.Maps.Views
namespace Go.Proofs.Ytofbocmbgadfnaa
open Go Go.RowKit Go.Maps

/-- The project's names: of the nodes that must have one. -/
def nmsOf (l : List Nd) : List ByteArray := (l.filter mustN).map ownNm
def namesP (l : List Nd) : List ByteArray := (nmsOf l).foldl putL []
theorem nmsOf_app (l m : List Nd) : nmsOf (l ++ m) = nmsOf l ++ nmsOf m := by simp [nmsOf]
theorem namesP_take {l : List Nd} {i : Nat} (hi : i < l.length) : namesP (l.take (i + 1)) = if mustN l[i] then putL (namesP (l.take i)) (ownNm l[i]) else namesP (l.take i) := by
  unfold namesP
  rw [← List.take_append_getElem hi, nmsOf_app, List.foldl_append]
  cases h : mustN l[i] <;> simp [nmsOf, h]
theorem namesP_len (l : List Nd) (i : Nat) : (namesP (l.take i)).length ≤ i := by
  have h := foldl_len (nmsOf (l.take i)) []
  have h2 : (nmsOf (l.take i)).length ≤ (l.take i).length := by unfold nmsOf; rw [List.length_map]; exact List.length_filter_le ..
  rw [List.length_take] at h2
  unfold namesP
  simp at h
  omega
def keyS (s : ByteArray) : Lit := .string s.data.toList
/-- The names that were met, as a set. -/
def metD (l : List ByteArray) : DataW Unit := setOf (.agg []) (l.map keyS)
theorem has_metD (l : List ByteArray) (s : ByteArray) : Maps.has (metD l) (keyS s) = l.any (fun x => x.toList == s.toList) := by
  unfold metD
  rw [has_setOf _ _ _ (fun x hx => by obtain ⟨y, _, rfl⟩ := List.mem_map.1 hx; exact True.intro), List.any_map]
  congr 1
  funext x
  simp [keyS, Lit.sameKey, ByteArray.toList_eq]
theorem metD_snoc (l : List ByteArray) (s : ByteArray) : metD (l ++ [s]) = (metD l).put (keyS s) (.agg []) := by
  unfold metD
  rw [List.map_append]
  exact setOf_snoc _ _ _
theorem nodes_named {w : World} {x : Nd} {vs : List Value} (h : NdIn w x vs) : (ownNm x).size ≤ maxLen := by
  obtain ⟨ty, k, n, nm, xs, cs, ts, es⟩ := x
  unfold NdIn at h
  obtain ⟨-, -, -, h4, -⟩ := h
  cases ty <;> first | exact h4 | exact Nat.zero_le _
theorem nameB_size {s : ByteArray} (h : nameB s = true) : s.size ≤ 128 := by
  unfold nameB at h
  split at h
  · rename_i N hN
    have h2 := nmG_size s s.size 0 0 N (by omega) hN (Nat.zero_le _)
    simp at h
    omega
  · cases h
theorem fault_names {t : Tr} (h : faultT t = 0) : ∀ x ∈ t.l, mustN x = true → (ownNm x).size ≤ 128 := by
  unfold faultT at h
  split at h
  · omega
  · split at h
    · omega
    · split at h
      · omega
      · rename_i hn
        intro x hx hm
        refine nameB_size ?_
        cases hb : nameB (ownNm x) with
        | true => rfl
        | false =>
          exact absurd (List.any_eq_true.2 ⟨x, hx, by unfold namelessB; rw [hm, hb]; rfl⟩) hn
theorem law9 : Keyed Try.prog 9 := string_keyed (by kernel_rfl)
theorem clone_any (s : ByteArray) (w : World) (hs : s.size ≤ 65536) : Calls Try.prog 18 #[.string s] w fun e w' => e = .returned (.string s) ∧ Below w.heap.size w w' := by
  go_enter Try.func18, Try.ntmps18
  go_wp2_with (go_at_call 28; refine (Try.stringslite_Clone _ _ (by omega)).mono ?_; rintro e w' ⟨rfl, hb⟩)
  go_ret
  exact ⟨rfl, hb⟩
/-- What Names tells. -/
def NamesTo (w : World) (f : Int) (L : List ByteArray) : Ending → World → Prop := fun e w' => ∃ v', e = .returned (.tuple #[v', .int .i64 f]) ∧ w'.ownsRow w.heap.size 9 1 v' L.length (cellsT L) ∧ Below w.heap.size w w'
theorem grown_below {w w' : World} (hb : Below w.heap.size w w') : w.grownBy w' none := ⟨hb.os, hb.tape, hb.output, hb.size, fun k hk _ => hb.block k hk⟩
theorem below_grown {B : Nat} {a w w' : World} {row : Option Nat} (h : Below B a w) (hB : B ≤ w.heap.size) (hg : w.grownBy w' row) (hr : ∀ r, row = some r → B ≤ r) : Below B a w' :=
  h.trans ⟨hg.os, hg.tape, hg.output, hg.size, fun k hk => hg.block k (by omega) (fun e => by have := hr k e.symm; omega)⟩

end Go.Proofs.Ytofbocmbgadfnaa
