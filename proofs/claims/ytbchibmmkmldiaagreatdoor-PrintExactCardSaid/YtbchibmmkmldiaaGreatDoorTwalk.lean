/-
  The document's walk over a tree (gnomonref3's walk.node, walk.expr, walk.cond, walk.stmt): proved is what each leaves in the walk's cells: how many nodes were met, the greatest depth, the first error.
-/
import Derived.Test.YtbchibmmkmldiaaGreatDoorTrees
import Derived.Test.YtbchibmmkmldiaaGreatDoorSeq
import Derived.Lib.OthersKept
import Derived.Lib.Hide
import Derived.WalkSmall
namespace Go.Proofs.YtbchibmmkmldiaaGreatDoor
open Go Go.RowKit

/-- w' is w but for the block B, and for new blocks. -/
structure Only (B : Nat) (w w' : World) : Prop where
  os : w'.os = w.os
  tape : w'.tape = w.tape
  output : w'.output = w.output
  size : w.heap.size ≤ w'.heap.size
  block : ∀ k, k < w.heap.size → k ≠ B → w'.heap[k]? = w.heap[k]?
theorem Only.refl (B : Nat) (w : World) : Only B w w := ⟨rfl, rfl, rfl, Nat.le_refl _, fun _ _ _ => rfl⟩
theorem Only.trans {B : Nat} {a b c : World} (h : Only B a b) (k : Only B b c) : Only B a c :=
  ⟨k.os.trans h.os, k.tape.trans h.tape, k.output.trans h.output, Nat.le_trans h.size k.size, fun i hi hn => (k.block i (Nat.lt_of_lt_of_le hi h.size) hn).trans (h.block i hi hn)⟩
theorem Only.below {B : Nat} {w w' : World} (h : Below w.heap.size w w') : Only B w w' := ⟨h.os, h.tape, h.output, h.size, fun k hk _ => h.block k hk⟩
theorem Only.alloc {B : Nat} {a w : World} (h : Only B a w) (o : Obj) : Only B a (w.alloc o) := h.trans (Only.below ((Below.refl _ w).alloc (Nat.le_refl _) o))
theorem Only.setCell {B : Nat} {a w : World} (h : Only B a w) {p : Addr} (hp : p.block = B) (u : Value) : Only B a (w.setCell p u) :=
  h.trans ⟨((Below.refl 0 w).setCell (Nat.zero_le _) u).os, ((Below.refl 0 w).setCell (Nat.zero_le _) u).tape, ((Below.refl 0 w).setCell (Nat.zero_le _) u).output, ((Below.refl 0 w).setCell (Nat.zero_le _) u).size, fun k _ hn => Below.heap_setCell w p u k (by rw [hp]; exact hn)⟩
theorem Only.old {B B0 : Nat} {w w' : World} (h : Only B w w') (h0 : B0 ≤ B) (h1 : B0 ≤ w.heap.size) : Below B0 w w' := ⟨h.os, h.tape, h.output, h.size, fun k hk => h.block k (by omega) (by omega)⟩
theorem Blk.only {B : Nat} {w w' : World} {b : Nat} {cs : Array Value} {t : TypeId} (h : Blk w b cs t) (ho : Only B w w') (hb : b ≠ B) : Blk w' b cs t := (ho.block b h.lt hb).trans h

/-- What the walk holds. -/
structure Wk where
  n : Int
  dep : Int
  bad : Int
def Wk.cells (s : Wk) : Array Value := #[.int .i64 s.n, .int .i64 s.dep, .int .i64 s.bad]
def Wk.ok (s : Wk) : Prop := 0 ≤ s.n ∧ s.n ≤ 4096 ∧ 0 ≤ s.dep ∧ s.dep ≤ 64
/-- One node is met at a depth. -/
def nodeW (d : Int) (s : Wk) : Wk := if s.bad ≠ 0 then s else if s.n = 4096 then ⟨s.n, s.dep, 33⟩ else if 64 < d then ⟨s.n, s.dep, 32⟩ else ⟨s.n + 1, max s.dep d, 0⟩
theorem nodeW_ok {d : Int} {s : Wk} (h : s.ok) (_hd : 0 ≤ d) : (nodeW d s).ok := by
  unfold nodeW Wk.ok at *
  split
  · exact h
  · split
    · exact h
    · split
      · exact h
      · simp only; omega

theorem wnode_any (s : Wk) (d : Int) (B : Nat) (w : World) (hs : s.ok) (_hd : 0 ≤ d ∧ d ≤ 100) (hB : Blk w B s.cells 70) :
    Calls Tryz.prog 47 #[.pointer (some ⟨B, 0, none⟩), .int .i64 d] w fun e w' => e = .returned (.bool (decide ((nodeW d s).bad = 0))) ∧ Blk w' B (nodeW d s).cells 70 ∧ Only B w w' := by
  obtain ⟨n, dep, bad⟩ := s
  unfold Wk.ok at hs
  simp only at hs
  obtain ⟨h1, h2, h3, h4⟩ := hs
  have c0 : w.cell? ⟨B, 0, none⟩ = some (.int .i64 n) := hB.cell 0
  have c1 : w.cell? ⟨B, 1, none⟩ = some (.int .i64 dep) := hB.cell 1
  have c2 : w.cell? ⟨B, 2, none⟩ = some (.int .i64 bad) := hB.cell 2
  have f0 := hB.free 0
  have f1 := hB.free 1
  have f2 := hB.free 2
  have HB := Lib.hid hB; clear hB
  by_cases hbad : bad = 0
  · subst hbad
    by_cases hn : n = 4096
    · subst hn
      go_enter Tryz.func47, Tryz.ntmps47
      go_wp2
      go_ret
      exact ⟨rfl, HB.out.set 2 (.int .i64 33), (Only.refl B w).setCell (by rfl) _⟩
    · have hn2 : (n == 4096) = false := by simpa using hn
      by_cases h64 : 64 < d
      · have e : nodeW d ⟨n, dep, 0⟩ = ⟨n, dep, 32⟩ := by unfold nodeW; simp [hn, h64]
        rw [e]
        clear e
        go_enter Tryz.func47, Tryz.ntmps47
        go_wp2
        go_ret
        exact ⟨rfl, HB.out.set 2 (.int .i64 32), (Only.refl B w).setCell (by rfl) _⟩
      · have e : nodeW d ⟨n, dep, 0⟩ = ⟨n + 1, max dep d, 0⟩ := by unfold nodeW; simp [hn, h64]
        rw [e]
        clear e
        by_cases hm : d ≤ dep
        · have e2 : max dep d = dep := by omega
          rw [e2]
          clear e2
          go_enter Tryz.func47, Tryz.ntmps47
          go_wp2
          go_ret
          exact ⟨rfl, (HB.out.set 0 (.int .i64 (n + 1))).set 1 (.int .i64 dep), ((Only.refl B w).setCell (by rfl) _).setCell (by rfl) _⟩
        · have e2 : max dep d = d := by omega
          rw [e2]
          clear e2
          go_enter Tryz.func47, Tryz.ntmps47
          go_wp2
          go_ret
          exact ⟨rfl, (HB.out.set 0 (.int .i64 (n + 1))).set 1 (.int .i64 d), ((Only.refl B w).setCell (by rfl) _).setCell (by rfl) _⟩
  · have hb2 : (bad != 0) = true := by simpa using hbad
    have e : nodeW d ⟨n, dep, bad⟩ = ⟨n, dep, bad⟩ := by unfold nodeW; simp [hbad]
    rw [e]
    clear e
    have e2 : decide (bad = 0) = false := by simpa using hbad
    simp only [e2]
    clear e2
    go_enter Tryz.func47, Tryz.ntmps47
    go_wp2
    go_ret
    exact ⟨rfl, HB.out, Only.refl B w⟩

/-- A node's parts, in the nodes' order. -/
def Nd.kids : Nd → List Nd
  | .mk .E _ _ _ xs _ _ _ => xs
  | .mk .C _ _ _ xs cs _ _ => xs ++ cs
  | .mk .S _ _ _ xs cs ts es => cs ++ xs ++ ts ++ es
  | .mk .D _ _ _ _ _ _ _ => []
def Nd.xs : Nd → List Nd | .mk _ _ _ _ xs _ _ _ => xs
def Nd.cs : Nd → List Nd | .mk _ _ _ _ _ cs _ _ => cs
def Nd.ts : Nd → List Nd | .mk _ _ _ _ _ _ ts _ => ts
def Nd.es : Nd → List Nd | .mk _ _ _ _ _ _ _ es => es
mutual
/-- What the document's walk makes of a node, and of nodes in a row. -/
def walkN : Nd → Int → Wk → Wk
  | .mk ty _ _ _ xs cs ts es, d, s =>
    if (nodeW d s).bad ≠ 0 then nodeW d s else match ty with
      | .E => walkL xs (d + 1) (nodeW d s)
      | .C => walkL cs (d + 1) (walkL xs (d + 1) (nodeW d s))
      | .S => walkL es (d + 1) (walkL ts (d + 1) (walkL xs (d + 1) (walkL cs (d + 1) (nodeW d s))))
      | .D => nodeW d s
def walkL : List Nd → Int → Wk → Wk
  | [], _, s => s
  | x :: r, d, s => walkL r d (walkN x d s)
end
theorem nodeW_bad {d : Int} {s : Wk} (h : s.bad ≠ 0) : nodeW d s = s := by unfold nodeW; rw [if_pos h]
theorem walkN_bad {x : Nd} {d : Int} {s : Wk} (h : s.bad ≠ 0) : walkN x d s = s := by
  obtain ⟨ty, k, n, nm, xs, cs, ts, es⟩ := x
  unfold walkN
  rw [nodeW_bad h, if_pos h]
theorem walkL_bad : ∀ (l : List Nd) (d : Int) (s : Wk), s.bad ≠ 0 → walkL l d s = s
  | [], _, _, _ => by unfold walkL; rfl
  | x :: r, d, s, h => by unfold walkL; rw [walkN_bad h]; exact walkL_bad r d s h
theorem walkL_snoc : ∀ (l : List Nd) (x : Nd) (d : Int) (s : Wk), walkL (l ++ [x]) d s = walkN x d (walkL l d s)
  | [], x, d, s => by unfold walkL walkL walkL; rfl
  | y :: r, x, d, s => by
    rw [List.cons_append, walkL, walkL]
    exact walkL_snoc r x d _
theorem walkL_app : ∀ (l m : List Nd) (d : Int) (s : Wk), walkL (l ++ m) d s = walkL m d (walkL l d s)
  | [], m, d, s => by rw [List.nil_append, walkL]
  | y :: r, m, d, s => by
    rw [List.cons_append, walkL, walkL]
    exact walkL_app r m d _
mutual
theorem walkN_ok : ∀ (x : Nd) (d : Int) (s : Wk), s.ok → 0 ≤ d → (walkN x d s).ok
  | .mk ty k n nm xs cs ts es, d, s, h, hd => by
    have h0 := nodeW_ok (d := d) h hd
    unfold walkN
    split
    · exact h0
    · split
      · exact walkL_ok xs _ _ h0 (by omega)
      · exact walkL_ok cs _ _ (walkL_ok xs _ _ h0 (by omega)) (by omega)
      · exact walkL_ok es _ _ (walkL_ok ts _ _ (walkL_ok xs _ _ (walkL_ok cs _ _ h0 (by omega)) (by omega)) (by omega)) (by omega)
      · exact h0
theorem walkL_ok : ∀ (l : List Nd) (d : Int) (s : Wk), s.ok → 0 ≤ d → (walkL l d s).ok
  | [], d, s, h, _ => by unfold walkL; exact h
  | x :: r, d, s, h, hd => by unfold walkL; exact walkL_ok r d _ (walkN_ok x d s h hd) hd
end
theorem nodeW_deep {d : Int} {s : Wk} (h : (nodeW d s).bad = 0) : d ≤ 64 := by
  unfold nodeW at h
  split at h
  · rename_i h1; exact absurd h h1
  · split at h
    · simp at h
    · split at h
      · simp at h
      · omega
theorem walkL_take {l : List Nd} {i : Nat} (h : i < l.length) (d : Int) (s : Wk) : walkL (l.take (i + 1)) d s = walkN l[i] d (walkL (l.take i) d s) := by
  rw [List.take_succ_eq_append_getElem h, walkL_snoc]
/-- A walk that has ended with an error stays. -/
theorem walkL_stop {l : List Nd} {i : Nat} {d : Int} {s : Wk} (h : (walkL (l.take i) d s).bad ≠ 0) : walkL l d s = walkL (l.take i) d s := by
  have e := walkL_app (l.take i) (l.drop i) d s
  rw [List.take_append_drop] at e
  rw [e, walkL_bad _ _ _ h]
end Go.Proofs.YtbchibmmkmldiaaGreatDoor
