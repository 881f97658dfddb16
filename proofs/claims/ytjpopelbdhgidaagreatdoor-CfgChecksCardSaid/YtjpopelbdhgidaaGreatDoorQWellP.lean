/-
  Plain: declarations that are gone through, and what a map of them tells of a name.
-/
import Derived.Test.YtjpopelbdhgidaaGreatDoorQUsesS
import Derived.Test.YtjpopelbdhgidaaGreatDoorQOwnM
import Derived.Test.YtjpopelbdhgidaaGreatDoorQPlainE
import Derived.Test.YtjpopelbdhgidaaGreatDoorShelf
import Derived.Maps.OwnSet
import Derived.Maps.Views
import Derived.Test.YtjpopelbdhgidaaGreatDoorQWellS
import Derived.Maps.OwnOps
/-
  The document's put and Uses (gnomonref3's): proved is that put puts a name behind a list of one's own unless it is there, and that Uses tells all names in statements.
-/
namespace Go.Proofs.YtjpopelbdhgidaaGreatDoor
open Go Go.RowKit

def cellsT (l : List ByteArray) : List Value := l.map Value.string
theorem cellsT_len (l : List ByteArray) : (cellsT l).length = l.length := List.length_map ..
/-- What a list of names of one's own looks like. -/
theorem own_str {w : World} {base : Nat} {v : Value} {l : List ByteArray} (h : w.ownsRow base 9 1 v l.length (cellsT l)) : ∃ a c, v = .slice a l.length c ∧ l.length ≤ c ∧ (l.length = 0 ∨ ∃ g, a = some ⟨g, 0, none⟩ ∧ ∀ i (hi : i < l.length), w.cell? ⟨g, i, none⟩ = some (.string l[i])) := by
  by_cases h0 : l.length = 0
  · rcases h.2 with ⟨rfl, _⟩ | ⟨g, cap, cur, rfl, _, _, hn, _⟩
    · exact ⟨none, 0, by rw [h0], by omega, .inl h0⟩
    · exact ⟨_, cap, rfl, hn, .inl h0⟩
  · have hc := fun g hg => h.cells (g := g) hg
    rcases h.2 with ⟨_, h1⟩ | ⟨g, cap, cur, rfl, _, _, hn, _⟩
    · exact absurd h1 h0
    · refine ⟨_, cap, rfl, hn, .inr ⟨g, rfl, fun i hi => ?_⟩⟩
      have := hc g rfl i (.string l[i]) (by simp [cellsT, hi])
      rwa [add_none, Nat.zero_add] at this
theorem news_str (w : World) (s : ByteArray) (c : Nat) (hc : w.heap.size = c) : ∀ j u, ([.string s] : List Value)[j]? = some u → (w.alloc (.cells #[.string s] 9)).cell? ((⟨c, 0, none⟩ : Addr).add j) = some u := by
  rw [← hc]
  exact World.news_of_block (cs := #[.string s]) (t := 9) (fr := (0, 0)) (heap_alloc_new w _)
theorem str_one (s : ByteArray) : ∀ u ∈ ([.string s] : List Value), u.oneCell' = true := by
  intro u hu
  simp at hu
  subst hu
  rfl

end Go.Proofs.YtjpopelbdhgidaaGreatDoor

/-
  The document's Names of a program (gnomonref3's): proved is what it tells: all names in order, each once, in a list of its own.
-/
namespace Go.Proofs.YtjpopelbdhgidaaGreatDoor
open Go Go.RowKit

end Go.Proofs.YtjpopelbdhgidaaGreatDoor

/-
  The project's Names of a program (tree's): proved is what it tells: the names of all nodes in order, each once, in a list of its own, or the error.
-/
namespace Go.Proofs.YtjpopelbdhgidaaGreatDoor
open Go Go.RowKit Go.Maps

/-- The project's names: of the nodes that must have one. -/
def nmsOf (l : List Nd) : List ByteArray := (l.filter mustN).map ownNm
theorem nmsOf_app (l m : List Nd) : nmsOf (l ++ m) = nmsOf l ++ nmsOf m := by simp [nmsOf]
def keyS (s : ByteArray) : Lit := .string s.data.toList
theorem nameB_size {s : ByteArray} (h : nameB s = true) : s.size ≤ 128 := by
  unfold nameB at h
  split at h
  · rename_i N hN
    have h2 := nmG_size s s.size 0 0 N (by omega) hN (Nat.zero_le _)
    simp at h
    omega
  · cases h
theorem fault_names {t : Tr} (h : faultT t = 0) : ∀ x ∈ t.l, mustN x = true → (ownNm x).size ≤ 128 := by
  unfold faultT at h
  split at h
  · omega
  · split at h
    · omega
    · split at h
      · omega
      · rename_i hn
        intro x hx hm
        refine nameB_size ?_
        cases hb : nameB (ownNm x) with
        | true => rfl
        | false =>
          exact absurd (List.any_eq_true.2 ⟨x, hx, by unfold namelessB; rw [hm, hb]; rfl⟩) hn
theorem law9 : Keyed Tryz.prog 9 := string_keyed (by kernel_rfl)
theorem clone_any (s : ByteArray) (w : World) (hs : s.size ≤ 65536) : Calls Tryz.prog 58 #[.string s] w fun e w' => e = .returned (.string s) ∧ Below w.heap.size w w' := by
  go_enter Tryz.func58, Tryz.ntmps58
  go_wp2_with (go_at_call 86; refine (Tryz.stringslite_Clone _ _ (by omega)).mono ?_; rintro e w' ⟨rfl, hb⟩)
  go_ret
  exact ⟨rfl, hb⟩
theorem grown_below {w w' : World} (hb : Below w.heap.size w w') : w.grownBy w' none := ⟨hb.os, hb.tape, hb.output, hb.size, fun k hk _ => hb.block k hk⟩
theorem below_grown {B : Nat} {a w w' : World} {row : Option Nat} (h : Below B a w) (hB : B ≤ w.heap.size) (hg : w.grownBy w' row) (hr : ∀ r, row = some r → B ≤ r) : Below B a w' :=
  h.trans ⟨hg.os, hg.tape, hg.output, hg.size, fun k hk => hg.block k (by omega) (fun e => by have := hr k e.symm; omega)⟩

end Go.Proofs.YtjpopelbdhgidaaGreatDoor

/-
  Plain: declarations that are gone through, and what a map of them tells of a name.
-/
namespace Go.Proofs.YtjpopelbdhgidaaGreatDoor
open Go Go.RowKit Go.Maps

def dNm : Nd → ByteArray | .mk _ _ _ nm _ _ _ _ => nm
def dSz : Nd → Int | .mk _ _ n _ _ _ _ _ => n
def kD (n : Int) : Int := if n = 0 then 1 else 2
/-- What a name is declared as, the last one; 0: not at all. -/
def lookL (l : List Nd) (s : ByteArray) : Int := l.foldl (fun k x => if (dNm x).toList == s.toList then kD (dSz x) else k) 0
theorem lookL_snoc (l : List Nd) (x : Nd) (s : ByteArray) : lookL (l ++ [x]) s = if (dNm x).toList == s.toList then kD (dSz x) else lookL l s := by unfold lookL; rw [List.foldl_append]; rfl
def cntK (l : List Nd) (k : Int) : Nat := (l.filter (fun x => kD (dSz x) == k)).length
theorem cntK_snoc (l : List Nd) (x : Nd) (k : Int) : cntK (l ++ [x]) k = cntK l k + if kD (dSz x) == k then 1 else 0 := by
  unfold cntK
  rw [List.filter_append, List.length_append]
  congr 1
  by_cases h : (kD (dSz x) == k) = true
  · simp [h]
  · simp [h]
theorem cntK_le (l : List Nd) (k : Int) : cntK l k ≤ l.length := List.length_filter_le _ _
def mostK (k : Int) : Int := if k = 1 then 32 else 16
/-- What is wrong with a declaration behind those of l. -/
def dF (l : List Nd) (x : Nd) : Int := if lookL l (dNm x) ≠ 0 then 60 else if 1024 < dSz x then 61 else if mostK (kD (dSz x)) < (cntK l (kD (dSz x)) : Int) + 1 then 62 else 0
/-- The first declaration that is wrong, and why. -/
def declW : List Nd → List Nd → ByteArray × Int
  | _, [] => (⟨#[]⟩, 0)
  | p, x :: r => if dF p x ≠ 0 then (dNm x, dF p x) else declW (p ++ [x]) r
theorem declW_at {l : List Nd} {i : Nat} (hi : i < l.length) : declW (l.take i) (l.drop i) = if dF (l.take i) l[i] ≠ 0 then (dNm l[i], dF (l.take i) l[i]) else declW (l.take (i + 1)) (l.drop (i + 1)) := by
  rw [List.drop_eq_getElem_cons hi, declW, List.take_append_getElem hi]
theorem pick_60 {c n m k : Int} {nm : ByteArray} {r : ByteArray × Int} (h : c ≠ 0) : (if (if c ≠ 0 then (60 : Int) else if 1024 < n then 61 else if m < k then 62 else 0) ≠ 0 then (nm, (if c ≠ 0 then (60 : Int) else if 1024 < n then 61 else if m < k then 62 else 0)) else r) = (nm, 60) := by simp [h]
theorem pick_61 {n m k : Int} {nm : ByteArray} {r : ByteArray × Int} (h : 1024 < n) : (if (if (0 : Int) ≠ 0 then (60 : Int) else if 1024 < n then 61 else if m < k then 62 else 0) ≠ 0 then (nm, (if (0 : Int) ≠ 0 then (60 : Int) else if 1024 < n then 61 else if m < k then 62 else 0)) else r) = (nm, 61) := by simp [h]
theorem pick_62 {n m k : Int} {nm : ByteArray} {r : ByteArray × Int} (h1 : ¬ 1024 < n) (h : m < k) : (if (if (0 : Int) ≠ 0 then (60 : Int) else if 1024 < n then 61 else if m < k then 62 else 0) ≠ 0 then (nm, (if (0 : Int) ≠ 0 then (60 : Int) else if 1024 < n then 61 else if m < k then 62 else 0)) else r) = (nm, 62) := by simp [h1, h]
theorem pick_0 {n m k : Int} {nm : ByteArray} {r : ByteArray × Int} (h1 : ¬ 1024 < n) (h : ¬ m < k) : (if (if (0 : Int) ≠ 0 then (60 : Int) else if 1024 < n then 61 else if m < k then 62 else 0) ≠ 0 then (nm, (if (0 : Int) ≠ 0 then (60 : Int) else if 1024 < n then 61 else if m < k then 62 else 0)) else r) = r := by simp [h1, h]
/-- The map of declarations. -/
def mapD (l : List Nd) : DataW Unit := l.foldl (fun D x => D.put (keyS (dNm x)) (.lit (.int .i64 (kD (dSz x))))) (.map [])
theorem mapD_snoc (l : List Nd) (x : Nd) : mapD (l ++ [x]) = (mapD l).put (keyS (dNm x)) (.lit (.int .i64 (kD (dSz x)))) := by unfold mapD; rw [List.foldl_append]; rfl
theorem isMap_put {D : DataW Unit} (h : IsMap D) (k : Lit) (d : DataW Unit) : IsMap (D.put k d) := by
  obtain ⟨es, rfl⟩ := h
  exact ⟨_, rfl⟩
theorem isMap_foldl : ∀ (l : List Nd) (D : DataW Unit), IsMap D → IsMap (l.foldl (fun D x => D.put (keyS (dNm x)) (.lit (.int .i64 (kD (dSz x))))) D)
  | [], _, h => h
  | _ :: r, _, h => isMap_foldl r _ (isMap_put h _ _)
theorem isMap_mapD (l : List Nd) : IsMap (mapD l) := isMap_foldl l _ ⟨[], rfl⟩
theorem keyS_ne {a b : ByteArray} (h : ¬ a.toList = b.toList) : keyS b ≠ keyS a := by
  intro e
  unfold keyS at e
  simp only [Lit.string.injEq] at e
  exact h (by rw [ByteArray.toList_eq, ByteArray.toList_eq]; exact e.symm)
theorem keyS_eq {a b : ByteArray} (h : a.toList = b.toList) : keyS a = keyS b := by
  unfold keyS
  rw [ByteArray.toList_eq, ByteArray.toList_eq] at h
  rw [h]
theorem mapD_at_rev : ∀ (l : List Nd) (s : ByteArray), (mapD l.reverse).atKey (keyS s) (.lit (.int .i64 0)) = .lit (.int .i64 (lookL l.reverse s))
  | [], s => rfl
  | x :: r, s => by
    rw [List.reverse_cons, mapD_snoc, lookL_snoc]
    by_cases h : (dNm x).toList = s.toList
    · rw [if_pos (by simpa using h), keyS_eq h]
      exact atKey_put_same (isMap_mapD _) (show WideAt.IsKeyLit (keyS s) from True.intro) _ _
    · rw [if_neg (by simpa using h), atKey_put_other (keyS_ne h)]
      exact mapD_at_rev r s
theorem mapD_at (l : List Nd) (s : ByteArray) : (mapD l).atKey (keyS s) (.lit (.int .i64 0)) = .lit (.int .i64 (lookL l s)) := by
  have h := mapD_at_rev l.reverse s
  rwa [List.reverse_reverse] at h
/-- A look-up whose answer is known. -/
theorem wpList_lookup_at {P : Program} (w : World) {ops : Array Oper} {rest : List Oper} {o : Oper} {a : Act} {Q : Exit → Act → World → Prop}
    (hg : o.guard = none) (m x : Operand) (t : TypeId) (hop : o.op = Op.lookup t m x false)
    (k e : TypeId) (q : IntKind) (K : Keyed P k) (ht : P.underlying t = some (.map k e)) (he : P.underlying e = some (.int q)) (hz : (zeroValue e).run P w = .ok (.int q 0) w) (b n : Nat) (D : DataW Unit)
    (hm : a.eval m = .map (some b)) (hown : w.ownsMap P k (plainElem P e) b n D) (key : Value) (kl : Lit) (hx : a.eval x = key) (hkey : keyOf P k key = some kl) (c : Int) (hc : D.atKey kl (.lit (.int q 0)) = .lit (.int q c))
    (hK : wpList P ops Q rest (a.put o.dst (.int q c)) w) : wpList P ops Q (o :: rest) a w :=
  wpList_lookup_own_int w hg m x t hop k e q K ht he hz b n D hm hown key kl hx hkey (fun c' hat _ => by
    rw [hc] at hat
    simp only [DataW.lit.injEq, Lit.int.injEq, true_and] at hat
    subst hat
    exact hK)
theorem only_grown {B : Nat} {w w' : World} (h : Only B w w') : w.grownBy w' (some B) := ⟨h.os, h.tape, h.output, h.size, fun k hk hr => h.block k hk (fun e => hr (by rw [e]))⟩
theorem ownsMap_only {P : Program} {k : TypeId} {R : Value → Option (DataW Unit × List MemPlace)} {w w' : World} {M n B : Nat} {D : DataW Unit} (h : w.ownsMap P k R M n D) (ho : Only B w w') (hne : M ≠ B) : w'.ownsMap P k R M n D := h.kept (only_grown ho) (fun e => hne (by simpa using e))
theorem gr_only {r : Option Nat} {a w w' : World} {B : Nat} (h : Gr r r a w) (ho : Only B w w') (hB : a.heap.size ≤ B) : Gr r r a w' :=
  ⟨⟨ho.os.trans h.1.os, ho.tape.trans h.1.tape, ho.output.trans h.1.output, Nat.le_trans h.1.size ho.size, fun k hk hr => (ho.block k (Nat.lt_of_lt_of_le hk h.1.size) (by omega)).trans (h.1.block k hk hr)⟩, .inl rfl⟩
theorem gr_drewN {r r' : Option Nat} {a w : World} (h : Gr r r' a w) (n : Nat) : Gr r r' a (w.drewN n) := ⟨⟨h.1.os, h.1.tape, h.1.output, h.1.size, h.1.block⟩, h.2⟩
theorem ownM_drewN {P : Program} {k : TypeId} {R : Value → Option (DataW Unit × List MemPlace)} {w : World} {M n : Nat} {D : DataW Unit} (h : w.ownsMap P k R M n D) (m : Nat) : (w.drewN m).ownsMap P k R M n D := h
theorem kD_cases (n : Int) : kD n = 1 ∨ kD n = 2 := by unfold kD; split <;> simp
theorem i64_small (k : Int) (h : k = 1 ∨ k = 2) : (Lit.int .i64 k).wf = true := by rcases h with rfl | rfl <;> decide
theorem zeroI (w : World) : (zeroValue 3).run Tryz.prog w = .ok (.int .i64 0) w := by kernel_rfl
theorem under_int : Tryz.prog.underlying 3 = some (.int .i64) := by kernel_rfl
end Go.Proofs.YtjpopelbdhgidaaGreatDoor
