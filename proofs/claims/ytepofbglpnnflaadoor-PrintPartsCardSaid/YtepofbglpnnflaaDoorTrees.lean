/-
  Trees in memory: nodes (expressions, conditions, statements, declarations) of one plain type, and that they lie in a world; proved is that they lie in each later world, that what reads as data of one of the four types is such a node, and what stands at each item of a node's list.
-/
import Derived.Test.YtepofbglpnnflaaDoorPost
import Derived.Deep.Slices
import Derived.WalkKit
namespace Go.Proofs.YtepofbglpnnflaaDoor
open Go Go.RowKit Go.ChangeShapes Go.Deep

inductive Ty | E | C | S | D deriving DecidableEq
/-- A node: its type, its two numbers (kind; Num, Op or Size), its name, its lists (expressions, conditions, Then, Else). -/
inductive Nd where
  | mk (ty : Ty) (k n : Int) (s : ByteArray) (xs cs ts es : List Nd)
def Nd.ty : Nd → Ty | .mk ty _ _ _ _ _ _ _ => ty
def Ty.size : Ty → Nat | .E => 4 | .C => 4 | .S => 6 | .D => 2
/-- A node's cells. -/
def lay (ty : Ty) (k n : Int) (s : ByteArray) (vx vc vt ve : Value) : List Value := match ty with
  | .E => [.int .i64 k, .int .i64 n, .string s, vx]
  | .C => [.int .i64 k, .int .i64 n, vx, vc]
  | .S => [.int .i64 k, .string s, vx, vc, vt, ve]
  | .D => [.string s, .int .i64 n]
theorem lay_len (ty : Ty) (k n : Int) (s : ByteArray) (vx vc vt ve : Value) : (lay ty k n s vx vc vt ve).length = ty.size := by cases ty <;> rfl
/-- What a node of a type may have. -/
def fits (ty : Ty) (k n : Int) (s : ByteArray) (xs cs ts es : List Nd) : Prop := match ty with
  | .E => cs = [] ∧ ts = [] ∧ es = []
  | .C => s = ⟨#[]⟩ ∧ ts = [] ∧ es = []
  | .S => n = 0
  | .D => k = 0 ∧ xs = [] ∧ cs = [] ∧ ts = [] ∧ es = []
/-- A slice of len items whose row is told. -/
def SlOf (len : Nat) (row : Nat → Nat → Prop) (v : Value) : Prop := ∃ a c, v = .slice a len c ∧ len ≤ c ∧ c ≤ maxLen ∧ (len = 0 ∨ ∃ b o, a = some ⟨b, o, none⟩ ∧ row b o)
theorem SlOf.mono {len : Nat} {row row' : Nat → Nat → Prop} {v : Value} (h : SlOf len row v) (hr : ∀ b o, row b o → row' b o) : SlOf len row' v := by
  obtain ⟨a, c, h1, h2, h3, h4⟩ := h
  exact ⟨a, c, h1, h2, h3, h4.imp id fun ⟨b, o, h5, h6⟩ => ⟨b, o, h5, hr b o h6⟩⟩
def i64ok (n : Int) : Prop := (Lit.int .i64 n).wf = true

mutual
def NdIn (w : World) : Nd → List Value → Prop
  | .mk ty k n s xs cs ts es, vs => fits ty k n s xs cs ts es ∧ i64ok k ∧ i64ok n ∧ s.size ≤ maxLen ∧ ∃ vx vc vt ve, vs = lay ty k n s vx vc vt ve ∧
      SlOf xs.length (fun b o => RowIn w .E xs b o) vx ∧ SlOf cs.length (fun b o => RowIn w .C cs b o) vc ∧ SlOf ts.length (fun b o => RowIn w .S ts b o) vt ∧ SlOf es.length (fun b o => RowIn w .S es b o) ve
def RowIn (w : World) : Ty → List Nd → Nat → Nat → Prop
  | _, [], _, _ => True
  | ty, x :: r, b, o => (x.ty = ty ∧ ∃ vs, (∀ j u, vs[j]? = some u → w.cell? ⟨b, o + j, none⟩ = some u) ∧ NdIn w x vs) ∧ RowIn w ty r b (o + ty.size)
end
/-- A list of nodes of one type lies at a slice. -/
def SlIn (w : World) (ty : Ty) (l : List Nd) (v : Value) : Prop := SlOf l.length (fun b o => RowIn w ty l b o) v

/-- Every cell that is there is there later. -/
def Keeps (w w' : World) : Prop := ∀ b o u, w.cell? ⟨b, o, none⟩ = some u → w'.cell? ⟨b, o, none⟩ = some u
theorem keeps_below {w w' : World} (hb : Below w.heap.size w w') : Keeps w w' := fun b o u h => by
  have lt := World.block_lt_of_cell? w ⟨b, o, none⟩ h
  exact (hb.cell (p := ⟨b, o, none⟩) lt).trans h
mutual
theorem NdIn.keep {w w' : World} (hk : Keeps w w') : ∀ (x : Nd) (vs : List Value), NdIn w x vs → NdIn w' x vs
  | .mk ty k n s xs cs ts es, vs, h => by
    unfold NdIn at h ⊢
    obtain ⟨h1, h2, h3, h4, vx, vc, vt, ve, h5, hx, hc, ht, he⟩ := h
    exact ⟨h1, h2, h3, h4, vx, vc, vt, ve, h5, hx.mono (fun b o => RowIn.keep hk .E xs b o), hc.mono (fun b o => RowIn.keep hk .C cs b o), ht.mono (fun b o => RowIn.keep hk .S ts b o), he.mono (fun b o => RowIn.keep hk .S es b o)⟩
theorem RowIn.keep {w w' : World} (hk : Keeps w w') : ∀ (ty : Ty) (l : List Nd) (b o : Nat), RowIn w ty l b o → RowIn w' ty l b o
  | _, [], _, _, _ => by unfold RowIn; trivial
  | ty, x :: r, b, o, h => by
    unfold RowIn at h ⊢
    obtain ⟨⟨h1, vs, h2, h3⟩, h4⟩ := h
    exact ⟨⟨h1, vs, fun j u hj => hk _ _ _ (h2 j u hj), NdIn.keep hk x vs h3⟩, RowIn.keep hk ty r b (o + ty.size) h4⟩
end
theorem SlIn.keep {w w' : World} {ty : Ty} {l : List Nd} {v : Value} (h : SlIn w ty l v) (hk : Keeps w w') : SlIn w' ty l v := SlOf.mono h (fun b o => RowIn.keep hk ty l b o)

/-- Item i of a row. -/
theorem RowIn.at {w : World} {ty : Ty} : ∀ (l : List Nd) (b o i : Nat) (h : i < l.length), RowIn w ty l b o → (l[i]).ty = ty ∧ ∃ vs, (∀ j u, vs[j]? = some u → w.cell? ⟨b, o + i * ty.size + j, none⟩ = some u) ∧ NdIn w l[i] vs
  | [], _, _, _, h, _ => by simp at h
  | x :: r, b, o, 0, h, hr => by
    unfold RowIn at hr
    obtain ⟨⟨h1, vs, h2, h3⟩, _⟩ := hr
    exact ⟨h1, vs, by simpa using h2, h3⟩
  | x :: r, b, o, i + 1, h, hr => by
    unfold RowIn at hr
    have := RowIn.at r b (o + ty.size) i (by simpa using h) hr.2
    obtain ⟨h1, vs, h2, h3⟩ := this
    refine ⟨h1, vs, fun j u hj => ?_, h3⟩
    have e := h2 j u hj
    rwa [show o + ty.size + i * ty.size + j = o + (i + 1) * ty.size + j by rw [Nat.add_mul, Nat.one_mul]; omega] at e
theorem RowIn.of {w : World} {ty : Ty} : ∀ (l : List Nd) (b o : Nat), (∀ i (h : i < l.length), (l[i]).ty = ty ∧ ∃ vs, (∀ j u, vs[j]? = some u → w.cell? ⟨b, o + i * ty.size + j, none⟩ = some u) ∧ NdIn w l[i] vs) → RowIn w ty l b o
  | [], _, _, _ => by unfold RowIn; trivial
  | x :: r, b, o, h => by
    unfold RowIn
    refine ⟨?_, RowIn.of r b (o + ty.size) (fun i hi => ?_)⟩
    · have := h 0 (by simp)
      simpa using this
    · obtain ⟨h1, vs, h2, h3⟩ := h (i + 1) (by simpa using hi)
      refine ⟨h1, vs, fun j u hj => ?_, h3⟩
      have e := h2 j u hj
      rwa [show o + (i + 1) * ty.size + j = o + ty.size + i * ty.size + j by rw [Nat.add_mul, Nat.one_mul]; omega] at e
theorem NdIn.len {w : World} {x : Nd} {vs : List Value} (h : NdIn w x vs) : vs.length = x.ty.size := by
  obtain ⟨ty, k, n, s, xs, cs, ts, es⟩ := x
  unfold NdIn at h
  obtain ⟨_, _, _, _, vx, vc, vt, ve, rfl, _⟩ := h
  exact lay_len _ _ _ _ _ _ _ _
theorem slIn_nil (w : World) (ty : Ty) : SlIn w ty [] (.slice none 0 0) := ⟨none, 0, rfl, Nat.le_refl _, Nat.zero_le _, .inl rfl⟩

theorem spot_none {w : World} {a : Addr} {u : Value} (h : w.cell? a = some u) : a = ⟨a.block, a.off, none⟩ := by
  cases hs : a.spot with
  | none => cases a; simp_all
  | some s =>
    exfalso
    simp only [World.cell?] at h
    split at h
    · simp [hs] at h
    · cases h
theorem add_none (b o i : Nat) : (⟨b, o, none⟩ : Addr).add i = ⟨b, o + i, none⟩ := by
  unfold Addr.add
  split <;> simp_all

section
variable {H : Type} {enc : TypeId × Value → H} {w : World} {base : Nat} {sp : Nat → Bool} {held : Bool}
theorem i64_of {n : Nat} {t : TypeId} {v : Value} {y : DataW H × List MemPlace} (ht : Tryd.prog.underlying t = some (.int .i64)) (h : DataW.trod enc Tryd.prog w base sp held n t [v] = some y) : ∃ k : Int, v = .int .i64 k ∧ i64ok k := by
  obtain ⟨k, h1, _, h2⟩ := DataW.trod_int ht h
  exact ⟨k, by simpa using h1, h2⟩
theorem str_of {n : Nat} {v : Value} {y : DataW H × List MemPlace} (h : DataW.trod enc Tryd.prog w base sp held n 9 [v] = some y) : ∃ s : ByteArray, v = .string s ∧ s.size ≤ maxLen := by
  obtain ⟨s, h1, _, h2⟩ := DataW.trod_string (by kernel_rfl) h
  exact ⟨s, by simpa using h1, h2⟩
theorem ok0 : i64ok 0 := by unfold i64ok; decide
theorem sl0 (w : World) (ty : Ty) : SlOf ([] : List Nd).length (fun b o => RowIn w ty [] b o) (.slice none 0 0) := slIn_nil w ty

theorem len2 {α : Type} {l : List α} (h : l.length = 2) : ∃ a b, l = [a, b] := by
  match l, h with
  | [a, b], _ => exact ⟨a, b, rfl⟩
theorem len4 {α : Type} {l : List α} (h : l.length = 4) : ∃ a b c d, l = [a, b, c, d] := by
  match l, h with
  | [a, b, c, d], _ => exact ⟨a, b, c, d, rfl⟩
theorem len6 {α : Type} {l : List α} (h : l.length = 6) : ∃ a b c d e f, l = [a, b, c, d, e, f] := by
  match l, h with
  | [a, b, c, d, e, f], _ => exact ⟨a, b, c, d, e, f, rfl⟩
theorem one_cell {n : Nat} {cs : List Value} {t : TypeId} {off : Nat} {r : Option (DataW H × List MemPlace)} {y : DataW H × List MemPlace} {c : Value} (hk : Tryd.prog.cellsOf t = 1) (hc : cs[off]? = some c) (hr : r = some y)
    (h : DataW.trod enc Tryd.prog w base sp held n t ((cs.drop off).take (Tryd.prog.cellsOf t)) = r) : DataW.trod enc Tryd.prog w base sp held n t [c] = some y := by
  rw [hk, hr] at h
  have e : (cs.drop off).take 1 = [c] := by
    obtain ⟨hl, he⟩ := List.getElem?_eq_some_iff.1 hc
    rw [List.drop_eq_getElem_cons hl, he]
    rfl
  rwa [e] at h
end
end Go.Proofs.YtepofbglpnnflaaDoor
