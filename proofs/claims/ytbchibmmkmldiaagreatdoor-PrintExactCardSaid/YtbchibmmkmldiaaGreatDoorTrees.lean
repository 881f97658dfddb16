/-
  Trees in memory: nodes (expressions, conditions, statements, declarations) of one plain type, and that they lie in a world; proved is that they lie in each later world, that what reads as data of one of the four types is such a node, and what stands at each item of a node's list.
-/
import Derived.Test.YtbchibmmkmldiaaGreatDoorPost
import Derived.Deep.Slices
import Derived.WalkKit
namespace Go.Proofs.YtbchibmmkmldiaaGreatDoor
open Go Go.RowKit Go.ChangeShapes Go.Deep

inductive Ty | E | C | S | D deriving DecidableEq
/-- A node: its type, its two numbers (kind; Num, Op or Size), its name, its lists (expressions, conditions, Then, Else). -/
inductive Nd where
  | mk (ty : Ty) (k n : Int) (s : ByteArray) (xs cs ts es : List Nd)
def Nd.ty : Nd → Ty | .mk ty _ _ _ _ _ _ _ => ty
def Ty.size : Ty → Nat | .E => 4 | .C => 4 | .S => 6 | .D => 2
/-- A node's cells. -/
def lay (ty : Ty) (k n : Int) (s : ByteArray) (vx vc vt ve : Value) : List Value := match ty with
  | .E => [.int .i64 k, .int .i64 n, .string s, vx]
  | .C => [.int .i64 k, .int .i64 n, vx, vc]
  | .S => [.int .i64 k, .string s, vx, vc, vt, ve]
  | .D => [.string s, .int .i64 n]
theorem lay_len (ty : Ty) (k n : Int) (s : ByteArray) (vx vc vt ve : Value) : (lay ty k n s vx vc vt ve).length = ty.size := by cases ty <;> rfl
/-- What a node of a type may have. -/
def fits (ty : Ty) (k n : Int) (s : ByteArray) (xs cs ts es : List Nd) : Prop := match ty with
  | .E => cs = [] ∧ ts = [] ∧ es = []
  | .C => s = ⟨#[]⟩ ∧ ts = [] ∧ es = []
  | .S => n = 0
  | .D => k = 0 ∧ xs = [] ∧ cs = [] ∧ ts = [] ∧ es = []
/-- A slice of len items whose row is told. -/
def SlOf (len : Nat) (row : Nat → Nat → Prop) (v : Value) : Prop := ∃ a c, v = .slice a len c ∧ len ≤ c ∧ c ≤ maxLen ∧ (len = 0 ∨ ∃ b o, a = some ⟨b, o, none⟩ ∧ row b o)
theorem SlOf.mono {len : Nat} {row row' : Nat → Nat → Prop} {v : Value} (h : SlOf len row v) (hr : ∀ b o, row b o → row' b o) : SlOf len row' v := by
  obtain ⟨a, c, h1, h2, h3, h4⟩ := h
  exact ⟨a, c, h1, h2, h3, h4.imp id fun ⟨b, o, h5, h6⟩ => ⟨b, o, h5, hr b o h6⟩⟩
def i64ok (n : Int) : Prop := (Lit.int .i64 n).wf = true

mutual
def NdIn (w : World) : Nd → List Value → Prop
  | .mk ty k n s xs cs ts es, vs => fits ty k n s xs cs ts es ∧ i64ok k ∧ i64ok n ∧ s.size ≤ maxLen ∧ ∃ vx vc vt ve, vs = lay ty k n s vx vc vt ve ∧
      SlOf xs.length (fun b o => RowIn w .E xs b o) vx ∧ SlOf cs.length (fun b o => RowIn w .C cs b o) vc ∧ SlOf ts.length (fun b o => RowIn w .S ts b o) vt ∧ SlOf es.length (fun b o => RowIn w .S es b o) ve
def RowIn (w : World) : Ty → List Nd → Nat → Nat → Prop
  | _, [], _, _ => True
  | ty, x :: r, b, o => (x.ty = ty ∧ ∃ vs, (∀ j u, vs[j]? = some u → w.cell? ⟨b, o + j, none⟩ = some u) ∧ NdIn w x vs) ∧ RowIn w ty r b (o + ty.size)
end
/-- A list of nodes of one type lies at a slice. -/
def SlIn (w : World) (ty : Ty) (l : List Nd) (v : Value) : Prop := SlOf l.length (fun b o => RowIn w ty l b o) v

/-- Every cell that is there is there later. -/
def Keeps (w w' : World) : Prop := ∀ b o u, w.cell? ⟨b, o, none⟩ = some u → w'.cell? ⟨b, o, none⟩ = some u
theorem keeps_below {w w' : World} (hb : Below w.heap.size w w') : Keeps w w' := fun b o u h => by
  have lt := World.block_lt_of_cell? w ⟨b, o, none⟩ h
  exact (hb.cell (p := ⟨b, o, none⟩) lt).trans h
mutual
theorem NdIn.keep {w w' : World} (hk : Keeps w w') : ∀ (x : Nd) (vs : List Value), NdIn w x vs → NdIn w' x vs
  | .mk ty k n s xs cs ts es, vs, h => by
    unfold NdIn at h ⊢
    obtain ⟨h1, h2, h3, h4, vx, vc, vt, ve, h5, hx, hc, ht, he⟩ := h
    exact ⟨h1, h2, h3, h4, vx, vc, vt, ve, h5, hx.mono (fun b o => RowIn.keep hk .E xs b o), hc.mono (fun b o => RowIn.keep hk .C cs b o), ht.mono (fun b o => RowIn.keep hk .S ts b o), he.mono (fun b o => RowIn.keep hk .S es b o)⟩
theorem RowIn.keep {w w' : World} (hk : Keeps w w') : ∀ (ty : Ty) (l : List Nd) (b o : Nat), RowIn w ty l b o → RowIn w' ty l b o
  | _, [], _, _, _ => by unfold RowIn; trivial
  | ty, x :: r, b, o, h => by
    unfold RowIn at h ⊢
    obtain ⟨⟨h1, vs, h2, h3⟩, h4⟩ := h
    exact ⟨⟨h1, vs, fun j u hj => hk _ _ _ (h2 j u hj), NdIn.keep hk x vs h3⟩, RowIn.keep hk ty r b (o + ty.size) h4⟩
end
theorem SlIn.keep {w w' : World} {ty : Ty} {l : List Nd} {v : Value} (h : SlIn w ty l v) (hk : Keeps w w') : SlIn w' ty l v := SlOf.mono h (fun b o => RowIn.keep hk ty l b o)

/-- Item i of a row. -/
theorem RowIn.at {w : World} {ty : Ty} : ∀ (l : List Nd) (b o i : Nat) (h : i < l.length), RowIn w ty l b o → (l[i]).ty = ty ∧ ∃ vs, (∀ j u, vs[j]? = some u → w.cell? ⟨b, o + i * ty.size + j, none⟩ = some u) ∧ NdIn w l[i] vs
  | [], _, _, _, h, _ => by simp at h
  | x :: r, b, o, 0, h, hr => by
    unfold RowIn at hr
    obtain ⟨⟨h1, vs, h2, h3⟩, _⟩ := hr
    exact ⟨h1, vs, by simpa using h2, h3⟩
  | x :: r, b, o, i + 1, h, hr => by
    unfold RowIn at hr
    have := RowIn.at r b (o + ty.size) i (by simpa using h) hr.2
    obtain ⟨h1, vs, h2, h3⟩ := this
    refine ⟨h1, vs, fun j u hj => ?_, h3⟩
    have e := h2 j u hj
    rwa [show o + ty.size + i * ty.size + j = o + (i + 1) * ty.size + j by rw [Nat.add_mul, Nat.one_mul]; omega] at e
theorem RowIn.of {w : World} {ty : Ty} : ∀ (l : List Nd) (b o : Nat), (∀ i (h : i < l.length), (l[i]).ty = ty ∧ ∃ vs, (∀ j u, vs[j]? = some u → w.cell? ⟨b, o + i * ty.size + j, none⟩ = some u) ∧ NdIn w l[i] vs) → RowIn w ty l b o
  | [], _, _, _ => by unfold RowIn; trivial
  | x :: r, b, o, h => by
    unfold RowIn
    refine ⟨?_, RowIn.of r b (o + ty.size) (fun i hi => ?_)⟩
    · have := h 0 (by simp)
      simpa using this
    · obtain ⟨h1, vs, h2, h3⟩ := h (i + 1) (by simpa using hi)
      refine ⟨h1, vs, fun j u hj => ?_, h3⟩
      have e := h2 j u hj
      rwa [show o + (i + 1) * ty.size + j = o + ty.size + i * ty.size + j by rw [Nat.add_mul, Nat.one_mul]; omega] at e
theorem NdIn.len {w : World} {x : Nd} {vs : List Value} (h : NdIn w x vs) : vs.length = x.ty.size := by
  obtain ⟨ty, k, n, s, xs, cs, ts, es⟩ := x
  unfold NdIn at h
  obtain ⟨_, _, _, _, vx, vc, vt, ve, rfl, _⟩ := h
  exact lay_len _ _ _ _ _ _ _ _
theorem slIn_nil (w : World) (ty : Ty) : SlIn w ty [] (.slice none 0 0) := ⟨none, 0, rfl, Nat.le_refl _, Nat.zero_le _, .inl rfl⟩

/-- The types of the program. -/
def tyId : Ty → TypeId | .E => 36 | .C => 82 | .S => 78 | .D => 54
def slId : Ty → TypeId | .E => 34 | .C => 76 | .S => 23 | .D => 22
theorem slId_under (ty : Ty) : Tryz.prog.underlying (slId ty) = some (.slice (tyId ty)) := by cases ty <;> kernel_rfl
theorem tyId_cells (ty : Ty) : Tryz.prog.cellsOf (tyId ty) = ty.size := by cases ty <;> kernel_rfl

theorem spot_none {w : World} {a : Addr} {u : Value} (h : w.cell? a = some u) : a = ⟨a.block, a.off, none⟩ := by
  cases hs : a.spot with
  | none => cases a; simp_all
  | some s =>
    exfalso
    simp only [World.cell?] at h
    split at h
    · simp [hs] at h
    · cases h
theorem add_none (b o i : Nat) : (⟨b, o, none⟩ : Addr).add i = ⟨b, o + i, none⟩ := by
  unfold Addr.add
  split <;> simp_all

section
variable {H : Type} {enc : TypeId × Value → H} {w : World} {base : Nat} {sp : Nat → Bool} {held : Bool}
/-- What reads as a slice of a type's items is a list of nodes. -/
theorem open_sl {ty : Ty} {fuel : Nat} {v : Value} {x : DataW H × List MemPlace} (hn : ∀ n, n < fuel → ∀ cs y, DataW.trod enc Tryz.prog w base sp held n (tyId ty) cs = some y → ∃ d : Nd, d.ty = ty ∧ NdIn w d cs)
    (h : DataW.trod enc Tryz.prog w base sp held fuel (slId ty) [v] = some x) : ∃ l, SlIn w ty l v := by
  rcases DataW.trod_slice (slId_under ty) h with ⟨h1, _⟩ | ⟨a, len, cap, elems, rest, n, hf, h1, _, hb, hl, hc, hlen, hel, _⟩
  · obtain rfl : v = .slice none 0 0 := by simpa using h1
    exact ⟨[], slIn_nil w ty⟩
  · obtain rfl : v = .slice (some a) len cap := by simpa using h1
    rw [tyId_cells] at hel
    have hex : ∀ i, i < len → ∃ d : Nd, d.ty = ty ∧ ∃ cs, w.cells? base (a.add (i * ty.size)) ty.size = some cs ∧ NdIn w d cs := fun i hi => by
      have := hel i hi
      rw [List.getElem?_eq_getElem (by omega)] at this
      simp only [Option.bind_eq_some_iff] at this
      obtain ⟨cs, hcs, hy⟩ := this
      obtain ⟨d, hd1, hd2⟩ := hn n (by omega) cs _ hy
      exact ⟨d, hd1, cs, hcs, hd2⟩
    haveI : Inhabited Nd := ⟨.mk .E 0 0 ⟨#[]⟩ [] [] [] []⟩
    obtain ⟨f, hfn⟩ := choose_lt hex
    refine ⟨(List.range len).map f, some a, cap, by simp, by simpa using hl, hc, ?_⟩
    by_cases h0 : len = 0
    · exact .inl (by simpa using h0)
    · right
      have hsp : a = ⟨a.block, a.off, none⟩ := by
        obtain ⟨_, cs, hcs, _⟩ := hfn 0 (by omega)
        rw [Nat.zero_mul] at hcs
        have hpos : 0 < ty.size := by cases ty <;> decide
        obtain ⟨_, _, hat⟩ := World.cells?_some hcs
        have h2 := hat 0 hpos
        have hl2 : cs.length = ty.size := by obtain ⟨_, h, _⟩ := World.cells?_some hcs; exact h
        rw [List.getElem?_eq_getElem (by omega)] at h2
        simp only [Addr.add, if_true] at h2
        exact spot_none h2
      refine ⟨a.block, a.off, by rw [← hsp], RowIn.of _ _ _ (fun i hi => ?_)⟩
      simp only [List.length_map, List.length_range] at hi
      obtain ⟨hd, cs, hcs, hin⟩ := hfn i hi
      simp only [List.getElem_map, List.getElem_range]
      refine ⟨hd, cs, fun j u hj => ?_, hin⟩
      obtain ⟨_, hcl, hat⟩ := World.cells?_some hcs
      have hj2 : j < ty.size := by
        have := (List.getElem?_eq_some_iff.1 hj).1
        omega
      have h3 := hat j hj2
      rw [hj] at h3
      rw [hsp, add_none, add_none] at h3
      exact h3
theorem i64_of {n : Nat} {t : TypeId} {v : Value} {y : DataW H × List MemPlace} (ht : Tryz.prog.underlying t = some (.int .i64)) (h : DataW.trod enc Tryz.prog w base sp held n t [v] = some y) : ∃ k : Int, v = .int .i64 k ∧ i64ok k := by
  obtain ⟨k, h1, _, h2⟩ := DataW.trod_int ht h
  exact ⟨k, by simpa using h1, h2⟩
theorem str_of {n : Nat} {v : Value} {y : DataW H × List MemPlace} (h : DataW.trod enc Tryz.prog w base sp held n 9 [v] = some y) : ∃ s : ByteArray, v = .string s ∧ s.size ≤ maxLen := by
  obtain ⟨s, h1, _, h2⟩ := DataW.trod_string (by kernel_rfl) h
  exact ⟨s, by simpa using h1, h2⟩
theorem ok0 : i64ok 0 := by unfold i64ok; decide
theorem sl0 (w : World) (ty : Ty) : SlOf ([] : List Nd).length (fun b o => RowIn w ty [] b o) (.slice none 0 0) := slIn_nil w ty

theorem len2 {α : Type} {l : List α} (h : l.length = 2) : ∃ a b, l = [a, b] := by
  match l, h with
  | [a, b], _ => exact ⟨a, b, rfl⟩
theorem len4 {α : Type} {l : List α} (h : l.length = 4) : ∃ a b c d, l = [a, b, c, d] := by
  match l, h with
  | [a, b, c, d], _ => exact ⟨a, b, c, d, rfl⟩
theorem len6 {α : Type} {l : List α} (h : l.length = 6) : ∃ a b c d e f, l = [a, b, c, d, e, f] := by
  match l, h with
  | [a, b, c, d, e, f], _ => exact ⟨a, b, c, d, e, f, rfl⟩
theorem one_cell {n : Nat} {cs : List Value} {t : TypeId} {off : Nat} {r : Option (DataW H × List MemPlace)} {y : DataW H × List MemPlace} {c : Value} (hk : Tryz.prog.cellsOf t = 1) (hc : cs[off]? = some c) (hr : r = some y)
    (h : DataW.trod enc Tryz.prog w base sp held n t ((cs.drop off).take (Tryz.prog.cellsOf t)) = r) : DataW.trod enc Tryz.prog w base sp held n t [c] = some y := by
  rw [hk, hr] at h
  have e : (cs.drop off).take 1 = [c] := by
    obtain ⟨hl, he⟩ := List.getElem?_eq_some_iff.1 hc
    rw [List.drop_eq_getElem_cons hl, he]
    rfl
  rwa [e] at h
/-- What reads as data of one of the four types is a node. -/
theorem open_nd : ∀ (fuel : Nat) (ty : Ty) (cs : List Value) (y : DataW H × List MemPlace), DataW.trod enc Tryz.prog w base sp held fuel (tyId ty) cs = some y → ∃ d : Nd, d.ty = ty ∧ NdIn w d cs := by
  intro fuel
  induction fuel using Nat.strongRecOn with
  | ind fuel ih =>
    intro ty cs y h
    have hsl : ∀ (n : Nat), n < fuel → ∀ (ty' : Ty) (v : Value) (x : DataW H × List MemPlace), DataW.trod enc Tryz.prog w base sp held n (slId ty') [v] = some x → ∃ l, SlIn w ty' l v := fun n hn ty' v x hx =>
      open_sl (fun m hm cs y hy => ih m (by omega) ty' cs y hy) hx
    cases ty with
    | E =>
      obtain ⟨xs, n, rfl, _, hl, hxs, hf⟩ := DataW.trod_struct Tryz.underlying36 h
      have hl4 : cs.length = 4 := hl.trans (by kernel_rfl)
      obtain ⟨c0, c1, c2, c3, rfl⟩ := len4 hl4
      obtain ⟨y0, y1, y2, y3, rfl⟩ := len4 (hxs.trans (by rfl))
      obtain ⟨k, rfl, hk⟩ := i64_of (by kernel_rfl) (one_cell (c := c0) (by kernel_rfl) rfl rfl (hf 0 _ rfl))
      obtain ⟨m, rfl, hm⟩ := i64_of (by kernel_rfl) (one_cell (c := c1) (by kernel_rfl) rfl rfl (hf 1 _ rfl))
      obtain ⟨s, rfl, hs⟩ := str_of (one_cell (c := c2) (by kernel_rfl) rfl rfl (hf 2 _ rfl))
      obtain ⟨l, hlst⟩ := hsl n (by omega) .E c3 _ (one_cell (c := c3) (by kernel_rfl) rfl rfl (hf 3 _ rfl))
      refine ⟨.mk .E k m s l [] [] [], rfl, ?_⟩
      unfold NdIn
      exact ⟨⟨rfl, rfl, rfl⟩, hk, hm, hs, c3, _, _, _, rfl, hlst, sl0 w .C, sl0 w .S, sl0 w .S⟩
    | C =>
      obtain ⟨xs, n, rfl, _, hl, hxs, hf⟩ := DataW.trod_struct Tryz.underlying82 h
      have hl4 : cs.length = 4 := hl.trans (by kernel_rfl)
      obtain ⟨c0, c1, c2, c3, rfl⟩ := len4 hl4
      obtain ⟨y0, y1, y2, y3, rfl⟩ := len4 (hxs.trans (by rfl))
      obtain ⟨k, rfl, hk⟩ := i64_of (by kernel_rfl) (one_cell (c := c0) (by kernel_rfl) rfl rfl (hf 0 _ rfl))
      obtain ⟨m, rfl, hm⟩ := i64_of (by kernel_rfl) (one_cell (c := c1) (by kernel_rfl) rfl rfl (hf 1 _ rfl))
      obtain ⟨l, hlst⟩ := hsl n (by omega) .E c2 _ (one_cell (c := c2) (by kernel_rfl) rfl rfl (hf 2 _ rfl))
      obtain ⟨l2, hlst2⟩ := hsl n (by omega) .C c3 _ (one_cell (c := c3) (by kernel_rfl) rfl rfl (hf 3 _ rfl))
      refine ⟨.mk .C k m ⟨#[]⟩ l l2 [] [], rfl, ?_⟩
      unfold NdIn
      exact ⟨⟨rfl, rfl, rfl⟩, hk, hm, Nat.zero_le _, c2, c3, _, _, rfl, hlst, hlst2, sl0 w .S, sl0 w .S⟩
    | S =>
      obtain ⟨xs, n, rfl, _, hl, hxs, hf⟩ := DataW.trod_struct Tryz.underlying78 h
      have hl4 : cs.length = 6 := hl.trans (by kernel_rfl)
      obtain ⟨c0, c1, c2, c3, c4, c5, rfl⟩ := len6 hl4
      obtain ⟨y0, y1, y2, y3, y4, y5, rfl⟩ := len6 (hxs.trans (by rfl))
      obtain ⟨k, rfl, hk⟩ := i64_of (by kernel_rfl) (one_cell (c := c0) (by kernel_rfl) rfl rfl (hf 0 _ rfl))
      obtain ⟨s, rfl, hs⟩ := str_of (one_cell (c := c1) (by kernel_rfl) rfl rfl (hf 1 _ rfl))
      obtain ⟨l, hlst⟩ := hsl n (by omega) .E c2 _ (one_cell (c := c2) (by kernel_rfl) rfl rfl (hf 2 _ rfl))
      obtain ⟨l2, hlst2⟩ := hsl n (by omega) .C c3 _ (one_cell (c := c3) (by kernel_rfl) rfl rfl (hf 3 _ rfl))
      obtain ⟨l3, hlst3⟩ := hsl n (by omega) .S c4 _ (one_cell (c := c4) (by kernel_rfl) rfl rfl (hf 4 _ rfl))
      obtain ⟨l4, hlst4⟩ := hsl n (by omega) .S c5 _ (one_cell (c := c5) (by kernel_rfl) rfl rfl (hf 5 _ rfl))
      refine ⟨.mk .S k 0 s l l2 l3 l4, rfl, ?_⟩
      unfold NdIn
      exact ⟨rfl, hk, ok0, hs, c2, c3, c4, c5, rfl, hlst, hlst2, hlst3, hlst4⟩
    | D =>
      obtain ⟨xs, n, rfl, _, hl, hxs, hf⟩ := DataW.trod_struct Tryz.underlying54 h
      have hl4 : cs.length = 2 := hl.trans (by kernel_rfl)
      obtain ⟨c0, c1, rfl⟩ := len2 hl4
      obtain ⟨y0, y1, rfl⟩ := len2 (hxs.trans (by rfl))
      obtain ⟨s, rfl, hs⟩ := str_of (one_cell (c := c0) (by kernel_rfl) rfl rfl (hf 0 _ rfl))
      obtain ⟨m, rfl, hm⟩ := i64_of (by kernel_rfl) (one_cell (c := c1) (by kernel_rfl) rfl rfl (hf 1 _ rfl))
      refine ⟨.mk .D 0 m s [] [] [] [], rfl, ?_⟩
      unfold NdIn
      exact ⟨⟨rfl, rfl, rfl, rfl, rfl⟩, ok0, hm, hs, _, _, _, _, rfl, sl0 w .E, sl0 w .C, sl0 w .S, sl0 w .S⟩
theorem open_list {ty : Ty} {fuel : Nat} {v : Value} {x : DataW H × List MemPlace} (h : DataW.trod enc Tryz.prog w base sp held fuel (slId ty) [v] = some x) : ∃ l, SlIn w ty l v :=
  open_sl (fun n _ cs y hy => open_nd n ty cs y hy) h
end
end Go.Proofs.YtbchibmmkmldiaaGreatDoor
