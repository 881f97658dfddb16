/-
  The document's walk over an expression (gnomonref3's walk.expr), by induction on the tree: proved is what it leaves in the walk's cells, and that nothing else that lay is turned.
-/
import Derived.Test.YtbhbmoppipohjaaGreatDoorRows
import Derived.ChangeReads
import Derived.ChangeOld
import Derived.RowKit
import Derived.Below
import Derived.ProofKit
import Derived.OpenShut
import Derived.KernelRfl
import Derived.Deep.Slices
import Derived.WalkKit
import Derived.RangeFuncNested
import Derived.ControlIn
import Derived.Lib.OthersKept
import Derived.Lib.Hide
import Derived.WalkSmall
/-
  The end of a law's proof, for arguments of whatever shape that the call leaves alone: proved is that what read as data before reads so behind, and so that a call that answers true and turns nothing that lay meets its row.
-/
namespace Go.Proofs.YtbhbmoppipohjaaGreatDoor
open Go Go.RowKit Go.ChangeShapes

/-- No slice of the program has elements without a cell. -/
def SlicesHold (P : Program) : Prop := ∀ t e, P.underlying t = some (.slice e) → 0 < P.cellsOf e

section
variable {H : Type} {enc : TypeId × Value → H} {P : Program} {w : World} {base : Nat} {held : Bool}

theorem trodStep_spare (hp : SlicesHold P) {sp : Nat → Bool} {r r' : TypeId → List Value → Option (DataW H × List MemPlace)}
    (hr : ∀ t cs x, r t cs = some x → (∀ p ∈ x.2, sp p.block = true) → r' t cs = some x) {t : TypeId} {cs : List Value} {x : DataW H × List MemPlace}
    (h : DataW.trodStep enc P w base (fun _ => true) held r t cs = some x) (hs : ∀ p ∈ x.2, sp p.block = true) : DataW.trodStep enc P w base sp held r' t cs = some x := by
  unfold DataW.trodStep at h ⊢
  split at h
  case h_1 => exact h
  case h_2 => exact h
  case h_3 => exact h
  case h_4 => exact h
  case h_5 => exact h
  case h_6 e a _ =>
    simp only [Option.map_eq_some_iff, Option.bind_eq_some_iff] at h ⊢
    obtain ⟨y, ⟨cs', hc, hy⟩, rfl⟩ := h
    exact ⟨y, ⟨cs', hc, hr _ _ _ hy (fun p hp => hs p (by simp [hp]))⟩, rfl⟩
  case h_7 => exact h
  case h_8 e a len cap hu =>
    simp only at h ⊢
    split at h
    · rename_i hc
      rw [if_pos hc]
      simp only [Option.map_eq_some_iff, Option.bind_eq_some_iff] at h ⊢
      obtain ⟨elems, he, rest, hrest, rfl⟩ := h
      have hlen : elems.length = len := by simpa using mapM_some_length he
      simp only [if_true] at hrest
      have hrl : rest.length = cap - len := by simpa using mapM_some_length hrest
      have one : ∀ (i : Nat) (y : DataW H × List MemPlace), y ∈ elems ++ rest →
          (w.cells? base (a.add (i * P.cellsOf e)) (P.cellsOf e)).bind (r e) = some y → (w.cells? base (a.add (i * P.cellsOf e)) (P.cellsOf e)).bind (r' e) = some y := by
        intro i y hy hv
        simp only [Option.bind_eq_some_iff] at hv ⊢
        obtain ⟨cs', hc', hy'⟩ := hv
        refine ⟨cs', hc', hr _ _ _ hy' (fun p hp => hs p ?_)⟩
        simp only [List.mem_append, List.mem_flatMap]
        right
        exact ⟨y, by simpa using hy, hp⟩
      refine ⟨elems, mapM_carry he (fun i y _ hy => one i y (by simp [hy])), rest, ?_, rfl⟩
      by_cases hz : cap - len = 0
      · have hr0 : rest = [] := List.eq_nil_of_length_eq_zero (by omega)
        subst hr0
        rw [hz]
        split <;> rfl
      · have hb : sp a.block = true := by
          have hpos := hp t e hu
          refine hs (.cell a.block a.off) ?_
          simp only [List.mem_append]
          left
          refine MemPlace.mem_row.2 ⟨0, ?_, by simp⟩
          rw [hlen, hrl]
          exact Nat.mul_pos (by omega) hpos
        rw [if_pos hb]
        exact mapM_carry hrest (fun j y _ hy => one (len + j) y (by simp [hy]))
    · cases h
  case h_9 =>
    split at h
    · rename_i hc
      rw [if_pos hc]
      simp only [Option.map_eq_some_iff] at h ⊢
      obtain ⟨xs, hx, rfl⟩ := h
      exact ⟨xs, mapM_carry hx (fun f y _ hy hv => hr _ _ _ hv (fun p hp => hs p (List.mem_flatMap.2 ⟨y, hy, hp⟩))), rfl⟩
    · cases h
  case h_10 =>
    split at h
    · rename_i hc
      rw [if_pos hc]
      simp only [Option.map_eq_some_iff] at h ⊢
      obtain ⟨xs, hx, rfl⟩ := h
      exact ⟨xs, mapM_carry hx (fun f y _ hy hv => hr _ _ _ hv (fun p hp => hs p (List.mem_flatMap.2 ⟨y, hy, hp⟩))), rfl⟩
    · cases h
  case h_11 => exact h
  case h_12 =>
    split at h
    · exact h
    · simp only [Option.map_eq_some_iff] at h ⊢
      obtain ⟨y, hy, rfl⟩ := h
      exact ⟨y, hr _ _ _ hy hs, rfl⟩
    · cases h
  case h_13 => exact h
  case h_14 k e b _ =>
    split at h
    · rename_i es clock hb
      split at h
      · rename_i hc
        simp only [Option.bind_eq_some_iff] at h
        obtain ⟨entries, he, hd⟩ := h
        split at hd
        · rename_i hris
          have hx := Option.some.inj hd
          subst hx
          simp only [if_pos hc, Option.bind_eq_some_iff]
          refine ⟨entries, mapM_carry he (fun x y _ hy hv => ?_), by simp [hris]⟩
          simp only [Option.bind_eq_some_iff] at hv ⊢
          obtain ⟨key, hk, hz⟩ := hv
          refine ⟨key, hk, ?_⟩
          split at hz
          · rename_i hf
            rw [if_pos hf]
            simp only [Option.map_eq_some_iff] at hz ⊢
            obtain ⟨q, hq, rfl⟩ := hz
            exact ⟨q, hr _ _ _ hq (fun p hp => hs p (by simp only [List.mem_cons, List.mem_flatMap]; right; exact ⟨_, hy, hp⟩)), rfl⟩
          · cases hz
        · cases hd
      · cases h
    · cases h
  case h_15 => exact h
  case h_16 => exact h
  case h_17 => exact h
  case h_18 => exact h
  case h_19 => exact h
  case h_20 => exact h
  case h_21 => cases h
theorem trod_spare (hp : SlicesHold P) {sp : Nat → Bool} : ∀ (n : Nat) (t : TypeId) (cs : List Value) (x : DataW H × List MemPlace),
    DataW.trod enc P w base (fun _ => true) held n t cs = some x → (∀ p ∈ x.2, sp p.block = true) → DataW.trod enc P w base sp held n t cs = some x
  | 0, _, _, _, h, _ => by simp [DataW.trod] at h
  | n + 1, t, cs, x, h, hs => by
    rw [DataW.trod_step] at h ⊢
    exact trodStep_spare hp (trod_spare hp n) h hs

theorem trodAll_again {w' : World} (hp : SlicesHold P) (hb : Below w.heap.size w w') : ∀ {ts : List TypeId} {vs : List Value} {ds : List (DataW H)} {ps : List MemPlace}, DataW.TrodAll enc P w base (fun _ => true) held ts vs ds ps →
    DataW.TrodAll enc P w' base (fun b => decide (b < w.heap.size)) held ts vs ds ps
  | [], [], [], ps, h => h
  | t :: ts, v :: vs, d :: ds, ps, h => by
    obtain ⟨p, q, ⟨fuel, h1⟩, h2, h3⟩ := h
    have hlt := DataW.trod_lt _ _ _ _ h1
    have h4 := trod_spare (sp := fun b => decide (b < w.heap.size)) hp _ _ _ _ h1 (fun p hp => by simpa using hlt p hp)
    exact ⟨p, q, ⟨fuel, DataW.trod_carry _ _ _ _ h4 (fun p hp => hb.same (hlt p hp))⟩, trodAll_again hp hb h2, h3⟩
  | [], [], _ :: _, ps, h => h.elim
  | [], _ :: _, _, ps, h => h.elim
  | _ :: _, [], _, ps, h => h.elim
  | _ :: _, _ :: _, [], ps, h => h.elim

/-- A call that answers true and turns nothing that lay meets a law's row. -/
theorem post_true {f : Func} {s : ChangeSpec} {W W' : World} {args : Array Value} {ds gs : List (DataW H)} {before : List MemPlace} {tb : TypeId} (hp : SlicesHold P) (hv : s.vars = []) (hr : f.resultTypes.toList = [tb]) (hrs : f.resultTypes.size = 1) (htb : P.underlying tb = some .bool)
    (hfn : s.fn H (ds ++ gs) = { results := [.lit (.bool true)], args := ds }) (hW : DataW.Whole enc P f.params.toList s.vars false W args.toList ds gs before) (hb : Below W.heap.size W W') : s.post enc P f false true false false W args (.bool true) W' := by
  have hW' := hW
  obtain ⟨p, q, hA, hV, rfl, hfz, hnd⟩ := hW
  refine ⟨ds, gs, _, [], p, q, hW', ?_, ?_, ?_, hb.frame _, fun h => by cases h⟩
  · rw [hr, hrs, hfn]
    exact trodAll_mk1 (shut_bool htb true)
  · rw [hfn]
    exact trodAll_again hp hb hA
  · rw [hv] at hV ⊢
    rw [hfn]
    cases gs with
    | nil => exact hV
    | cons g r => exact hV.elim
end
end Go.Proofs.YtbhbmoppipohjaaGreatDoor

/-
  Trees in memory: nodes (expressions, conditions, statements, declarations) of one plain type, and that they lie in a world; proved is that they lie in each later world, that what reads as data of one of the four types is such a node, and what stands at each item of a node's list.
-/
namespace Go.Proofs.YtbhbmoppipohjaaGreatDoor
open Go Go.RowKit Go.ChangeShapes Go.Deep

inductive Ty | E | C | S | D deriving DecidableEq
/-- A node: its type, its two numbers (kind; Num, Op or Size), its name, its lists (expressions, conditions, Then, Else). -/
inductive Nd where
  | mk (ty : Ty) (k n : Int) (s : ByteArray) (xs cs ts es : List Nd)
def Nd.ty : Nd → Ty | .mk ty _ _ _ _ _ _ _ => ty
def Ty.size : Ty → Nat | .E => 4 | .C => 4 | .S => 6 | .D => 2
/-- A node's cells. -/
def lay (ty : Ty) (k n : Int) (s : ByteArray) (vx vc vt ve : Value) : List Value := match ty with
  | .E => [.int .i64 k, .int .i64 n, .string s, vx]
  | .C => [.int .i64 k, .int .i64 n, vx, vc]
  | .S => [.int .i64 k, .string s, vx, vc, vt, ve]
  | .D => [.string s, .int .i64 n]
theorem lay_len (ty : Ty) (k n : Int) (s : ByteArray) (vx vc vt ve : Value) : (lay ty k n s vx vc vt ve).length = ty.size := by cases ty <;> rfl
/-- What a node of a type may have. -/
def fits (ty : Ty) (k n : Int) (s : ByteArray) (xs cs ts es : List Nd) : Prop := match ty with
  | .E => cs = [] ∧ ts = [] ∧ es = []
  | .C => s = ⟨#[]⟩ ∧ ts = [] ∧ es = []
  | .S => n = 0
  | .D => k = 0 ∧ xs = [] ∧ cs = [] ∧ ts = [] ∧ es = []
/-- A slice of len items whose row is told. -/
def SlOf (len : Nat) (row : Nat → Nat → Prop) (v : Value) : Prop := ∃ a c, v = .slice a len c ∧ len ≤ c ∧ c ≤ maxLen ∧ (len = 0 ∨ ∃ b o, a = some ⟨b, o, none⟩ ∧ row b o)
theorem SlOf.mono {len : Nat} {row row' : Nat → Nat → Prop} {v : Value} (h : SlOf len row v) (hr : ∀ b o, row b o → row' b o) : SlOf len row' v := by
  obtain ⟨a, c, h1, h2, h3, h4⟩ := h
  exact ⟨a, c, h1, h2, h3, h4.imp id fun ⟨b, o, h5, h6⟩ => ⟨b, o, h5, hr b o h6⟩⟩
def i64ok (n : Int) : Prop := (Lit.int .i64 n).wf = true

mutual
def NdIn (w : World) : Nd → List Value → Prop
  | .mk ty k n s xs cs ts es, vs => fits ty k n s xs cs ts es ∧ i64ok k ∧ i64ok n ∧ s.size ≤ maxLen ∧ ∃ vx vc vt ve, vs = lay ty k n s vx vc vt ve ∧
      SlOf xs.length (fun b o => RowIn w .E xs b o) vx ∧ SlOf cs.length (fun b o => RowIn w .C cs b o) vc ∧ SlOf ts.length (fun b o => RowIn w .S ts b o) vt ∧ SlOf es.length (fun b o => RowIn w .S es b o) ve
def RowIn (w : World) : Ty → List Nd → Nat → Nat → Prop
  | _, [], _, _ => True
  | ty, x :: r, b, o => (x.ty = ty ∧ ∃ vs, (∀ j u, vs[j]? = some u → w.cell? ⟨b, o + j, none⟩ = some u) ∧ NdIn w x vs) ∧ RowIn w ty r b (o + ty.size)
end
/-- A list of nodes of one type lies at a slice. -/
def SlIn (w : World) (ty : Ty) (l : List Nd) (v : Value) : Prop := SlOf l.length (fun b o => RowIn w ty l b o) v

/-- Every cell that is there is there later. -/
def Keeps (w w' : World) : Prop := ∀ b o u, w.cell? ⟨b, o, none⟩ = some u → w'.cell? ⟨b, o, none⟩ = some u
theorem keeps_below {w w' : World} (hb : Below w.heap.size w w') : Keeps w w' := fun b o u h => by
  have lt := World.block_lt_of_cell? w ⟨b, o, none⟩ h
  exact (hb.cell (p := ⟨b, o, none⟩) lt).trans h
mutual
theorem NdIn.keep {w w' : World} (hk : Keeps w w') : ∀ (x : Nd) (vs : List Value), NdIn w x vs → NdIn w' x vs
  | .mk ty k n s xs cs ts es, vs, h => by
    unfold NdIn at h ⊢
    obtain ⟨h1, h2, h3, h4, vx, vc, vt, ve, h5, hx, hc, ht, he⟩ := h
    exact ⟨h1, h2, h3, h4, vx, vc, vt, ve, h5, hx.mono (fun b o => RowIn.keep hk .E xs b o), hc.mono (fun b o => RowIn.keep hk .C cs b o), ht.mono (fun b o => RowIn.keep hk .S ts b o), he.mono (fun b o => RowIn.keep hk .S es b o)⟩
theorem RowIn.keep {w w' : World} (hk : Keeps w w') : ∀ (ty : Ty) (l : List Nd) (b o : Nat), RowIn w ty l b o → RowIn w' ty l b o
  | _, [], _, _, _ => by unfold RowIn; trivial
  | ty, x :: r, b, o, h => by
    unfold RowIn at h ⊢
    obtain ⟨⟨h1, vs, h2, h3⟩, h4⟩ := h
    exact ⟨⟨h1, vs, fun j u hj => hk _ _ _ (h2 j u hj), NdIn.keep hk x vs h3⟩, RowIn.keep hk ty r b (o + ty.size) h4⟩
end
theorem SlIn.keep {w w' : World} {ty : Ty} {l : List Nd} {v : Value} (h : SlIn w ty l v) (hk : Keeps w w') : SlIn w' ty l v := SlOf.mono h (fun b o => RowIn.keep hk ty l b o)

/-- Item i of a row. -/
theorem RowIn.at {w : World} {ty : Ty} : ∀ (l : List Nd) (b o i : Nat) (h : i < l.length), RowIn w ty l b o → (l[i]).ty = ty ∧ ∃ vs, (∀ j u, vs[j]? = some u → w.cell? ⟨b, o + i * ty.size + j, none⟩ = some u) ∧ NdIn w l[i] vs
  | [], _, _, _, h, _ => by simp at h
  | x :: r, b, o, 0, h, hr => by
    unfold RowIn at hr
    obtain ⟨⟨h1, vs, h2, h3⟩, _⟩ := hr
    exact ⟨h1, vs, by simpa using h2, h3⟩
  | x :: r, b, o, i + 1, h, hr => by
    unfold RowIn at hr
    have := RowIn.at r b (o + ty.size) i (by simpa using h) hr.2
    obtain ⟨h1, vs, h2, h3⟩ := this
    refine ⟨h1, vs, fun j u hj => ?_, h3⟩
    have e := h2 j u hj
    rwa [show o + ty.size + i * ty.size + j = o + (i + 1) * ty.size + j by rw [Nat.add_mul, Nat.one_mul]; omega] at e
theorem RowIn.of {w : World} {ty : Ty} : ∀ (l : List Nd) (b o : Nat), (∀ i (h : i < l.length), (l[i]).ty = ty ∧ ∃ vs, (∀ j u, vs[j]? = some u → w.cell? ⟨b, o + i * ty.size + j, none⟩ = some u) ∧ NdIn w l[i] vs) → RowIn w ty l b o
  | [], _, _, _ => by unfold RowIn; trivial
  | x :: r, b, o, h => by
    unfold RowIn
    refine ⟨?_, RowIn.of r b (o + ty.size) (fun i hi => ?_)⟩
    · have := h 0 (by simp)
      simpa using this
    · obtain ⟨h1, vs, h2, h3⟩ := h (i + 1) (by simpa using hi)
      refine ⟨h1, vs, fun j u hj => ?_, h3⟩
      have e := h2 j u hj
      rwa [show o + (i + 1) * ty.size + j = o + ty.size + i * ty.size + j by rw [Nat.add_mul, Nat.one_mul]; omega] at e
theorem NdIn.len {w : World} {x : Nd} {vs : List Value} (h : NdIn w x vs) : vs.length = x.ty.size := by
  obtain ⟨ty, k, n, s, xs, cs, ts, es⟩ := x
  unfold NdIn at h
  obtain ⟨_, _, _, _, vx, vc, vt, ve, rfl, _⟩ := h
  exact lay_len _ _ _ _ _ _ _ _
theorem slIn_nil (w : World) (ty : Ty) : SlIn w ty [] (.slice none 0 0) := ⟨none, 0, rfl, Nat.le_refl _, Nat.zero_le _, .inl rfl⟩

/-- The types of the program. -/
def tyId : Ty → TypeId | .E => 140 | .C => 148 | .S => 60 | .D => 85
def slId : Ty → TypeId | .E => 57 | .C => 58 | .S => 23 | .D => 22
theorem slId_under (ty : Ty) : Tryz.prog.underlying (slId ty) = some (.slice (tyId ty)) := by cases ty <;> kernel_rfl
theorem tyId_cells (ty : Ty) : Tryz.prog.cellsOf (tyId ty) = ty.size := by cases ty <;> kernel_rfl

theorem spot_none {w : World} {a : Addr} {u : Value} (h : w.cell? a = some u) : a = ⟨a.block, a.off, none⟩ := by
  cases hs : a.spot with
  | none => cases a; simp_all
  | some s =>
    exfalso
    simp only [World.cell?] at h
    split at h
    · simp [hs] at h
    · cases h
theorem add_none (b o i : Nat) : (⟨b, o, none⟩ : Addr).add i = ⟨b, o + i, none⟩ := by
  unfold Addr.add
  split <;> simp_all

section
variable {H : Type} {enc : TypeId × Value → H} {w : World} {base : Nat} {sp : Nat → Bool} {held : Bool}
/-- What reads as a slice of a type's items is a list of nodes. -/
theorem open_sl {ty : Ty} {fuel : Nat} {v : Value} {x : DataW H × List MemPlace} (hn : ∀ n, n < fuel → ∀ cs y, DataW.trod enc Tryz.prog w base sp held n (tyId ty) cs = some y → ∃ d : Nd, d.ty = ty ∧ NdIn w d cs)
    (h : DataW.trod enc Tryz.prog w base sp held fuel (slId ty) [v] = some x) : ∃ l, SlIn w ty l v := by
  rcases DataW.trod_slice (slId_under ty) h with ⟨h1, _⟩ | ⟨a, len, cap, elems, rest, n, hf, h1, _, hb, hl, hc, hlen, hel, _⟩
  · obtain rfl : v = .slice none 0 0 := by simpa using h1
    exact ⟨[], slIn_nil w ty⟩
  · obtain rfl : v = .slice (some a) len cap := by simpa using h1
    rw [tyId_cells] at hel
    have hex : ∀ i, i < len → ∃ d : Nd, d.ty = ty ∧ ∃ cs, w.cells? base (a.add (i * ty.size)) ty.size = some cs ∧ NdIn w d cs := fun i hi => by
      have := hel i hi
      rw [List.getElem?_eq_getElem (by omega)] at this
      simp only [Option.bind_eq_some_iff] at this
      obtain ⟨cs, hcs, hy⟩ := this
      obtain ⟨d, hd1, hd2⟩ := hn n (by omega) cs _ hy
      exact ⟨d, hd1, cs, hcs, hd2⟩
    haveI : Inhabited Nd := ⟨.mk .E 0 0 ⟨#[]⟩ [] [] [] []⟩
    obtain ⟨f, hfn⟩ := choose_lt hex
    refine ⟨(List.range len).map f, some a, cap, by simp, by simpa using hl, hc, ?_⟩
    by_cases h0 : len = 0
    · exact .inl (by simpa using h0)
    · right
      have hsp : a = ⟨a.block, a.off, none⟩ := by
        obtain ⟨_, cs, hcs, _⟩ := hfn 0 (by omega)
        rw [Nat.zero_mul] at hcs
        have hpos : 0 < ty.size := by cases ty <;> decide
        obtain ⟨_, _, hat⟩ := World.cells?_some hcs
        have h2 := hat 0 hpos
        have hl2 : cs.length = ty.size := by obtain ⟨_, h, _⟩ := World.cells?_some hcs; exact h
        rw [List.getElem?_eq_getElem (by omega)] at h2
        simp only [Addr.add, if_true] at h2
        exact spot_none h2
      refine ⟨a.block, a.off, by rw [← hsp], RowIn.of _ _ _ (fun i hi => ?_)⟩
      simp only [List.length_map, List.length_range] at hi
      obtain ⟨hd, cs, hcs, hin⟩ := hfn i hi
      simp only [List.getElem_map, List.getElem_range]
      refine ⟨hd, cs, fun j u hj => ?_, hin⟩
      obtain ⟨_, hcl, hat⟩ := World.cells?_some hcs
      have hj2 : j < ty.size := by
        have := (List.getElem?_eq_some_iff.1 hj).1
        omega
      have h3 := hat j hj2
      rw [hj] at h3
      rw [hsp, add_none, add_none] at h3
      exact h3
theorem i64_of {n : Nat} {t : TypeId} {v : Value} {y : DataW H × List MemPlace} (ht : Tryz.prog.underlying t = some (.int .i64)) (h : DataW.trod enc Tryz.prog w base sp held n t [v] = some y) : ∃ k : Int, v = .int .i64 k ∧ i64ok k := by
  obtain ⟨k, h1, _, h2⟩ := DataW.trod_int ht h
  exact ⟨k, by simpa using h1, h2⟩
theorem str_of {n : Nat} {v : Value} {y : DataW H × List MemPlace} (h : DataW.trod enc Tryz.prog w base sp held n 9 [v] = some y) : ∃ s : ByteArray, v = .string s ∧ s.size ≤ maxLen := by
  obtain ⟨s, h1, _, h2⟩ := DataW.trod_string (by kernel_rfl) h
  exact ⟨s, by simpa using h1, h2⟩
theorem ok0 : i64ok 0 := by unfold i64ok; decide
theorem sl0 (w : World) (ty : Ty) : SlOf ([] : List Nd).length (fun b o => RowIn w ty [] b o) (.slice none 0 0) := slIn_nil w ty

theorem len2 {α : Type} {l : List α} (h : l.length = 2) : ∃ a b, l = [a, b] := by
  match l, h with
  | [a, b], _ => exact ⟨a, b, rfl⟩
theorem len4 {α : Type} {l : List α} (h : l.length = 4) : ∃ a b c d, l = [a, b, c, d] := by
  match l, h with
  | [a, b, c, d], _ => exact ⟨a, b, c, d, rfl⟩
theorem len6 {α : Type} {l : List α} (h : l.length = 6) : ∃ a b c d e f, l = [a, b, c, d, e, f] := by
  match l, h with
  | [a, b, c, d, e, f], _ => exact ⟨a, b, c, d, e, f, rfl⟩
theorem one_cell {n : Nat} {cs : List Value} {t : TypeId} {off : Nat} {r : Option (DataW H × List MemPlace)} {y : DataW H × List MemPlace} {c : Value} (hk : Tryz.prog.cellsOf t = 1) (hc : cs[off]? = some c) (hr : r = some y)
    (h : DataW.trod enc Tryz.prog w base sp held n t ((cs.drop off).take (Tryz.prog.cellsOf t)) = r) : DataW.trod enc Tryz.prog w base sp held n t [c] = some y := by
  rw [hk, hr] at h
  have e : (cs.drop off).take 1 = [c] := by
    obtain ⟨hl, he⟩ := List.getElem?_eq_some_iff.1 hc
    rw [List.drop_eq_getElem_cons hl, he]
    rfl
  rwa [e] at h
/-- What reads as data of one of the four types is a node. -/
theorem open_nd : ∀ (fuel : Nat) (ty : Ty) (cs : List Value) (y : DataW H × List MemPlace), DataW.trod enc Tryz.prog w base sp held fuel (tyId ty) cs = some y → ∃ d : Nd, d.ty = ty ∧ NdIn w d cs := by
  intro fuel
  induction fuel using Nat.strongRecOn with
  | ind fuel ih =>
    intro ty cs y h
    have hsl : ∀ (n : Nat), n < fuel → ∀ (ty' : Ty) (v : Value) (x : DataW H × List MemPlace), DataW.trod enc Tryz.prog w base sp held n (slId ty') [v] = some x → ∃ l, SlIn w ty' l v := fun n hn ty' v x hx =>
      open_sl (fun m hm cs y hy => ih m (by omega) ty' cs y hy) hx
    cases ty with
    | E =>
      obtain ⟨xs, n, rfl, _, hl, hxs, hf⟩ := DataW.trod_struct Tryz.underlying140 h
      have hl4 : cs.length = 4 := hl.trans (by kernel_rfl)
      obtain ⟨c0, c1, c2, c3, rfl⟩ := len4 hl4
      obtain ⟨y0, y1, y2, y3, rfl⟩ := len4 (hxs.trans (by rfl))
      obtain ⟨k, rfl, hk⟩ := i64_of (by kernel_rfl) (one_cell (c := c0) (by kernel_rfl) rfl rfl (hf 0 _ rfl))
      obtain ⟨m, rfl, hm⟩ := i64_of (by kernel_rfl) (one_cell (c := c1) (by kernel_rfl) rfl rfl (hf 1 _ rfl))
      obtain ⟨s, rfl, hs⟩ := str_of (one_cell (c := c2) (by kernel_rfl) rfl rfl (hf 2 _ rfl))
      obtain ⟨l, hlst⟩ := hsl n (by omega) .E c3 _ (one_cell (c := c3) (by kernel_rfl) rfl rfl (hf 3 _ rfl))
      refine ⟨.mk .E k m s l [] [] [], rfl, ?_⟩
      unfold NdIn
      exact ⟨⟨rfl, rfl, rfl⟩, hk, hm, hs, c3, _, _, _, rfl, hlst, sl0 w .C, sl0 w .S, sl0 w .S⟩
    | C =>
      obtain ⟨xs, n, rfl, _, hl, hxs, hf⟩ := DataW.trod_struct Tryz.underlying148 h
      have hl4 : cs.length = 4 := hl.trans (by kernel_rfl)
      obtain ⟨c0, c1, c2, c3, rfl⟩ := len4 hl4
      obtain ⟨y0, y1, y2, y3, rfl⟩ := len4 (hxs.trans (by rfl))
      obtain ⟨k, rfl, hk⟩ := i64_of (by kernel_rfl) (one_cell (c := c0) (by kernel_rfl) rfl rfl (hf 0 _ rfl))
      obtain ⟨m, rfl, hm⟩ := i64_of (by kernel_rfl) (one_cell (c := c1) (by kernel_rfl) rfl rfl (hf 1 _ rfl))
      obtain ⟨l, hlst⟩ := hsl n (by omega) .E c2 _ (one_cell (c := c2) (by kernel_rfl) rfl rfl (hf 2 _ rfl))
      obtain ⟨l2, hlst2⟩ := hsl n (by omega) .C c3 _ (one_cell (c := c3) (by kernel_rfl) rfl rfl (hf 3 _ rfl))
      refine ⟨.mk .C k m ⟨#[]⟩ l l2 [] [], rfl, ?_⟩
      unfold NdIn
      exact ⟨⟨rfl, rfl, rfl⟩, hk, hm, Nat.zero_le _, c2, c3, _, _, rfl, hlst, hlst2, sl0 w .S, sl0 w .S⟩
    | S =>
      obtain ⟨xs, n, rfl, _, hl, hxs, hf⟩ := DataW.trod_struct Tryz.underlying60 h
      have hl4 : cs.length = 6 := hl.trans (by kernel_rfl)
      obtain ⟨c0, c1, c2, c3, c4, c5, rfl⟩ := len6 hl4
      obtain ⟨y0, y1, y2, y3, y4, y5, rfl⟩ := len6 (hxs.trans (by rfl))
      obtain ⟨k, rfl, hk⟩ := i64_of (by kernel_rfl) (one_cell (c := c0) (by kernel_rfl) rfl rfl (hf 0 _ rfl))
      obtain ⟨s, rfl, hs⟩ := str_of (one_cell (c := c1) (by kernel_rfl) rfl rfl (hf 1 _ rfl))
      obtain ⟨l, hlst⟩ := hsl n (by omega) .E c2 _ (one_cell (c := c2) (by kernel_rfl) rfl rfl (hf 2 _ rfl))
      obtain ⟨l2, hlst2⟩ := hsl n (by omega) .C c3 _ (one_cell (c := c3) (by kernel_rfl) rfl rfl (hf 3 _ rfl))
      obtain ⟨l3, hlst3⟩ := hsl n (by omega) .S c4 _ (one_cell (c := c4) (by kernel_rfl) rfl rfl (hf 4 _ rfl))
      obtain ⟨l4, hlst4⟩ := hsl n (by omega) .S c5 _ (one_cell (c := c5) (by kernel_rfl) rfl rfl (hf 5 _ rfl))
      refine ⟨.mk .S k 0 s l l2 l3 l4, rfl, ?_⟩
      unfold NdIn
      exact ⟨rfl, hk, ok0, hs, c2, c3, c4, c5, rfl, hlst, hlst2, hlst3, hlst4⟩
    | D =>
      obtain ⟨xs, n, rfl, _, hl, hxs, hf⟩ := DataW.trod_struct Tryz.underlying85 h
      have hl4 : cs.length = 2 := hl.trans (by kernel_rfl)
      obtain ⟨c0, c1, rfl⟩ := len2 hl4
      obtain ⟨y0, y1, rfl⟩ := len2 (hxs.trans (by rfl))
      obtain ⟨s, rfl, hs⟩ := str_of (one_cell (c := c0) (by kernel_rfl) rfl rfl (hf 0 _ rfl))
      obtain ⟨m, rfl, hm⟩ := i64_of (by kernel_rfl) (one_cell (c := c1) (by kernel_rfl) rfl rfl (hf 1 _ rfl))
      refine ⟨.mk .D 0 m s [] [] [] [], rfl, ?_⟩
      unfold NdIn
      exact ⟨⟨rfl, rfl, rfl, rfl, rfl⟩, ok0, hm, hs, _, _, _, _, rfl, sl0 w .E, sl0 w .C, sl0 w .S, sl0 w .S⟩
theorem open_list {ty : Ty} {fuel : Nat} {v : Value} {x : DataW H × List MemPlace} (h : DataW.trod enc Tryz.prog w base sp held fuel (slId ty) [v] = some x) : ∃ l, SlIn w ty l v :=
  open_sl (fun n _ cs y hy => open_nd n ty cs y hy) h
end
end Go.Proofs.YtbhbmoppipohjaaGreatDoor

/-
  A law for 'for .. := range f' where the iterator f keeps cells of its own: proved is that the statement is left as its rounds leave it, if each round turns nothing at or beyond the heap's end where the loop began but new blocks, and the iterator turns nothing below that end.
  Conditions: the function is no round's frame itself; no defer and no panic in a round.
-/
namespace Go.Proofs.YtbhbmoppipohjaaGreatDoor
open Go Go.RowKit

/-- Blocks at or beyond B stand as they stood; new ones may have come. -/
structure Above (B : Nat) (W W' : World) : Prop where
  size : W.heap.size ≤ W'.heap.size
  block : ∀ k, B ≤ k → k < W.heap.size → W'.heap[k]? = W.heap[k]?

theorem Above.refl (B : Nat) (W : World) : Above B W W := ⟨Nat.le_refl _, fun _ _ _ => rfl⟩
theorem Above.trans {B : Nat} {X Y Z : World} (h : Above B X Y) (k : Above B Y Z) : Above B X Z :=
  ⟨Nat.le_trans h.size k.size, fun i hi hl => (k.block i hi (Nat.lt_of_lt_of_le hl h.size)).trans (h.block i hi hl)⟩
theorem Above.mono {B B' : Nat} {W W' : World} (h : Above B W W') (hB : B ≤ B') : Above B' W W' := ⟨h.size, fun k hk hl => h.block k (Nat.le_trans hB hk) hl⟩
theorem Above.alloc {B : Nat} {X W : World} (h : Above B X W) (o : Obj) : Above B X (W.alloc o) :=
  h.trans ⟨by simp, fun k _ hl => Below.heap_alloc W o k hl⟩
theorem Above.setCell {B : Nat} {X W : World} (h : Above B X W) {p : Addr} (hp : p.block < B) (u : Value) : Above B X (W.setCell p u) :=
  h.trans ⟨by simp [World.setCell], fun k hk _ => Below.heap_setCell W p u k (by omega)⟩
theorem Above.setNew {B : Nat} {X W : World} (h : Above B X W) {p : Addr} (hp : X.heap.size ≤ p.block) (u : Value) : Above B X (W.setCell p u) :=
  ⟨Nat.le_trans h.size (by simp [World.setCell]), fun k hk hl => (Below.heap_setCell W p u k (by omega)).trans (h.block k hk hl)⟩
theorem Above.drew {B : Nat} {X W : World} (h : Above B X W) : Above B X W.drew := ⟨h.size, h.block⟩
theorem Above.put {B : Nat} {X W : World} (h : Above B X W) {l : Nat} (hl : l < B) (o : Obj) : Above B X (W.putObj l o) :=
  h.trans ⟨by simp, fun k hk _ => World.putObj_heap_other (by omega)⟩
/-- What a call that keeps all that lay leaves. -/
theorem Above.below {B : Nat} {X W W' : World} (h : Above B X W) (hb : Below W.heap.size W W') : Above B X W' :=
  h.trans ⟨hb.size, fun k _ hl => hb.block k hl⟩
/-- What a call that keeps all that lay when the round began leaves. -/
theorem Above.belowOld {B : Nat} {X W W' : World} (h : Above B X W) (hb : Below X.heap.size W W') : Above B X W' :=
  ⟨Nat.le_trans h.size hb.size, fun k hk hl => (hb.block k hl).trans (h.block k hk hl)⟩

theorem below_put (B : Nat) (W : World) {l : Nat} (hl : B ≤ l) (o : Obj) : Below B W (W.putObj l o) :=
  ⟨rfl, rfl, rfl, by simp, fun k hk => World.putObj_heap_other (by omega)⟩

/-- At the wide fence the frames at hand don't matter. -/
theorem wpIn_any {m m' l : Nat} {P : Program} {c : Code} {Q : Exit → Act → World → Prop} {a : Act} {w : World}
    (h : c.wpIn (Fence.wide.inRound l) m P Q a w) : c.wpIn (Fence.wide.inRound l) m' P Q a w :=
  fun b k cs hr hf _ => h b k cs hr hf (fun _ hd => by simp [Fence.inRound, Fence.wide] at hd)

/-- A round's contract, met in another round. -/
theorem roundIn_any {m m' l l' : Nat} {P : Program} {f : FuncId} {tmps : Array Value} {assign body : Code} {w : World} {R : Ending → World → Prop}
    (h : RoundIn Fence.wide m P l f tmps assign body w R) : RoundIn (Fence.wide.inRound l') m' P l f tmps assign body w R :=
  ⟨trivial, fun c cs _ => h.2 c cs (room_wide _)⟩

/-- An iterator's contract: whatever the rounds do, xs come in order, all or up to where a round said 'no more'; it turns nothing that lay when it was called. -/
def SeqOf {α : Type} (P : Program) (g : Nat) (lb : Array Value) (encs : α → Array Value) (xs : List α) (w : World) : Prop :=
  ∀ (l : Nat) (J Jx : List α → World → Prop) (W : World), Below w.heap.size w W →
    (∀ pre A B, J pre A → Below W.heap.size A B → J pre B) → (∀ pre A B, Jx pre A → Below W.heap.size A B → Jx pre B) →
    (∀ pre x W1, J pre W1 → pre ++ [x] <+: xs → YieldAt Fence.wide 2 P l (encs x) W1 fun e W' =>
      (e = .returned (.bool true) ∧ J (pre ++ [x]) W' ∧ Above W.heap.size W1 W') ∨ (e = .returned (.bool false) ∧ Jx (pre ++ [x]) W' ∧ Above W.heap.size W1 W')) →
    J [] W →
    Calls P g (#[.func (.yield l) #[] #[]] ++ lb) W fun e W' => (∃ v, e = .returned v) ∧ (J xs W' ∨ ∃ pre, pre <+: xs ∧ Jx pre W')

theorem SeqOf.later {α : Type} {P : Program} {g : Nat} {lb : Array Value} {encs : α → Array Value} {xs : List α} {w w' : World}
    (h : SeqOf P g lb encs xs w) (hb : Below w.heap.size w w') : SeqOf P g lb encs xs w' :=
  fun l J Jx W hW hJ hJx hY h0 => h l J Jx W (hb.trans (hW.mono hb.size)) hJ hJx hY h0

/-- How the body of a round may be left. -/
def postOf {α : Type} (B : Nat) (I : List α → World → Prop) (Ix : Code → List α → World → Prop) (xs : List α) (W : World) : Exit → Act → World → Prop
  | .normal, _, W' => Above B W W' ∧ I xs W'
  | .ret, _, W' => Above B W W' ∧ Ix .ret xs W'
  | .exit id, _, W' => Above B W W' ∧ Ix (.exit id) xs W'
  | .goto t, _, W' => Above B W W' ∧ Ix (.goto t) xs W'
  | .panic _, _, _ => False
  | .outgrown, _, _ => False

theorem wp_rangeFunc_one {α : Type} {P : Program} {g : Operand} {ps : Array Tmp} {assign body : Code} {Q : Exit → Act → World → Prop} {a : Act} {w : World}
    {gf : Nat} {lb : Array Value} (hg : a.eval g = .func (.func gf) #[] lb) (eg : ∀ args w, (callFunc gf args).run P w = .ok (.enter gf args) w)
    {encs : α → Array Value} {xs : List α} {w0 : World} (hseq : SeqOf P gf lb encs xs w0) (hb0 : Below w0.heap.size w0 w) (hps : ∀ x, (encs x).size = ps.size)
    (I : List α → World → Prop) (Ix : Code → List α → World → Prop)
    (hI : ∀ pre A B, I pre A → Below w.heap.size A B → I pre B) (hIx : ∀ c pre A B, Ix c pre A → Below w.heap.size A B → Ix c pre B)
    (h0 : I [] w)
    (hround : ∀ (l : Nat) (pre : List α) (x : α) (W : World), I pre W → pre ++ [x] <+: xs → w.heap.size ≤ W.heap.size → w.heap.size ≤ l →
      assign.wpIn (Fence.wide.inRound l) 2 P (Exit.then (fun a1 W1 => Above w.heap.size W W1 ∧ ∀ (r o' : Loop), W1.heap[l]? = some (.loop r) → body.wpIn (Fence.wide.inRound l) 2 P (postOf w.heap.size I Ix (pre ++ [x]) (W1.putObj l (.loop o'))) a1 (W1.putObj l (.loop o'))) (fun _ _ _ => False))
        { tmps := (ps.zip (encs x)).foldl (fun t (p, v) => t.setIfInBounds p v) a.tmps, defers := [] } W)
    (hdone : ∀ (D : Nat) (W : World), w.heap.size ≤ D → I xs W → W.heap[D]? = some (.deferred (some [])) → Q .normal { a with defers := { target := .collected D, args := #[] } :: a.defers } W)
    (hstop : ∀ (D : Nat) (c : Code) (pre : List α) (W : World), w.heap.size ≤ D → pre <+: xs → Ix c pre W → W.heap[D]? = some (.deferred (some [])) → c.wp P Q { a with defers := { target := .collected D, args := #[] } :: a.defers } W) :
    (Code.rangeFunc g ps assign body).wp P Q a w := by
  refine (wpIn_wide (n := 3)).1 ?_
  refine wpIn_rangeFunc ?_
  intro fn hfn
  rw [Fence.wide_round]
  obtain ⟨rec, hrec⟩ : ∃ rec : LoopState → Option Code → Loop, rec = fun st pe => { state := st, pending := pe, fn, tmps := a.tmps, params := ps, assign, body, defers := w.heap.size } := ⟨_, rfl⟩
  obtain ⟨W1, hW1⟩ : ∃ W1, (w.alloc (.deferred (some []))).alloc (.loop (rec .ready none)) = W1 := ⟨_, rfl⟩
  have hL1 : W1.heap[w.heap.size + 1]? = some (.loop (rec .ready none)) := by
    rw [← hW1]; have := World.alloc_heap_new (w.alloc (.deferred (some []))) (.loop (rec .ready none)); rwa [World.size_alloc] at this
  have hK1 : W1.heap[w.heap.size]? = some (.deferred (some [])) := by
    rw [← hW1]; exact (Below.heap_alloc _ _ _ (by simp)).trans (World.alloc_heap_new w _)
  have hBw : Below w.heap.size w W1 := by rw [← hW1]; exact ((Below.refl _ w).alloc (Nat.le_refl _) _).alloc (by simp) _
  have hI1 : I [] W1 := hI _ _ _ h0 hBw
  have hs1 : W1.heap.size = w.heap.size + 2 := by rw [← hW1]; simp
  have hb1 : Below w0.heap.size w0 W1 := hb0.trans (hBw.mono hb0.size)
  refine ⟨w.heap.size + 1, [{ target := .collected w.heap.size, args := #[] }], W1, { target := .fn (.func gf) lb, args := #[.func (.yield (w.heap.size + 1)) #[] #[]] }, W1, gf,
    #[.func (.yield (w.heap.size + 1)) #[] #[]] ++ lb, W1, ?_, ?_, fun _ _ => trivial, ?_, fun h => by simp [Fence.wide] at h, ?_⟩
  · rw [← hW1, hrec]; exact run_enterLoop_outer _ _ _ _ _
  · simp only [resolve, hg]
    simp [go_sem]
  · simp [invoke, go_sem, eg]
  · refine callsIn_wide.2 ?_
    refine (hseq (w.heap.size + 1)
      (fun pre W => I pre W ∧ W.heap[w.heap.size + 1]? = some (.loop (rec .ready none)) ∧ W.heap[w.heap.size]? = some (.deferred (some [])))
      (fun pre W => ∃ c, Ix c pre W ∧ W.heap[w.heap.size + 1]? = some (.loop (rec .done (some c))) ∧ W.heap[w.heap.size]? = some (.deferred (some [])))
      W1 hb1
      (fun pre A B hs hb => ⟨hI _ _ _ hs.1 (hb.mono (by omega)), (hb.block _ (by omega)).trans hs.2.1, (hb.block _ (by omega)).trans hs.2.2⟩)
      (fun pre A B hs hb => by
        obtain ⟨c, hc, hl, hk⟩ := hs
        exact ⟨c, hIx c _ _ _ hc (hb.mono (by omega)), (hb.block _ (by omega)).trans hl, (hb.block _ (by omega)).trans hk⟩)
      ?_ ⟨hI1, hL1, hK1⟩).mono ?_
    · -- one round
      rintro pre x W ⟨hi, hl, hk⟩ hpre
      have hlt : w.heap.size + 1 < W.heap.size := (Array.getElem?_eq_some_iff.1 hl).1
      have hy := run_yield (P := P) (args := encs x) hl (by rw [hrec]; exact hps x)
      rw [hrec] at hy
      refine ⟨fn, _, assign, body, hy, roundIn_of_wpIn hfn ?_⟩
      refine wpIn_mono (hround (w.heap.size + 1) pre x W hi hpre (by omega) (by omega)) ?_
      rintro e a1 Wa hp
      cases e with
      | normal =>
        obtain ⟨hab, hm⟩ := hp
        have hla : Wa.heap[w.heap.size + 1]? = some (.loop (rec .ready none)) := (hab.block _ (by omega) hlt).trans hl
        have hka : Wa.heap[w.heap.size]? = some (.deferred (some [])) := (hab.block _ (by omega) (by omega)).trans hk
        have hlta := (Array.getElem?_eq_some_iff.1 hla).1
        refine ⟨_, run_beginRound hla (by rw [hrec]), ?_⟩
        have hl2 : (Wa.putObj (w.heap.size + 1) (.loop { rec .ready none with state := .busy })).heap[w.heap.size + 1]? = some (.loop { rec .ready none with state := .busy }) := World.putObj_heap_same hlta
        have hk2 : (Wa.putObj (w.heap.size + 1) (.loop { rec .ready none with state := .busy })).heap[w.heap.size]? = some (.deferred (some [])) := (World.putObj_heap_other (by omega)).trans hka
        refine wpIn_mono (hm _ _ hla) ?_
        have fin : ∀ (jump : Option Code) (W3 : World), Above w.heap.size (Wa.putObj (w.heap.size + 1) (.loop { rec .ready none with state := .busy })) W3 →
            (Instr.endRound (w.heap.size + 1) jump).run P W3 = .ok (.bool jump.isNone) (W3.putObj (w.heap.size + 1) (.loop (rec (if jump.isNone then .ready else .done) jump))) ∧
            (W3.putObj (w.heap.size + 1) (.loop (rec (if jump.isNone then .ready else .done) jump))).heap[w.heap.size + 1]? = some (.loop (rec (if jump.isNone then .ready else .done) jump)) ∧
            (W3.putObj (w.heap.size + 1) (.loop (rec (if jump.isNone then .ready else .done) jump))).heap[w.heap.size]? = some (.deferred (some [])) ∧
            Above W1.heap.size W (W3.putObj (w.heap.size + 1) (.loop (rec (if jump.isNone then .ready else .done) jump))) := fun jump W3 hk3 => by
          have hl3 := (hk3.block (w.heap.size + 1) (by omega) (by simp; omega)).trans hl2
          have hk3' := (hk3.block w.heap.size (by omega) (by simp; omega)).trans hk2
          have := run_endRound (P := P) jump hl3
          rw [hrec] at this
          refine ⟨by rw [hrec]; exact this, World.putObj_heap_same (Array.getElem?_eq_some_iff.1 hl3).1, (World.putObj_heap_other (by omega)).trans hk3', ?_⟩
          exact ((((hab.mono (by omega)).put (by omega) _).trans (hk3.mono (by omega))).put (by omega) _)
        rintro e a3 W3 hp
        cases e with
        | normal =>
          obtain ⟨hk3, hi3⟩ := hp
          obtain ⟨hr, hl4, hk4, hab4⟩ := fin none W3 hk3
          exact ⟨_, _, hr, .inl ⟨rfl, ⟨hI _ _ _ hi3 (below_put _ _ (by omega) _), hl4, hk4⟩, hab4⟩⟩
        | ret =>
          obtain ⟨hk3, hi3⟩ := hp
          obtain ⟨hr, hl4, hk4, hab4⟩ := fin (some .ret) W3 hk3
          exact ⟨_, _, hr, .inr ⟨rfl, ⟨.ret, hIx _ _ _ _ hi3 (below_put _ _ (by omega) _), hl4, hk4⟩, hab4⟩⟩
        | exit id =>
          obtain ⟨hk3, hi3⟩ := hp
          obtain ⟨hr, hl4, hk4, hab4⟩ := fin (some (.exit id)) W3 hk3
          exact ⟨_, _, hr, .inr ⟨rfl, ⟨.exit id, hIx _ _ _ _ hi3 (below_put _ _ (by omega) _), hl4, hk4⟩, hab4⟩⟩
        | goto t =>
          obtain ⟨hk3, hi3⟩ := hp
          obtain ⟨hr, hl4, hk4, hab4⟩ := fin (some (.goto t)) W3 hk3
          exact ⟨_, _, hr, .inr ⟨rfl, ⟨.goto t, hIx _ _ _ _ hi3 (below_put _ _ (by omega) _), hl4, hk4⟩, hab4⟩⟩
        | panic ch => exact hp.elim
        | outgrown => exact hp.elim
      | exit id => exact hp.elim
      | goto t => exact hp.elim
      | ret => exact hp.elim
      | panic chain => exact hp.elim
      | outgrown => exact hp.elim
    · -- behind the iterator
      rintro e W2 ⟨⟨v, rfl⟩, (⟨hi, hl, hk⟩ | ⟨pre, hpre, c, hi, hl, hk⟩)⟩
      · exact ⟨none, _, by have := run_endLoop (P := P) hl (by rw [hrec]; simp); rw [hrec] at this; exact this, hdone _ _ (Nat.le_refl _) (hI _ _ _ hi (below_put _ _ (by omega) _)) ((World.putObj_heap_other (by omega)).trans hk)⟩
      · exact ⟨some c, _, by have := run_endLoop (P := P) hl (by rw [hrec]; simp); rw [hrec] at this; exact this, wpIn_wide.2 (hstop _ c pre _ (Nat.le_refl _) hpre (hIx c _ _ _ hi (below_put _ _ (by omega) _)) ((World.putObj_heap_other (by omega)).trans hk))⟩

theorem wp_rangeFunc_of {α : Type} {P : Program} {g : Operand} {ps : Array Tmp} {assign body : Code} {Q : Exit → Act → World → Prop} {a : Act} {w : World}
    {gf : Nat} {lb : Array Value} (hg : a.eval g = .func (.func gf) #[] lb) (eg : ∀ args w, (callFunc gf args).run P w = .ok (.enter gf args) w)
    {encs : α → Array Value} {xs : List α} {w0 : World} (hseq : SeqOf P gf lb encs xs w0) (hb0 : Below w0.heap.size w0 w) (hps : ∀ x, (encs x).size = ps.size)
    (I : List α → World → Prop) (Ix : Code → List α → World → Prop)
    (hI : ∀ pre A B, I pre A → Below w.heap.size A B → I pre B) (hIx : ∀ c pre A B, Ix c pre A → Below w.heap.size A B → Ix c pre B)
    (h0 : I [] w) (M : List α → α → Act → World → Prop)
    (hM : ∀ pre x a1 (A : World) (l : Nat) (r o' : Loop), M pre x a1 A → w.heap.size ≤ l → A.heap[l]? = some (.loop r) → M pre x a1 (A.putObj l (.loop o')))
    (hassign : ∀ (l : Nat) (pre : List α) (x : α) (W : World), I pre W → pre ++ [x] <+: xs → w.heap.size ≤ W.heap.size →
      assign.wpIn (Fence.wide.inRound l) 2 P (Exit.then (fun a1 W1 => Above w.heap.size W W1 ∧ M pre x a1 W1) (fun _ _ _ => False)) { tmps := (ps.zip (encs x)).foldl (fun t (p, v) => t.setIfInBounds p v) a.tmps, defers := [] } W)
    (hbody : ∀ (l : Nat) (pre : List α) (x : α) (a1 : Act) (W : World), M pre x a1 W → pre ++ [x] <+: xs → w.heap.size ≤ W.heap.size → body.wpIn (Fence.wide.inRound l) 2 P (postOf w.heap.size I Ix (pre ++ [x]) W) a1 W)
    (hdone : ∀ (D : Nat) (W : World), w.heap.size ≤ D → I xs W → W.heap[D]? = some (.deferred (some [])) → Q .normal { a with defers := { target := .collected D, args := #[] } :: a.defers } W)
    (hstop : ∀ (D : Nat) (c : Code) (pre : List α) (W : World), w.heap.size ≤ D → pre <+: xs → Ix c pre W → W.heap[D]? = some (.deferred (some [])) → c.wp P Q { a with defers := { target := .collected D, args := #[] } :: a.defers } W) :
    (Code.rangeFunc g ps assign body).wp P Q a w := by
  refine wp_rangeFunc_one hg eg hseq hb0 hps I Ix hI hIx h0 (fun l pre x W hi hpre hle hl => ?_) hdone hstop
  refine wpIn_mono (hassign l pre x W hi hpre hle) ?_
  rintro e a1 W1 hp
  cases e with
  | normal => exact ⟨hp.1, fun r o' hr => hbody l pre x a1 _ (hM _ _ _ _ _ _ _ hp.2 hl hr) hpre (by simp; exact Nat.le_trans hle hp.1.size)⟩
  | exit id => exact hp.elim
  | goto t => exact hp.elim
  | ret => exact hp.elim
  | panic chain => exact hp.elim
  | outgrown => exact hp.elim

/-- A function that holds such a loop: its contract from its body. -/
theorem calls_of_wp_marks {P : Program} {f : FuncId} {fn : Func} {c : Code} {args : Array Value} {w : World} {R : Ending → World → Prop}
    (hf : P.funcs[f]? = some fn) (hb : fn.body = some c)
    (h : c.wp P (bodyPostM Fence.wide 3 P fn R) { tmps := args ++ Array.replicate (fn.ntmps - args.size) undef, defers := [] } w) : Calls P f args w R :=
  (callsIn_wide (n := 3)).1 (callsIn_of_wp_marks hf hb trivial (wpIn_wide.2 h))


/-- Block b holds these cells, and may be written. -/
def Blk (w : World) (b : Nat) (cs : Array Value) (t : TypeId) : Prop := w.heap[b]? = some (.cells cs t (0, 0))
theorem Blk.lt {w : World} {b : Nat} {cs : Array Value} {t : TypeId} (h : Blk w b cs t) : b < w.heap.size := (Array.getElem?_eq_some_iff.1 h).1
theorem Blk.cell {w : World} {b : Nat} {cs : Array Value} {t : TypeId} (h : Blk w b cs t) (o : Nat) : w.cell? ⟨b, o, none⟩ = cs[o]? := by
  unfold Blk at h
  simp [World.cell?, h]
theorem Blk.free {w : World} {b : Nat} {cs : Array Value} {t : TypeId} (h : Blk w b cs t) (o : Nat) : w.frozen? ⟨b, o, none⟩ = false := by
  unfold Blk at h
  simp [World.frozen?, h]
theorem Blk.set {w : World} {b : Nat} {cs : Array Value} {t : TypeId} (h : Blk w b cs t) (o : Nat) (u : Value) : Blk (w.setCell ⟨b, o, none⟩ u) b (cs.setIfInBounds o u) t := by
  have hlt := h.lt
  have h' : w.heap[b] = .cells cs t (0, 0) := by unfold Blk at h; simpa [Array.getElem?_eq_getElem hlt] using h
  show (w.heap.modify b _)[b]? = _
  rw [Array.getElem?_eq_getElem (by simpa using hlt), Array.getElem_modify_self, h']
  rfl
theorem Blk.other {w : World} {b : Nat} {cs : Array Value} {t : TypeId} (h : Blk w b cs t) {a : Addr} (ha : b ≠ a.block) (u : Value) : Blk (w.setCell a u) b cs t :=
  (Below.heap_setCell w a u b ha).trans h
theorem Blk.new (w : World) (cs : Array Value) (t : TypeId) : Blk (w.alloc (.cells cs t)) w.heap.size cs t := World.alloc_heap_new w _
theorem Blk.alloc {w : World} {b : Nat} {cs : Array Value} {t : TypeId} (h : Blk w b cs t) (o : Obj) : Blk (w.alloc o) b cs t := (Below.heap_alloc w o b h.lt).trans h
theorem Blk.below {B : Nat} {w w' : World} {b : Nat} {cs : Array Value} {t : TypeId} (h : Blk w b cs t) (hb : Below B w w') (hB : b < B) : Blk w' b cs t := (hb.block b hB).trans h
theorem Blk.above {B : Nat} {w w' : World} {b : Nat} {cs : Array Value} {t : TypeId} (h : Blk w b cs t) (ha : Above B w w') (hB : B ≤ b) : Blk w' b cs t := (ha.block b hB h.lt).trans h
theorem Blk.put {w : World} {b : Nat} {cs : Array Value} {t : TypeId} (h : Blk w b cs t) {l : Nat} (hl : b ≠ l) (o : Obj) : Blk (w.putObj l o) b cs t := (World.putObj_heap_other hl).trans h
theorem Blk.putLoop {w : World} {b : Nat} {cs : Array Value} {t : TypeId} (h : Blk w b cs t) {l : Nat} {r : Loop} (hl : w.heap[l]? = some (.loop r)) (o : Obj) : Blk (w.putObj l o) b cs t :=
  h.put (fun e => by subst e; unfold Blk at h; rw [hl] at h; cases h) o
theorem Blk.iterAt {w : World} {b : Nat} {cs : Array Value} {t : TypeId} (h : Blk w b cs t) {k : Nat} (hk : b ≠ k) (s : ByteArray) (pos : Nat) : Blk (w.iterAt k s pos) b cs t := (Lib.iterAt_other w k b s pos hk).trans h

end Go.Proofs.YtbhbmoppipohjaaGreatDoor

/-
  The document's walk over a tree (gnomonref3's walk.node, walk.expr, walk.cond, walk.stmt): proved is what each leaves in the walk's cells: how many nodes were met, the greatest depth, the first error.
-/
namespace Go.Proofs.YtbhbmoppipohjaaGreatDoor
open Go Go.RowKit

/-- w' is w but for the block B, and for new blocks. -/
structure Only (B : Nat) (w w' : World) : Prop where
  os : w'.os = w.os
  tape : w'.tape = w.tape
  output : w'.output = w.output
  size : w.heap.size ≤ w'.heap.size
  block : ∀ k, k < w.heap.size → k ≠ B → w'.heap[k]? = w.heap[k]?
theorem Only.refl (B : Nat) (w : World) : Only B w w := ⟨rfl, rfl, rfl, Nat.le_refl _, fun _ _ _ => rfl⟩
theorem Only.trans {B : Nat} {a b c : World} (h : Only B a b) (k : Only B b c) : Only B a c :=
  ⟨k.os.trans h.os, k.tape.trans h.tape, k.output.trans h.output, Nat.le_trans h.size k.size, fun i hi hn => (k.block i (Nat.lt_of_lt_of_le hi h.size) hn).trans (h.block i hi hn)⟩
theorem Only.below {B : Nat} {w w' : World} (h : Below w.heap.size w w') : Only B w w' := ⟨h.os, h.tape, h.output, h.size, fun k hk _ => h.block k hk⟩
theorem Only.alloc {B : Nat} {a w : World} (h : Only B a w) (o : Obj) : Only B a (w.alloc o) := h.trans (Only.below ((Below.refl _ w).alloc (Nat.le_refl _) o))
theorem Only.setCell {B : Nat} {a w : World} (h : Only B a w) {p : Addr} (hp : p.block = B) (u : Value) : Only B a (w.setCell p u) :=
  h.trans ⟨((Below.refl 0 w).setCell (Nat.zero_le _) u).os, ((Below.refl 0 w).setCell (Nat.zero_le _) u).tape, ((Below.refl 0 w).setCell (Nat.zero_le _) u).output, ((Below.refl 0 w).setCell (Nat.zero_le _) u).size, fun k _ hn => Below.heap_setCell w p u k (by rw [hp]; exact hn)⟩
theorem Only.old {B B0 : Nat} {w w' : World} (h : Only B w w') (h0 : B0 ≤ B) (h1 : B0 ≤ w.heap.size) : Below B0 w w' := ⟨h.os, h.tape, h.output, h.size, fun k hk => h.block k (by omega) (by omega)⟩
theorem Blk.only {B : Nat} {w w' : World} {b : Nat} {cs : Array Value} {t : TypeId} (h : Blk w b cs t) (ho : Only B w w') (hb : b ≠ B) : Blk w' b cs t := (ho.block b h.lt hb).trans h

/-- What the walk holds. -/
structure Wk where
  n : Int
  dep : Int
  bad : Int
def Wk.cells (s : Wk) : Array Value := #[.int .i64 s.n, .int .i64 s.dep, .int .i64 s.bad]
def Wk.ok (s : Wk) : Prop := 0 ≤ s.n ∧ s.n ≤ 4096 ∧ 0 ≤ s.dep ∧ s.dep ≤ 64
/-- One node is met at a depth. -/
def nodeW (d : Int) (s : Wk) : Wk := if s.bad ≠ 0 then s else if s.n = 4096 then ⟨s.n, s.dep, 33⟩ else if 64 < d then ⟨s.n, s.dep, 32⟩ else ⟨s.n + 1, max s.dep d, 0⟩
theorem nodeW_ok {d : Int} {s : Wk} (h : s.ok) (_hd : 0 ≤ d) : (nodeW d s).ok := by
  unfold nodeW Wk.ok at *
  split
  · exact h
  · split
    · exact h
    · split
      · exact h
      · simp only; omega

theorem wnode_any (s : Wk) (d : Int) (B : Nat) (w : World) (hs : s.ok) (_hd : 0 ≤ d ∧ d ≤ 100) (hB : Blk w B s.cells 128) :
    Calls Tryz.prog 108 #[.pointer (some ⟨B, 0, none⟩), .int .i64 d] w fun e w' => e = .returned (.bool (decide ((nodeW d s).bad = 0))) ∧ Blk w' B (nodeW d s).cells 128 ∧ Only B w w' := by
  obtain ⟨n, dep, bad⟩ := s
  unfold Wk.ok at hs
  simp only at hs
  obtain ⟨h1, h2, h3, h4⟩ := hs
  have c0 : w.cell? ⟨B, 0, none⟩ = some (.int .i64 n) := hB.cell 0
  have c1 : w.cell? ⟨B, 1, none⟩ = some (.int .i64 dep) := hB.cell 1
  have c2 : w.cell? ⟨B, 2, none⟩ = some (.int .i64 bad) := hB.cell 2
  have f0 := hB.free 0
  have f1 := hB.free 1
  have f2 := hB.free 2
  have HB := Lib.hid hB; clear hB
  by_cases hbad : bad = 0
  · subst hbad
    by_cases hn : n = 4096
    · subst hn
      go_enter Tryz.func108, Tryz.ntmps108
      go_wp2
      go_ret
      exact ⟨rfl, HB.out.set 2 (.int .i64 33), (Only.refl B w).setCell (by rfl) _⟩
    · have hn2 : (n == 4096) = false := by simpa using hn
      by_cases h64 : 64 < d
      · have e : nodeW d ⟨n, dep, 0⟩ = ⟨n, dep, 32⟩ := by unfold nodeW; simp [hn, h64]
        rw [e]
        clear e
        go_enter Tryz.func108, Tryz.ntmps108
        go_wp2
        go_ret
        exact ⟨rfl, HB.out.set 2 (.int .i64 32), (Only.refl B w).setCell (by rfl) _⟩
      · have e : nodeW d ⟨n, dep, 0⟩ = ⟨n + 1, max dep d, 0⟩ := by unfold nodeW; simp [hn, h64]
        rw [e]
        clear e
        by_cases hm : d ≤ dep
        · have e2 : max dep d = dep := by omega
          rw [e2]
          clear e2
          go_enter Tryz.func108, Tryz.ntmps108
          go_wp2
          go_ret
          exact ⟨rfl, (HB.out.set 0 (.int .i64 (n + 1))).set 1 (.int .i64 dep), ((Only.refl B w).setCell (by rfl) _).setCell (by rfl) _⟩
        · have e2 : max dep d = d := by omega
          rw [e2]
          clear e2
          go_enter Tryz.func108, Tryz.ntmps108
          go_wp2
          go_ret
          exact ⟨rfl, (HB.out.set 0 (.int .i64 (n + 1))).set 1 (.int .i64 d), ((Only.refl B w).setCell (by rfl) _).setCell (by rfl) _⟩
  · have hb2 : (bad != 0) = true := by simpa using hbad
    have e : nodeW d ⟨n, dep, bad⟩ = ⟨n, dep, bad⟩ := by unfold nodeW; simp [hbad]
    rw [e]
    clear e
    have e2 : decide (bad = 0) = false := by simpa using hbad
    simp only [e2]
    clear e2
    go_enter Tryz.func108, Tryz.ntmps108
    go_wp2
    go_ret
    exact ⟨rfl, HB.out, Only.refl B w⟩

/-- A node's parts, in the nodes' order. -/
def Nd.kids : Nd → List Nd
  | .mk .E _ _ _ xs _ _ _ => xs
  | .mk .C _ _ _ xs cs _ _ => xs ++ cs
  | .mk .S _ _ _ xs cs ts es => cs ++ xs ++ ts ++ es
  | .mk .D _ _ _ _ _ _ _ => []
def Nd.xs : Nd → List Nd | .mk _ _ _ _ xs _ _ _ => xs
def Nd.cs : Nd → List Nd | .mk _ _ _ _ _ cs _ _ => cs
def Nd.ts : Nd → List Nd | .mk _ _ _ _ _ _ ts _ => ts
def Nd.es : Nd → List Nd | .mk _ _ _ _ _ _ _ es => es
mutual
/-- What the document's walk makes of a node, and of nodes in a row. -/
def walkN : Nd → Int → Wk → Wk
  | .mk ty _ _ _ xs cs ts es, d, s =>
    if (nodeW d s).bad ≠ 0 then nodeW d s else match ty with
      | .E => walkL xs (d + 1) (nodeW d s)
      | .C => walkL cs (d + 1) (walkL xs (d + 1) (nodeW d s))
      | .S => walkL es (d + 1) (walkL ts (d + 1) (walkL xs (d + 1) (walkL cs (d + 1) (nodeW d s))))
      | .D => nodeW d s
def walkL : List Nd → Int → Wk → Wk
  | [], _, s => s
  | x :: r, d, s => walkL r d (walkN x d s)
end
theorem nodeW_bad {d : Int} {s : Wk} (h : s.bad ≠ 0) : nodeW d s = s := by unfold nodeW; rw [if_pos h]
theorem walkN_bad {x : Nd} {d : Int} {s : Wk} (h : s.bad ≠ 0) : walkN x d s = s := by
  obtain ⟨ty, k, n, nm, xs, cs, ts, es⟩ := x
  unfold walkN
  rw [nodeW_bad h, if_pos h]
theorem walkL_bad : ∀ (l : List Nd) (d : Int) (s : Wk), s.bad ≠ 0 → walkL l d s = s
  | [], _, _, _ => by unfold walkL; rfl
  | x :: r, d, s, h => by unfold walkL; rw [walkN_bad h]; exact walkL_bad r d s h
theorem walkL_snoc : ∀ (l : List Nd) (x : Nd) (d : Int) (s : Wk), walkL (l ++ [x]) d s = walkN x d (walkL l d s)
  | [], x, d, s => by unfold walkL walkL walkL; rfl
  | y :: r, x, d, s => by
    rw [List.cons_append, walkL, walkL]
    exact walkL_snoc r x d _
theorem walkL_app : ∀ (l m : List Nd) (d : Int) (s : Wk), walkL (l ++ m) d s = walkL m d (walkL l d s)
  | [], m, d, s => by rw [List.nil_append, walkL]
  | y :: r, m, d, s => by
    rw [List.cons_append, walkL, walkL]
    exact walkL_app r m d _
mutual
theorem walkN_ok : ∀ (x : Nd) (d : Int) (s : Wk), s.ok → 0 ≤ d → (walkN x d s).ok
  | .mk ty k n nm xs cs ts es, d, s, h, hd => by
    have h0 := nodeW_ok (d := d) h hd
    unfold walkN
    split
    · exact h0
    · split
      · exact walkL_ok xs _ _ h0 (by omega)
      · exact walkL_ok cs _ _ (walkL_ok xs _ _ h0 (by omega)) (by omega)
      · exact walkL_ok es _ _ (walkL_ok ts _ _ (walkL_ok xs _ _ (walkL_ok cs _ _ h0 (by omega)) (by omega)) (by omega)) (by omega)
      · exact h0
theorem walkL_ok : ∀ (l : List Nd) (d : Int) (s : Wk), s.ok → 0 ≤ d → (walkL l d s).ok
  | [], d, s, h, _ => by unfold walkL; exact h
  | x :: r, d, s, h, hd => by unfold walkL; exact walkL_ok r d _ (walkN_ok x d s h hd) hd
end
theorem nodeW_deep {d : Int} {s : Wk} (h : (nodeW d s).bad = 0) : d ≤ 64 := by
  unfold nodeW at h
  split at h
  · rename_i h1; exact absurd h h1
  · split at h
    · simp at h
    · split at h
      · simp at h
      · omega
theorem walkL_take {l : List Nd} {i : Nat} (h : i < l.length) (d : Int) (s : Wk) : walkL (l.take (i + 1)) d s = walkN l[i] d (walkL (l.take i) d s) := by
  rw [List.take_succ_eq_append_getElem h, walkL_snoc]
/-- A walk that has ended with an error stays. -/
theorem walkL_stop {l : List Nd} {i : Nat} {d : Int} {s : Wk} (h : (walkL (l.take i) d s).bad ≠ 0) : walkL l d s = walkL (l.take i) d s := by
  have e := walkL_app (l.take i) (l.drop i) d s
  rw [List.take_append_drop] at e
  rw [e, walkL_bad _ _ _ h]
end Go.Proofs.YtbhbmoppipohjaaGreatDoor

/-
  The document's walk over an expression (gnomonref3's walk.expr), by induction on the tree: proved is what it leaves in the walk's cells, and that nothing else that lay is turned.
-/
namespace Go.Proofs.YtbhbmoppipohjaaGreatDoor
open Go Go.RowKit

/-- What a walk over a node has left. -/
def WalkedTo (w : World) (B : Nat) (s : Wk) (e : Ending) (w' : World) : Prop := e = .returned (.tuple #[]) ∧ Blk w' B s.cells 128 ∧ Only B w w'
theorem Nd.mem_size {x y : Nd} (h : y ∈ x.xs ∨ y ∈ x.cs ∨ y ∈ x.ts ∨ y ∈ x.es) : SizeOf.sizeOf y < SizeOf.sizeOf x := by
  obtain ⟨ty, k, n, nm, xs, cs, ts, es⟩ := x
  simp only [Nd.xs, Nd.cs, Nd.ts, Nd.es] at h
  simp only [Nd.mk.sizeOf_spec]
  rcases h with h | h | h | h <;> (have := List.sizeOf_lt_of_mem h; omega)
/-- Item i of a list in memory, spelled for the walk. -/
theorem SlIn.item4 {w : World} {ty : Ty} {l : List Nd} {b o : Nat} (hz : ty.size = 4) (h : RowIn w ty l b o) (i : Nat) (hi : i < l.length) : (l[i]).ty = ty ∧ ∃ v0 v1 v2 v3, w.cell? ⟨b, o + i * 4, none⟩ = some v0 ∧ w.cell? ⟨b, o + i * 4 + 1, none⟩ = some v1 ∧ w.cell? ⟨b, o + i * 4 + 2, none⟩ = some v2 ∧ w.cell? ⟨b, o + i * 4 + 3, none⟩ = some v3 ∧ NdIn w l[i] [v0, v1, v2, v3] := by
  obtain ⟨h1, vs, h2, h3⟩ := RowIn.at l b o i hi h
  have hl := h3.len
  rw [h1, hz] at hl
  obtain ⟨v0, v1, v2, v3, rfl⟩ := len4 hl
  rw [hz] at h2
  exact ⟨h1, v0, v1, v2, v3, h2 0 _ rfl, h2 1 _ rfl, h2 2 _ rfl, h2 3 _ rfl, h3⟩

set_option maxRecDepth 100000 in
set_option maxHeartbeats 4000000 in
theorem wexpr_any (w0 : World) (B : Nat) (hB0 : w0.heap.size ≤ B) : ∀ (N : Nat) (x : Nd) (v0 v1 v2 v3 : Value) (d : Int) (s : Wk) (w : World), SizeOf.sizeOf x ≤ N → x.ty = .E → NdIn w0 x [v0, v1, v2, v3] → Below w0.heap.size w0 w → s.ok → 0 ≤ d → d ≤ 100 → Blk w B s.cells 128 →
    Calls Tryz.prog 135 #[.pointer (some ⟨B, 0, none⟩), .agg #[v0, v1, v2, v3], .int .i64 d] w (WalkedTo w B (walkN x d s)) := by
  intro N
  induction N with
  | zero =>
    intro x v0 v1 v2 v3 d s w hN
    obtain ⟨ty, k, n, nm, xs, cs, ts, es⟩ := x
    simp only [Nd.mk.sizeOf_spec] at hN
    omega
  | succ N ih =>
    intro x v0 v1 v2 v3 d s w hN hty hin hw hs hd0 hd1 hB
    have hlt := hB.lt
    have hmem := fun y (h : y ∈ x.xs) => Nd.mem_size (x := x) (y := y) (.inl h)
    obtain ⟨ty, k, n, nm, xs, cs, ts, es⟩ := x
    simp only [Nd.ty] at hty
    subst hty
    simp only [Nd.xs] at hmem
    unfold NdIn at hin
    obtain ⟨⟨rfl, rfl, rfl⟩, _, _, _, vx, vc, vt, ve, hvs, hx, _, _, _⟩ := hin
    simp only [lay, List.cons.injEq, and_true] at hvs
    obtain ⟨rfl, rfl, rfl, rfl⟩ := hvs
    obtain ⟨a, c, rfl, hlc, hcm, hrow⟩ := hx
    have hwk : walkN (.mk .E k n nm xs [] [] []) d s = if (nodeW d s).bad ≠ 0 then nodeW d s else walkL xs (d + 1) (nodeW d s) := by unfold walkN; rfl
    rw [hwk]
    clear hwk
    have h1ok := nodeW_ok hs hd0
    have hdeep := nodeW_deep (d := d) (s := s)
    have hnode := fun w hB => wnode_any s d B w hs ⟨hd0, hd1⟩ hB
    obtain ⟨S1, hS1⟩ : ∃ S1, nodeW d s = S1 := ⟨_, rfl⟩
    rw [hS1] at h1ok hdeep hnode ⊢
    clear hS1
    have HIH := Lib.hid (fun (i : Nat) (hi : i < xs.length) v0 v1 v2 v3 d s w => ih xs[i] v0 v1 v2 v3 d s w (by have := hmem _ (List.getElem_mem hi); omega))
    clear ih hmem
    have HB := Lib.hid hB; clear hB
    have HROW := Lib.hid hrow; clear hrow
    by_cases hbad : S1.bad = 0
    · rw [if_neg (by simpa using hbad)]
      have hd64 := hdeep hbad
      simp only [hbad, decide_true] at hnode
      clear hdeep
      have HN := Lib.hid hnode; clear hnode
      go_enter Tryz.func135, Tryz.ntmps135
      go_wp2_with (first | (go_at_call 108; (with_reducible refine (HN.out _ (HB.out.alloc _)).mono ?_); rintro e w1 ⟨rfl, hB1, ho1⟩) | fail)
      have hE1 := (Blk.new w #[.int .i64 k, .int .i64 n, .string nm, .slice a xs.length c] 140).only ho1 (by omega)
      have hO1 := (Only.refl B w).alloc (.cells #[.int .i64 k, .int .i64 n, .string nm, .slice a xs.length c] 140) |>.trans ho1
      clear ho1
      have HB1 := Lib.hid hB1; clear hB1
      have HE1 := Lib.hid hE1; clear hE1
      have HO1 := Lib.hid hO1; clear hO1
      have hne : w.heap.size ≠ B := by omega
      go_loopw [6] (fun x wr => ∃ i : Nat, x = .int .i64 i ∧ i ≤ xs.length ∧ Blk wr B (walkL (xs.take i) (d + 1) S1).cells 128 ∧ Blk wr w.heap.size #[.int .i64 k, .int .i64 n, .string nm, .slice a xs.length c] 140 ∧ Only B w wr) (fun x _ => xs.length - (intOf x).toNat)
      case atStart => exact ⟨0, rfl, by omega, by rw [List.take_zero, walkL]; exact HB1.out, HE1.out, HO1.out⟩
      case round =>
        obtain ⟨i, rfl, hi, hBr, hEr, hOr⟩ := hrel
        clear HB1 HE1 HO1 HN
        have e3 : wr.cell? ⟨w.heap.size, 3, none⟩ = some (.slice a xs.length c) := hEr.cell 3
        have b2 : wr.cell? ⟨B, 2, none⟩ = some (.int .i64 (walkL (xs.take i) (d + 1) S1).bad) := hBr.cell 2
        have hsok := walkL_ok (xs.take i) (d + 1) S1 h1ok (by omega)
        have hstop := walkL_stop (l := xs) (i := i) (d := d + 1) (s := S1)
        have htk := fun h => walkL_take (l := xs) (i := i) h (d + 1) S1
        have HE := Lib.hid hEr; clear hEr
        have HO := Lib.hid hOr; clear hOr
        by_cases hlt2 : i < xs.length
        · have hbi : (i : Int) + 1 ≤ 9223372036854775807 := by unfold maxLen at hcm; omega
          obtain ⟨S, hS⟩ : ∃ S, walkL (xs.take i) (d + 1) S1 = S := ⟨_, rfl⟩
          rw [hS] at hBr b2 hsok hstop htk
          clear hS
          have HBr := Lib.hid hBr; clear hBr
          have hxl : ¬ xs.length = 0 := by omega
          obtain ⟨b, o, rfl, hrow⟩ := HROW.out.resolve_left hxl
          by_cases hb : S.bad = 0
          · rw [hb] at b2
            have hold : Below w0.heap.size w0 wr := hw.trans (HO.out.old hB0 hw.size)
            obtain ⟨hty, u0, u1, u2, u3, m0, m1, m2, m3, hnd⟩ := SlIn.item4 rfl hrow i hlt2
            have kk := keeps_below hold
            have k0 := kk _ _ _ m0
            have k1 := kk _ _ _ m1
            have k2 := kk _ _ _ m2
            have k3 := kk _ _ _ m3
            have HC := Lib.hid (HIH.out i hlt2 u0 u1 u2 u3 (d + 1) S wr hty hnd hold hsok (by omega) (by omega) HBr.out)
            have HTK := Lib.hid (htk hlt2)
            clear m0 m1 m2 m3 hnd hty hold kk hstop htk hrow
            go_wp2_with fail
            refine HC.out.mono ?_
            rintro e w2 ⟨rfl, hB2, hO2⟩
            rw [← HTK.out] at hB2
            have hE2 := HE.out.only hO2 hne
            have hO3 := HO.out.trans hO2
            have HB2 := Lib.hid hB2; clear hB2
            have HE2 := Lib.hid hE2; clear hE2
            clear hO2
            have HO3 := Lib.hid hO3; clear hO3
            go_wp2
            go_roundw
            case rel => exact ⟨i + 1, by go_num, by omega, HB2.out, HE2.out, HO3.out⟩
            case measure => simp [intOf]; omega
          · have hb2 : (S.bad == 0) = false := by simpa using hb
            have HST := Lib.hid (hstop hb)
            clear hstop htk
            go_wp2
            go_end0
            exact ⟨rfl, by rw [HST.out]; exact HBr.out, HO.out⟩
        · obtain rfl : i = xs.length := by omega
          rw [List.take_length] at hBr
          have HBr := Lib.hid hBr; clear hBr
          clear hstop htk b2 hsok
          go_wp2
          go_end0
          exact ⟨rfl, HBr.out, HO.out⟩
    · rw [if_pos hbad]
      have hf : decide (S1.bad = 0) = false := by simpa using hbad
      simp only [hf] at hnode
      clear hdeep hf
      have HN := Lib.hid hnode; clear hnode
      go_enter Tryz.func135, Tryz.ntmps135
      go_wp2_with (first | (go_at_call 108; (with_reducible refine (HN.out _ (HB.out.alloc _)).mono ?_); rintro e w1 ⟨rfl, hB1, ho1⟩) | fail)
      go_end0
      exact ⟨rfl, hB1, (Only.refl B w).alloc _ |>.trans ho1⟩
end Go.Proofs.YtbhbmoppipohjaaGreatDoor
