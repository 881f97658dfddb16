/-
  A region that draws its order, by an invariant: one step for each operation, whatever has come up before it. And trees beside a block that holds slices alone.
-/
import Derived.Test.YtbodbbdofoeclaaQLoopsP
import Derived.Test.YtbodbbdofoeclaaQDoesW
import Derived.RegionTactic
/-
  Plain: the second part of && and || is asked just where it must be.
-/
namespace Go.Proofs.Ytbodbbdofoeclaa
open Go Go.RowKit Go.Maps

def sh1 (a b : Int) : Nd := cmpC 1 (numE a) (numE b)
def sh2 : Nd := cmpC 3 (twoE 9 (numE 1) (varE xS)) (numE 0)
def shK (r : Bool) : Int := if r then 6 else 5
def shA (a b : Int) (r : Bool) : Nd := .mk .C (shK r) 0 e0 [] [sh1 a b, sh2] [] []
def shNot (c : Nd) : Nd := .mk .C 4 0 e0 [] [c] [] []
def shC (a b : Int) (r n : Bool) : Nd := if n then shNot (shA a b r) else shA a b r
def ifS (c : Nd) (ts es : List Nd) : Nd := .mk .S 3 0 e0 [] [c] ts es
def shT : List Nd := [giveS xS (numE 1)]
def shE : List Nd := [giveS xS (numE 2)]
def shS (a b : Int) (r n : Bool) : List Nd := [ifS (shC a b r n) shT shE]
def shFin (a b : Int) (r n : Bool) : Int × Int × Rn := if (decide (a < b) != r) = true then (3, 2, ⟨[0], [], [], 2, []⟩) else (2, 0, ⟨[if (r != n) = true then 1 else 2], [], [], 2, []⟩)
theorem sh_first (a b : Int) : hldN ⟨plW [oneD], 10⟩ (sh1 a b) ⟨[0], [], [], 0, []⟩ = .go (decide (a < b)) ⟨[0], [], [], 1, []⟩ := by
  show (valN _ (numE a) _).bind (fun x s => (valN _ (numE b) s).bind fun y s => (stepR _ s).bind fun _ s => .go (cmpB 1 x y) s) = _
  rw [val_num, bind_go, val_num, bind_go, step_yes 10 0 0 (by decide), bind_go]
  rfl
theorem sh_second : hldN ⟨plW [oneD], 10⟩ sh2 ⟨[0], [], [], 1, []⟩ = .stop 3 2 ⟨[0], [], [], 2, []⟩ := by
  have e : ∀ (E : Rv) (s : Rn), hldN E sh2 s = (valN E (twoE 9 (numE 1) (varE xS)) s).bind fun x s => (valN E (numE 0) s).bind fun y s => (stepR E s).bind fun _ s => .go (cmpB 3 x y) s := by
    intro E s
    unfold sh2 cmpC hldN hldK
    rw [if_neg (by decide), if_neg (by decide), if_neg (by decide), if_pos rfl]
    rfl
  rw [e, val_two _ 9 (by decide), val_num, bind_go, val_x, bind_go]
  have hd : doK ⟨plW [oneD], 10⟩ 9 1 0 ⟨[0], [], [], 1, []⟩ = .stop 3 2 ⟨[0], [], [], 2, []⟩ := by
    unfold doK
    rw [step_yes 10 1 0 (by decide)]
    rfl
  rw [hd]
  rfl
theorem sh_both (a b : Int) (r : Bool) : hldN ⟨plW [oneD], 10⟩ (shA a b r) ⟨[0], [], [], 0, []⟩ = if (decide (a < b) != r) = true then .stop 3 2 ⟨[0], [], [], 2, []⟩ else .go r ⟨[0], [], [], 1, []⟩ := by
  cases r
  · show (hldN _ (sh1 a b) _).bind (fun b s => if b then hldN _ sh2 s else .go false s) = _
    rw [sh_first, bind_go]
    cases decide (a < b)
    · rfl
    · simp only [if_true]
      rw [sh_second]
      rfl
  · show (hldN _ (sh1 a b) _).bind (fun b s => if b then .go true s else hldN _ sh2 s) = _
    rw [sh_first, bind_go]
    cases decide (a < b)
    · simp only [Bool.false_eq_true, if_false]
      rw [sh_second]
      rfl
    · rfl
theorem sh_all (a b : Int) (r n : Bool) : hldN ⟨plW [oneD], 10⟩ (shC a b r n) ⟨[0], [], [], 0, []⟩ = if (decide (a < b) != r) = true then .stop 3 2 ⟨[0], [], [], 2, []⟩ else .go (r != n) ⟨[0], [], [], 1, []⟩ := by
  cases n
  · rw [show shC a b r false = shA a b r from rfl, sh_both]
    cases r <;> rfl
  · show (hldN _ (shA a b r) _).bind (fun b s => .go (!b) s) = _
    rw [sh_both]
    split
    · rfl
    · cases r <;> rfl
theorem sh_give (v : Int) : stL ⟨plW [oneD], 10⟩ [giveS xS (numE v)] ⟨[0], [], [], 1, []⟩ = .go () ⟨[v], [], [], 2, []⟩ := by
  rw [stL_one, st_give]
  unfold asgR
  rw [val_num, bar_num, bind_go]
  simp only [if_true]
  rw [step_yes 10 1 0 (by decide), bind_go, putV_x]
  rfl
theorem sh_runO (a b : Int) (r n : Bool) : runO [oneD] (shS a b r n) [] 10 = shFin a b r n := by
  have hs : runS [oneD] [] = ⟨[0], [], [], 0, []⟩ := by kernel_rfl
  unfold runO
  rw [hs]
  unfold shS
  rw [stL_one]
  show outR ((hldN ⟨plW [oneD], 10⟩ (shC a b r n) _).bind fun b s => if b then stL _ shT s else stL _ shE s) = _
  rw [sh_all]
  unfold shFin
  split
  · rfl
  · rw [bind_go]
    cases hc : (r != n)
    · simp only [Bool.false_eq_true, if_false]
      unfold shE
      rw [show Int.toNat 10 = 10 from rfl, sh_give]
      rfl
    · simp only [if_true]
      unfold shT
      rw [show Int.toNat 10 = 10 from rfl, sh_give]
      rfl
def shM (a b : Int) (r n : Bool) : List Nd := (if n then [shC a b r n] else []) ++ [shA a b r, sh1 a b]
theorem sh_list (a b : Int) (r n : Bool) : allL ([oneD] ++ shS a b r n) = [oneD, ifS (shC a b r n) shT shE] ++ (shM a b r n ++ (numL a ++ (numL b ++ [sh2, twoE 9 (numE 1) (varE xS), numE 1, varE xS, numE 0, giveS xS (numE 1), numE 1, giveS xS (numE 2), numE 2]))) := by
  rw [← all_num, ← all_num]
  cases n <;> simp [shS, shC, shNot, shA, sh1, sh2, shT, shE, shM, ifS, cmpC, twoE, varE, kE, numE, giveS, allN, allL, oneD]
theorem sh_uses (a b : Int) (r n : Bool) : usesL (shS a b r n) = [(xS, false), (xS, false), (xS, false)] := by
  have h0 : usesN (numE 0) = [] := uses_num 0
  cases n <;> cases r <;> simp [shS, shC, shNot, shA, sh1, sh2, shK, shT, shE, ifS, cmpC, twoE, varE, kE, giveS, usesN, usesL, headU, uses_num]
theorem num_or (n : Int) : numE n = kE 5 0 e0 [kE 1 (-n) e0 []] ∨ numE n = kE 1 n e0 [] := by unfold numE; split; exact .inl rfl; exact .inr rfl
theorem sh_lim (a b : Int) (r n : Bool) : (progT [oneD] (shS a b r n)).lim = 0 := by
  unfold shS shC shNot shA sh1
  rcases num_or a with ha | ha <;> rcases num_or b with hb | hb <;> rw [ha, hb] <;> cases n <;> cases r <;> kernel_rfl
theorem sh_runF (a b : Int) (r n : Bool) : runF [oneD] (shS a b r n) [] 10 = 0 := by
  refine runF_of (well_of (fault_of (sh_lim a b r n) ?_) (by decide +kernel) ?_) (by omega) (by simp)
  · rw [sh_list]
    intro y hy
    rcases List.mem_append.1 hy with hy | hy
    · simp only [List.mem_cons, List.not_mem_nil, or_false] at hy
      rcases hy with rfl | rfl
      · exact ⟨by decide +kernel, by decide +kernel⟩
      · exact ⟨by show wellS 3 e0 0 1 1 1 = true; decide +kernel, by kernel_rfl⟩
    · rcases List.mem_append.1 hy with hy | hy
      · unfold shM at hy
        rcases List.mem_append.1 hy with hy | hy
        · cases n
          · cases hy
          · simp only [if_true, List.mem_cons, List.not_mem_nil, or_false] at hy
            subst hy
            exact ⟨by show wellC 4 0 0 1 = true; decide +kernel, by kernel_rfl⟩
        · simp only [List.mem_cons, List.not_mem_nil, or_false] at hy
          rcases hy with rfl | rfl
          · cases r
            · exact ⟨by show wellC 5 0 0 2 = true; decide +kernel, by kernel_rfl⟩
            · exact ⟨by show wellC 6 0 0 2 = true; decide +kernel, by kernel_rfl⟩
          · exact ⟨by show wellC 3 1 2 0 = true; decide +kernel, by kernel_rfl⟩
      · rcases List.mem_append.1 hy with hy | hy
        · exact num_good a y hy
        · rcases List.mem_append.1 hy with hy | hy
          · exact num_good b y hy
          · simp only [List.mem_cons, List.not_mem_nil, or_false] at hy
            rcases hy with rfl | rfl | rfl | rfl | rfl | rfl | rfl | rfl | rfl <;> exact ⟨by decide +kernel, by decide +kernel⟩
  · rw [sh_uses]
    decide +kernel
end Go.Proofs.Ytbodbbdofoeclaa

/-
  A region that draws its order, by an invariant: one step for each operation, whatever has come up before it. And trees beside a block that holds slices alone.
-/
namespace Go.Proofs.Ytbodbbdofoeclaa
open Go Go.RowKit Go.Maps

theorem count_set {l : List Bool} {i : Nat} (h : l[i]? = some false) : (l.set i true).count false + 1 = l.count false := by
  induction l generalizing i with
  | nil => cases h
  | cons x r ih =>
    cases i with
    | zero => simp at h; subst h; simp
    | succ i =>
      have := ih (i := i) (by simpa using h)
      simp only [List.set_cons_succ, List.count_cons]
      omega
/-- What each operation keeps, whatever has come up before, holds when all have come up. -/
theorem wpAny_inv {P : Program} {ops : Array Oper} {Q : Exit → Act → World → Prop} {md : Region.Mode} (I : Array Bool → Act → World → Prop)
    (hs : ∀ l a w, I l a w → ∀ i o, ops[i]? = some o → l.getD i true = false → (∀ e ∈ o.after, Region.binds md e = true → l.getD e.on false = true) → wpOp P ops Q i (fun a' w' => I (l.setIfInBounds i true) a' w') a w)
    (hd : ∀ l a w, I l a w → Region.ready md ops l = [] → Q .normal a w) : ∀ n l a w, l.toList.count false ≤ n → I l a w → wpAny P md ops Q n l a w
  | 0, l, a, w, hn, hI => by
    have hr : Region.ready md ops l = [] := by
      refine List.eq_nil_iff_forall_not_mem.2 fun i hi => ?_
      obtain ⟨h0, -⟩ := mem_ready.1 hi
      have hm : false ∈ l.toList := by
        have hlt : i < l.size := by
          rcases Nat.lt_or_ge i l.size with h' | h'
          · exact h'
          · simp [Array.getElem?_eq_none h'] at h0
        have : l[i] = false := by simpa [hlt] using h0
        rw [← this]
        simp
      have := List.count_pos_iff.2 hm
      omega
    exact ⟨hr, hd l a w hI hr⟩
  | n + 1, l, a, w, hn, hI => by
    refine ⟨hd l a w hI, fun i hi => ?_⟩
    obtain ⟨h0, o, ho, hall⟩ := mem_ready.1 hi
    refine wpOp_mono (fun a' w' h => wpAny_inv I hs hd n _ a' w' ?_ h) (hs l a w hI i o ho h0 hall)
    have hlt : i < l.size := by
      rcases Nat.lt_or_ge i l.size with h' | h'
      · exact h'
      · simp [Array.getElem?_eq_none h'] at h0
    have h1 : l.toList[i]? = some false := by
      have : l[i] = false := by simpa [hlt] using h0
      simp [hlt, this]
    have := count_set h1
    rw [Array.toList_setIfInBounds]
    omega

/-- Where each operation waits for earlier ones alone: when none may come up, all have come up. -/
theorem all_listed {md : Region.Mode} {ops : Array Oper} (hord : ((List.range ops.size).all fun j => ((ops[j]?).map (fun o => o.after.all fun e => decide (e.on < j))).getD true) = true) (l : Array Bool) (hr : Region.ready md ops l = []) (hl : l.size = ops.size) : ∀ j, j < ops.size → l.getD j false = true := by
  intro j
  induction j using Nat.strongRecOn with
  | ind j ih =>
    intro hj
    cases hv : l.getD j false with
    | true => rfl
    | false =>
      exfalso
      have hlt : j < l.size := by omega
      have h0 : l.getD j true = false := by
        simp [hlt] at hv ⊢
        exact hv
      have ho : ops[j]? = some ops[j] := Array.getElem?_eq_getElem hj
      have hm : j ∈ Region.ready md ops l := mem_ready.2 ⟨h0, _, ho, fun e he _ => by
        have h1 := List.all_eq_true.1 hord j (List.mem_range.2 hj)
        rw [ho] at h1
        simp only [Option.map_some, Option.getD_some] at h1
        have h2 := Array.all_eq_true_iff_forall_mem.1 h1 e he
        have h3 : e.on < j := by simpa using h2
        exact ih e.on h3 (by omega)⟩
      rw [hr] at hm
      cases hm

/-- Block q holds slices alone. -/
def Slices (w : World) (q : Nat) : Prop := ∀ o u, w.cell? ⟨q, o, none⟩ = some u → ∃ a l c, u = .slice a l c
/-- All that lies beside block q is kept. -/
def Aside (q : Nat) (w w' : World) : Prop := ∀ b o u, b ≠ q → w.cell? ⟨b, o, none⟩ = some u → w'.cell? ⟨b, o, none⟩ = some u
theorem NdIn.head {w : World} {x : Nd} {vs : List Value} (h : NdIn w x vs) : ∃ u, vs[0]? = some u ∧ ∀ a l c, u ≠ .slice a l c := by
  cases x with
  | mk ty k n s xs cs ts es =>
    unfold NdIn at h
    obtain ⟨-, -, -, -, vx, vc, vt, ve, rfl, -⟩ := h
    cases ty <;> exact ⟨_, rfl, fun _ _ _ h => by cases h⟩
mutual
theorem NdIn.aside {q : Nat} {w w' : World} (hs : Slices w q) (hk : Aside q w w') : ∀ (x : Nd) (vs : List Value), NdIn w x vs → NdIn w' x vs
  | .mk ty k n s xs cs ts es, vs, h => by
    unfold NdIn at h ⊢
    obtain ⟨h1, h2, h3, h4, vx, vc, vt, ve, h5, hx, hc, ht, he⟩ := h
    exact ⟨h1, h2, h3, h4, vx, vc, vt, ve, h5, hx.mono (fun b o => RowIn.aside hs hk .E xs b o), hc.mono (fun b o => RowIn.aside hs hk .C cs b o), ht.mono (fun b o => RowIn.aside hs hk .S ts b o), he.mono (fun b o => RowIn.aside hs hk .S es b o)⟩
theorem RowIn.aside {q : Nat} {w w' : World} (hs : Slices w q) (hk : Aside q w w') : ∀ (ty : Ty) (l : List Nd) (b o : Nat), RowIn w ty l b o → RowIn w' ty l b o
  | _, [], _, _, _ => by unfold RowIn; trivial
  | ty, x :: r, b, o, h => by
    unfold RowIn at h ⊢
    obtain ⟨⟨h1, vs, h2, h3⟩, h4⟩ := h
    have hb : b ≠ q := by
      rintro rfl
      obtain ⟨u, hu, hn⟩ := NdIn.head h3
      obtain ⟨a, l, c, rfl⟩ := hs _ _ (h2 0 u hu)
      exact hn a l c rfl
    exact ⟨⟨h1, vs, fun j u hj => hk _ _ _ hb (h2 j u hj), NdIn.aside hs hk x vs h3⟩, RowIn.aside hs hk ty r b (o + ty.size) h4⟩
end
theorem SlIn.aside {q : Nat} {w w' : World} {ty : Ty} {l : List Nd} {v : Value} (h : SlIn w ty l v) (hs : Slices w q) (hk : Aside q w w') : SlIn w' ty l v := SlOf.mono h (fun b o => RowIn.aside hs hk ty l b o)

def EIn (w : World) (x : Nd) (v : Value) : Prop := ∃ (k n : Int) (s : ByteArray) (a : Option Addr) (l c : Nat), v = .agg #[.int .i64 k, .int .i64 n, .string s, .slice a l c] ∧ NdIn w x [.int .i64 k, .int .i64 n, .string s, .slice a l c]
def SIn (w : World) (x : Nd) (v : Value) : Prop := ∃ (k : Int) (s : ByteArray) (a : Option Addr) (l c : Nat), v = .agg #[.int .i64 k, .string s, .slice a l c, .slice none 0 0, .slice none 0 0, .slice none 0 0] ∧ NdIn w x [.int .i64 k, .string s, .slice a l c, .slice none 0 0, .slice none 0 0, .slice none 0 0]
theorem EIn.keep {w w' : World} {x : Nd} {v : Value} (h : EIn w x v) (hk : Keeps w w') : EIn w' x v := by
  obtain ⟨k, n, s, a, l, c, h1, h2⟩ := h
  exact ⟨k, n, s, a, l, c, h1, h2.keep hk⟩
theorem SIn.keep {w w' : World} {x : Nd} {v : Value} (h : SIn w x v) (hk : Keeps w w') : SIn w' x v := by
  obtain ⟨k, s, a, l, c, h1, h2⟩ := h
  exact ⟨k, s, a, l, c, h1, h2.keep hk⟩
/-- What the building region's values are, as far as it has come. -/
structure ShF (B : World) (c : Nd) (cv : Value) (l : Array Bool) (w : World) (v12 v44 v45 v46 v47 v48 v49 v50 v51 v52 v53 v54 v55 v56 : Value) : Prop where
  below : Below B.heap.size B w
  f0 : l.getD 0 false = true → v44 = .agg #[.string ⟨#[120]⟩, .int .i64 0]
  f1 : l.getD 1 false = true → SlIn w .D [oneD] v45
  f2 : l.getD 2 false = true → v46 = cv
  f3 : l.getD 3 false = true → SlIn w .C [c] v47
  f4 : l.getD 4 false = true → EIn w (numE 1) v48
  f5 : l.getD 5 false = true → SIn w (giveS xS (numE 1)) v49
  f6 : l.getD 6 false = true → SlIn w .S shT v50
  f7 : l.getD 7 false = true → EIn w (numE 2) v51
  f8 : l.getD 8 false = true → SIn w (giveS xS (numE 2)) v52
  f9 : l.getD 9 false = true → SlIn w .S shE v53
  f10 : l.getD 10 false = true → ∃ a1 l1 c1 a2 l2 c2 a3 l3 c3, v54 = .agg #[.int .i64 3, .string ⟨#[]⟩, .slice none 0 0, .slice a1 l1 c1, .slice a2 l2 c2, .slice a3 l3 c3] ∧ NdIn w (ifS c shT shE) [.int .i64 3, .string ⟨#[]⟩, .slice none 0 0, .slice a1 l1 c1, .slice a2 l2 c2, .slice a3 l3 c3]
  f11 : l.getD 11 false = true → SlIn w .S [ifS c shT shE] v55
  f12 : l.getD 12 false = true → ∃ a1 l1 c1 a2 l2 c2, v56 = .agg #[.slice a1 l1 c1, .slice a2 l2 c2] ∧ SlIn w .D [oneD] (.slice a1 l1 c1) ∧ SlIn w .S [ifS c shT shE] (.slice a2 l2 c2)
  f13 : l.getD 13 false = true → ∃ q, v12 = .pointer (some ⟨q, 0, none⟩) ∧ B.heap.size ≤ q ∧ Blk w q #[.slice none 0 0, .slice none 0 0] 25
/-- The region's end. -/
def ShG (B : World) (c : Nd) (w : World) (v12 : Value) : Prop := ∃ q v45 v55, v12 = .pointer (some ⟨q, 0, none⟩) ∧ Below B.heap.size B w ∧ SlIn w .D [oneD] v45 ∧ SlIn w .S [ifS c shT shE] v55 ∧ Blk w q #[v45, v55] 25 ∧ B.heap.size ≤ q
theorem ShF.next {B : World} {c : Nd} {cv : Value} {l : Array Bool} {w w' : World} {v12 v44 v45 v46 v47 v48 v49 v50 v51 v52 v53 v54 v55 v56 : Value} (h : ShF B c cv l w v12 v44 v45 v46 v47 v48 v49 v50 v51 v52 v53 v54 v55 v56) (hb : Below w.heap.size w w') : ShF B c cv l w' v12 v44 v45 v46 v47 v48 v49 v50 v51 v52 v53 v54 v55 v56 :=
  { below := h.below.trans (hb.mono h.below.size)
    f0 := h.f0
    f1 := fun e => (h.f1 e).keep (keeps_below hb)
    f2 := h.f2
    f3 := fun e => (h.f3 e).keep (keeps_below hb)
    f4 := fun e => (h.f4 e).keep (keeps_below hb)
    f5 := fun e => (h.f5 e).keep (keeps_below hb)
    f6 := fun e => (h.f6 e).keep (keeps_below hb)
    f7 := fun e => (h.f7 e).keep (keeps_below hb)
    f8 := fun e => (h.f8 e).keep (keeps_below hb)
    f9 := fun e => (h.f9 e).keep (keeps_below hb)
    f10 := fun e => by
      obtain ⟨a1, l1, c1, a2, l2, c2, a3, l3, c3, h1, h2⟩ := h.f10 e
      exact ⟨a1, l1, c1, a2, l2, c2, a3, l3, c3, h1, h2.keep (keeps_below hb)⟩
    f11 := fun e => (h.f11 e).keep (keeps_below hb)
    f12 := fun e => by
      obtain ⟨a1, l1, c1, a2, l2, c2, h1, h2, h3⟩ := h.f12 e
      exact ⟨a1, l1, c1, a2, l2, c2, h1, h2.keep (keeps_below hb), h3.keep (keeps_below hb)⟩
    f13 := fun e => by
      obtain ⟨q, h1, h2, h3⟩ := h.f13 e
      exact ⟨q, h1, h2, h3.next hb⟩ }
theorem getD_set {l : Array Bool} {i j : Nat} (h : (l.setIfInBounds i true).getD j false = true) (hne : j ≠ i) : l.getD j false = true := by
  rw [getD_set_ne false (Ne.symm hne)] at h
  exact h
theorem ShF.set0 {B : World} {c : Nd} {cv : Value} {l : Array Bool} {w : World} {v12 v44 v45 v46 v47 v48 v49 v50 v51 v52 v53 v54 v55 v56 : Value} (h : ShF B c cv l w v12 v44 v45 v46 v47 v48 v49 v50 v51 v52 v53 v54 v55 v56) {u : Value} (hu : u = .agg #[.string ⟨#[120]⟩, .int .i64 0]) : ShF B c cv (l.setIfInBounds 0 true) w v12 u v45 v46 v47 v48 v49 v50 v51 v52 v53 v54 v55 v56 :=
  { below := h.below, f0 := fun _ => hu, f1 := fun e => h.f1 (getD_set e (by decide)), f2 := fun e => h.f2 (getD_set e (by decide)), f3 := fun e => h.f3 (getD_set e (by decide)), f4 := fun e => h.f4 (getD_set e (by decide)), f5 := fun e => h.f5 (getD_set e (by decide)), f6 := fun e => h.f6 (getD_set e (by decide)), f7 := fun e => h.f7 (getD_set e (by decide)), f8 := fun e => h.f8 (getD_set e (by decide)), f9 := fun e => h.f9 (getD_set e (by decide)), f10 := fun e => h.f10 (getD_set e (by decide)), f11 := fun e => h.f11 (getD_set e (by decide)), f12 := fun e => h.f12 (getD_set e (by decide)), f13 := fun e => h.f13 (getD_set e (by decide)) }
theorem ShF.set1 {B : World} {c : Nd} {cv : Value} {l : Array Bool} {w : World} {v12 v44 v45 v46 v47 v48 v49 v50 v51 v52 v53 v54 v55 v56 : Value} (h : ShF B c cv l w v12 v44 v45 v46 v47 v48 v49 v50 v51 v52 v53 v54 v55 v56) {u : Value} (hu : SlIn w .D [oneD] u) : ShF B c cv (l.setIfInBounds 1 true) w v12 v44 u v46 v47 v48 v49 v50 v51 v52 v53 v54 v55 v56 :=
  { below := h.below, f0 := fun e => h.f0 (getD_set e (by decide)), f1 := fun _ => hu, f2 := fun e => h.f2 (getD_set e (by decide)), f3 := fun e => h.f3 (getD_set e (by decide)), f4 := fun e => h.f4 (getD_set e (by decide)), f5 := fun e => h.f5 (getD_set e (by decide)), f6 := fun e => h.f6 (getD_set e (by decide)), f7 := fun e => h.f7 (getD_set e (by decide)), f8 := fun e => h.f8 (getD_set e (by decide)), f9 := fun e => h.f9 (getD_set e (by decide)), f10 := fun e => h.f10 (getD_set e (by decide)), f11 := fun e => h.f11 (getD_set e (by decide)), f12 := fun e => h.f12 (getD_set e (by decide)), f13 := fun e => h.f13 (getD_set e (by decide)) }
theorem ShF.set2 {B : World} {c : Nd} {cv : Value} {l : Array Bool} {w : World} {v12 v44 v45 v46 v47 v48 v49 v50 v51 v52 v53 v54 v55 v56 : Value} (h : ShF B c cv l w v12 v44 v45 v46 v47 v48 v49 v50 v51 v52 v53 v54 v55 v56) {u : Value} (hu : u = cv) : ShF B c cv (l.setIfInBounds 2 true) w v12 v44 v45 u v47 v48 v49 v50 v51 v52 v53 v54 v55 v56 :=
  { below := h.below, f0 := fun e => h.f0 (getD_set e (by decide)), f1 := fun e => h.f1 (getD_set e (by decide)), f2 := fun _ => hu, f3 := fun e => h.f3 (getD_set e (by decide)), f4 := fun e => h.f4 (getD_set e (by decide)), f5 := fun e => h.f5 (getD_set e (by decide)), f6 := fun e => h.f6 (getD_set e (by decide)), f7 := fun e => h.f7 (getD_set e (by decide)), f8 := fun e => h.f8 (getD_set e (by decide)), f9 := fun e => h.f9 (getD_set e (by decide)), f10 := fun e => h.f10 (getD_set e (by decide)), f11 := fun e => h.f11 (getD_set e (by decide)), f12 := fun e => h.f12 (getD_set e (by decide)), f13 := fun e => h.f13 (getD_set e (by decide)) }
theorem ShF.set3 {B : World} {c : Nd} {cv : Value} {l : Array Bool} {w : World} {v12 v44 v45 v46 v47 v48 v49 v50 v51 v52 v53 v54 v55 v56 : Value} (h : ShF B c cv l w v12 v44 v45 v46 v47 v48 v49 v50 v51 v52 v53 v54 v55 v56) {u : Value} (hu : SlIn w .C [c] u) : ShF B c cv (l.setIfInBounds 3 true) w v12 v44 v45 v46 u v48 v49 v50 v51 v52 v53 v54 v55 v56 :=
  { below := h.below, f0 := fun e => h.f0 (getD_set e (by decide)), f1 := fun e => h.f1 (getD_set e (by decide)), f2 := fun e => h.f2 (getD_set e (by decide)), f3 := fun _ => hu, f4 := fun e => h.f4 (getD_set e (by decide)), f5 := fun e => h.f5 (getD_set e (by decide)), f6 := fun e => h.f6 (getD_set e (by decide)), f7 := fun e => h.f7 (getD_set e (by decide)), f8 := fun e => h.f8 (getD_set e (by decide)), f9 := fun e => h.f9 (getD_set e (by decide)), f10 := fun e => h.f10 (getD_set e (by decide)), f11 := fun e => h.f11 (getD_set e (by decide)), f12 := fun e => h.f12 (getD_set e (by decide)), f13 := fun e => h.f13 (getD_set e (by decide)) }
theorem ShF.set4 {B : World} {c : Nd} {cv : Value} {l : Array Bool} {w : World} {v12 v44 v45 v46 v47 v48 v49 v50 v51 v52 v53 v54 v55 v56 : Value} (h : ShF B c cv l w v12 v44 v45 v46 v47 v48 v49 v50 v51 v52 v53 v54 v55 v56) {u : Value} (hu : EIn w (numE 1) u) : ShF B c cv (l.setIfInBounds 4 true) w v12 v44 v45 v46 v47 u v49 v50 v51 v52 v53 v54 v55 v56 :=
  { below := h.below, f0 := fun e => h.f0 (getD_set e (by decide)), f1 := fun e => h.f1 (getD_set e (by decide)), f2 := fun e => h.f2 (getD_set e (by decide)), f3 := fun e => h.f3 (getD_set e (by decide)), f4 := fun _ => hu, f5 := fun e => h.f5 (getD_set e (by decide)), f6 := fun e => h.f6 (getD_set e (by decide)), f7 := fun e => h.f7 (getD_set e (by decide)), f8 := fun e => h.f8 (getD_set e (by decide)), f9 := fun e => h.f9 (getD_set e (by decide)), f10 := fun e => h.f10 (getD_set e (by decide)), f11 := fun e => h.f11 (getD_set e (by decide)), f12 := fun e => h.f12 (getD_set e (by decide)), f13 := fun e => h.f13 (getD_set e (by decide)) }
theorem ShF.set5 {B : World} {c : Nd} {cv : Value} {l : Array Bool} {w : World} {v12 v44 v45 v46 v47 v48 v49 v50 v51 v52 v53 v54 v55 v56 : Value} (h : ShF B c cv l w v12 v44 v45 v46 v47 v48 v49 v50 v51 v52 v53 v54 v55 v56) {u : Value} (hu : SIn w (giveS xS (numE 1)) u) : ShF B c cv (l.setIfInBounds 5 true) w v12 v44 v45 v46 v47 v48 u v50 v51 v52 v53 v54 v55 v56 :=
  { below := h.below, f0 := fun e => h.f0 (getD_set e (by decide)), f1 := fun e => h.f1 (getD_set e (by decide)), f2 := fun e => h.f2 (getD_set e (by decide)), f3 := fun e => h.f3 (getD_set e (by decide)), f4 := fun e => h.f4 (getD_set e (by decide)), f5 := fun _ => hu, f6 := fun e => h.f6 (getD_set e (by decide)), f7 := fun e => h.f7 (getD_set e (by decide)), f8 := fun e => h.f8 (getD_set e (by decide)), f9 := fun e => h.f9 (getD_set e (by decide)), f10 := fun e => h.f10 (getD_set e (by decide)), f11 := fun e => h.f11 (getD_set e (by decide)), f12 := fun e => h.f12 (getD_set e (by decide)), f13 := fun e => h.f13 (getD_set e (by decide)) }
theorem ShF.set6 {B : World} {c : Nd} {cv : Value} {l : Array Bool} {w : World} {v12 v44 v45 v46 v47 v48 v49 v50 v51 v52 v53 v54 v55 v56 : Value} (h : ShF B c cv l w v12 v44 v45 v46 v47 v48 v49 v50 v51 v52 v53 v54 v55 v56) {u : Value} (hu : SlIn w .S shT u) : ShF B c cv (l.setIfInBounds 6 true) w v12 v44 v45 v46 v47 v48 v49 u v51 v52 v53 v54 v55 v56 :=
  { below := h.below, f0 := fun e => h.f0 (getD_set e (by decide)), f1 := fun e => h.f1 (getD_set e (by decide)), f2 := fun e => h.f2 (getD_set e (by decide)), f3 := fun e => h.f3 (getD_set e (by decide)), f4 := fun e => h.f4 (getD_set e (by decide)), f5 := fun e => h.f5 (getD_set e (by decide)), f6 := fun _ => hu, f7 := fun e => h.f7 (getD_set e (by decide)), f8 := fun e => h.f8 (getD_set e (by decide)), f9 := fun e => h.f9 (getD_set e (by decide)), f10 := fun e => h.f10 (getD_set e (by decide)), f11 := fun e => h.f11 (getD_set e (by decide)), f12 := fun e => h.f12 (getD_set e (by decide)), f13 := fun e => h.f13 (getD_set e (by decide)) }
theorem ShF.set7 {B : World} {c : Nd} {cv : Value} {l : Array Bool} {w : World} {v12 v44 v45 v46 v47 v48 v49 v50 v51 v52 v53 v54 v55 v56 : Value} (h : ShF B c cv l w v12 v44 v45 v46 v47 v48 v49 v50 v51 v52 v53 v54 v55 v56) {u : Value} (hu : EIn w (numE 2) u) : ShF B c cv (l.setIfInBounds 7 true) w v12 v44 v45 v46 v47 v48 v49 v50 u v52 v53 v54 v55 v56 :=
  { below := h.below, f0 := fun e => h.f0 (getD_set e (by decide)), f1 := fun e => h.f1 (getD_set e (by decide)), f2 := fun e => h.f2 (getD_set e (by decide)), f3 := fun e => h.f3 (getD_set e (by decide)), f4 := fun e => h.f4 (getD_set e (by decide)), f5 := fun e => h.f5 (getD_set e (by decide)), f6 := fun e => h.f6 (getD_set e (by decide)), f7 := fun _ => hu, f8 := fun e => h.f8 (getD_set e (by decide)), f9 := fun e => h.f9 (getD_set e (by decide)), f10 := fun e => h.f10 (getD_set e (by decide)), f11 := fun e => h.f11 (getD_set e (by decide)), f12 := fun e => h.f12 (getD_set e (by decide)), f13 := fun e => h.f13 (getD_set e (by decide)) }
theorem ShF.set8 {B : World} {c : Nd} {cv : Value} {l : Array Bool} {w : World} {v12 v44 v45 v46 v47 v48 v49 v50 v51 v52 v53 v54 v55 v56 : Value} (h : ShF B c cv l w v12 v44 v45 v46 v47 v48 v49 v50 v51 v52 v53 v54 v55 v56) {u : Value} (hu : SIn w (giveS xS (numE 2)) u) : ShF B c cv (l.setIfInBounds 8 true) w v12 v44 v45 v46 v47 v48 v49 v50 v51 u v53 v54 v55 v56 :=
  { below := h.below, f0 := fun e => h.f0 (getD_set e (by decide)), f1 := fun e => h.f1 (getD_set e (by decide)), f2 := fun e => h.f2 (getD_set e (by decide)), f3 := fun e => h.f3 (getD_set e (by decide)), f4 := fun e => h.f4 (getD_set e (by decide)), f5 := fun e => h.f5 (getD_set e (by decide)), f6 := fun e => h.f6 (getD_set e (by decide)), f7 := fun e => h.f7 (getD_set e (by decide)), f8 := fun _ => hu, f9 := fun e => h.f9 (getD_set e (by decide)), f10 := fun e => h.f10 (getD_set e (by decide)), f11 := fun e => h.f11 (getD_set e (by decide)), f12 := fun e => h.f12 (getD_set e (by decide)), f13 := fun e => h.f13 (getD_set e (by decide)) }
theorem ShF.set9 {B : World} {c : Nd} {cv : Value} {l : Array Bool} {w : World} {v12 v44 v45 v46 v47 v48 v49 v50 v51 v52 v53 v54 v55 v56 : Value} (h : ShF B c cv l w v12 v44 v45 v46 v47 v48 v49 v50 v51 v52 v53 v54 v55 v56) {u : Value} (hu : SlIn w .S shE u) : ShF B c cv (l.setIfInBounds 9 true) w v12 v44 v45 v46 v47 v48 v49 v50 v51 v52 u v54 v55 v56 :=
  { below := h.below, f0 := fun e => h.f0 (getD_set e (by decide)), f1 := fun e => h.f1 (getD_set e (by decide)), f2 := fun e => h.f2 (getD_set e (by decide)), f3 := fun e => h.f3 (getD_set e (by decide)), f4 := fun e => h.f4 (getD_set e (by decide)), f5 := fun e => h.f5 (getD_set e (by decide)), f6 := fun e => h.f6 (getD_set e (by decide)), f7 := fun e => h.f7 (getD_set e (by decide)), f8 := fun e => h.f8 (getD_set e (by decide)), f9 := fun _ => hu, f10 := fun e => h.f10 (getD_set e (by decide)), f11 := fun e => h.f11 (getD_set e (by decide)), f12 := fun e => h.f12 (getD_set e (by decide)), f13 := fun e => h.f13 (getD_set e (by decide)) }
theorem ShF.set10 {B : World} {c : Nd} {cv : Value} {l : Array Bool} {w : World} {v12 v44 v45 v46 v47 v48 v49 v50 v51 v52 v53 v54 v55 v56 : Value} (h : ShF B c cv l w v12 v44 v45 v46 v47 v48 v49 v50 v51 v52 v53 v54 v55 v56) {u : Value} (hu : ∃ a1 l1 c1 a2 l2 c2 a3 l3 c3, u = .agg #[.int .i64 3, .string ⟨#[]⟩, .slice none 0 0, .slice a1 l1 c1, .slice a2 l2 c2, .slice a3 l3 c3] ∧ NdIn w (ifS c shT shE) [.int .i64 3, .string ⟨#[]⟩, .slice none 0 0, .slice a1 l1 c1, .slice a2 l2 c2, .slice a3 l3 c3]) : ShF B c cv (l.setIfInBounds 10 true) w v12 v44 v45 v46 v47 v48 v49 v50 v51 v52 v53 u v55 v56 :=
  { below := h.below, f0 := fun e => h.f0 (getD_set e (by decide)), f1 := fun e => h.f1 (getD_set e (by decide)), f2 := fun e => h.f2 (getD_set e (by decide)), f3 := fun e => h.f3 (getD_set e (by decide)), f4 := fun e => h.f4 (getD_set e (by decide)), f5 := fun e => h.f5 (getD_set e (by decide)), f6 := fun e => h.f6 (getD_set e (by decide)), f7 := fun e => h.f7 (getD_set e (by decide)), f8 := fun e => h.f8 (getD_set e (by decide)), f9 := fun e => h.f9 (getD_set e (by decide)), f10 := fun _ => hu, f11 := fun e => h.f11 (getD_set e (by decide)), f12 := fun e => h.f12 (getD_set e (by decide)), f13 := fun e => h.f13 (getD_set e (by decide)) }
theorem ShF.set11 {B : World} {c : Nd} {cv : Value} {l : Array Bool} {w : World} {v12 v44 v45 v46 v47 v48 v49 v50 v51 v52 v53 v54 v55 v56 : Value} (h : ShF B c cv l w v12 v44 v45 v46 v47 v48 v49 v50 v51 v52 v53 v54 v55 v56) {u : Value} (hu : SlIn w .S [ifS c shT shE] u) : ShF B c cv (l.setIfInBounds 11 true) w v12 v44 v45 v46 v47 v48 v49 v50 v51 v52 v53 v54 u v56 :=
  { below := h.below, f0 := fun e => h.f0 (getD_set e (by decide)), f1 := fun e => h.f1 (getD_set e (by decide)), f2 := fun e => h.f2 (getD_set e (by decide)), f3 := fun e => h.f3 (getD_set e (by decide)), f4 := fun e => h.f4 (getD_set e (by decide)), f5 := fun e => h.f5 (getD_set e (by decide)), f6 := fun e => h.f6 (getD_set e (by decide)), f7 := fun e => h.f7 (getD_set e (by decide)), f8 := fun e => h.f8 (getD_set e (by decide)), f9 := fun e => h.f9 (getD_set e (by decide)), f10 := fun e => h.f10 (getD_set e (by decide)), f11 := fun _ => hu, f12 := fun e => h.f12 (getD_set e (by decide)), f13 := fun e => h.f13 (getD_set e (by decide)) }
theorem ShF.set12 {B : World} {c : Nd} {cv : Value} {l : Array Bool} {w : World} {v12 v44 v45 v46 v47 v48 v49 v50 v51 v52 v53 v54 v55 v56 : Value} (h : ShF B c cv l w v12 v44 v45 v46 v47 v48 v49 v50 v51 v52 v53 v54 v55 v56) {u : Value} (hu : ∃ a1 l1 c1 a2 l2 c2, u = .agg #[.slice a1 l1 c1, .slice a2 l2 c2] ∧ SlIn w .D [oneD] (.slice a1 l1 c1) ∧ SlIn w .S [ifS c shT shE] (.slice a2 l2 c2)) : ShF B c cv (l.setIfInBounds 12 true) w v12 v44 v45 v46 v47 v48 v49 v50 v51 v52 v53 v54 v55 u :=
  { below := h.below, f0 := fun e => h.f0 (getD_set e (by decide)), f1 := fun e => h.f1 (getD_set e (by decide)), f2 := fun e => h.f2 (getD_set e (by decide)), f3 := fun e => h.f3 (getD_set e (by decide)), f4 := fun e => h.f4 (getD_set e (by decide)), f5 := fun e => h.f5 (getD_set e (by decide)), f6 := fun e => h.f6 (getD_set e (by decide)), f7 := fun e => h.f7 (getD_set e (by decide)), f8 := fun e => h.f8 (getD_set e (by decide)), f9 := fun e => h.f9 (getD_set e (by decide)), f10 := fun e => h.f10 (getD_set e (by decide)), f11 := fun e => h.f11 (getD_set e (by decide)), f12 := fun _ => hu, f13 := fun e => h.f13 (getD_set e (by decide)) }
theorem ShF.set13 {B : World} {c : Nd} {cv : Value} {l : Array Bool} {w : World} {v12 v44 v45 v46 v47 v48 v49 v50 v51 v52 v53 v54 v55 v56 : Value} (h : ShF B c cv l w v12 v44 v45 v46 v47 v48 v49 v50 v51 v52 v53 v54 v55 v56) {u : Value} (hu : ∃ q, u = .pointer (some ⟨q, 0, none⟩) ∧ B.heap.size ≤ q ∧ Blk w q #[.slice none 0 0, .slice none 0 0] 25) : ShF B c cv (l.setIfInBounds 13 true) w u v44 v45 v46 v47 v48 v49 v50 v51 v52 v53 v54 v55 v56 :=
  { below := h.below, f0 := fun e => h.f0 (getD_set e (by decide)), f1 := fun e => h.f1 (getD_set e (by decide)), f2 := fun e => h.f2 (getD_set e (by decide)), f3 := fun e => h.f3 (getD_set e (by decide)), f4 := fun e => h.f4 (getD_set e (by decide)), f5 := fun e => h.f5 (getD_set e (by decide)), f6 := fun e => h.f6 (getD_set e (by decide)), f7 := fun e => h.f7 (getD_set e (by decide)), f8 := fun e => h.f8 (getD_set e (by decide)), f9 := fun e => h.f9 (getD_set e (by decide)), f10 := fun e => h.f10 (getD_set e (by decide)), f11 := fun e => h.f11 (getD_set e (by decide)), f12 := fun e => h.f12 (getD_set e (by decide)), f13 := fun _ => hu }
/-- The frame of the building region: what it had, and the values that came up. -/
def shA0 (a0 : Act) (v12 v44 v45 v46 v47 v48 v49 v50 v51 v52 v53 v54 v55 v56 : Value) : Act := ((((((((((((((a0.put (some 12) v12).put (some 44) v44).put (some 45) v45).put (some 46) v46).put (some 47) v47).put (some 48) v48).put (some 49) v49).put (some 50) v50).put (some 51) v51).put (some 52) v52).put (some 53) v53).put (some 54) v54).put (some 55) v55).put (some 56) v56)
def ShI (B : World) (c : Nd) (cv : Value) (a0 : Act) (l : Array Bool) (a : Act) (w : World) : Prop := l.size = 15 ∧ ∃ v12 v44 v45 v46 v47 v48 v49 v50 v51 v52 v53 v54 v55 v56, a = shA0 a0 v12 v44 v45 v46 v47 v48 v49 v50 v51 v52 v53 v54 v55 v56 ∧ ((l.getD 14 false = true ∧ (∀ j, j < 14 → l.getD j false = true) ∧ ShG B c w v12) ∨ (l.getD 14 false = false ∧ ShF B c cv l w v12 v44 v45 v46 v47 v48 v49 v50 v51 v52 v53 v54 v55 v56))
theorem put_self (a : Act) (t : Tmp) : a.put (some t) (a.tmps.getD t undef) = a := by
  show { a with tmps := a.tmps.setIfInBounds t (a.tmps.getD t undef) } = a
  have h : a.tmps.setIfInBounds t (a.tmps.getD t undef) = a.tmps := by
    apply Array.ext
    · simp
    · intro i h1 h2
      rw [Array.getElem_setIfInBounds]
      split
      · rename_i e
        subst e
        simp [h2]
      · rfl
  rw [h]
theorem shA0_self (a : Act) : shA0 a (a.tmps.getD 12 undef) (a.tmps.getD 44 undef) (a.tmps.getD 45 undef) (a.tmps.getD 46 undef) (a.tmps.getD 47 undef) (a.tmps.getD 48 undef) (a.tmps.getD 49 undef) (a.tmps.getD 50 undef) (a.tmps.getD 51 undef) (a.tmps.getD 52 undef) (a.tmps.getD 53 undef) (a.tmps.getD 54 undef) (a.tmps.getD 55 undef) (a.tmps.getD 56 undef) = a := by
  unfold shA0
  simp only [put_self]
theorem wpAny_sh {P : Program} {ops : Array Oper} {Q : Exit → Act → World → Prop} {md : Region.Mode} {a : Act} {w : World} (B : World) (c : Nd) (cv : Value) (hn : ops.size = 15)
    (hs : ∀ l a' w', l.size = 15 → ∀ v12 v44 v45 v46 v47 v48 v49 v50 v51 v52 v53 v54 v55 v56, a' = shA0 a v12 v44 v45 v46 v47 v48 v49 v50 v51 v52 v53 v54 v55 v56 → l.getD 14 false = false → ShF B c cv l w' v12 v44 v45 v46 v47 v48 v49 v50 v51 v52 v53 v54 v55 v56 → ∀ i o, ops[i]? = some o → l.getD i true = false → (∀ e ∈ o.after, Region.binds md e = true → l.getD e.on false = true) → wpOp P ops Q i (fun a' w' => ShI B c cv a (l.setIfInBounds i true) a' w') a' w')
    (hr : ∀ l, Region.ready md ops l = [] → l.size = 15 → l.getD 14 false = true)
    (hd : ∀ w' v12 v44 v45 v46 v47 v48 v49 v50 v51 v52 v53 v54 v55 v56, ShG B c w' v12 → Q .normal (shA0 a v12 v44 v45 v46 v47 v48 v49 v50 v51 v52 v53 v54 v55 v56) w')
    (hb : Below B.heap.size B w) : wpAny P md ops Q ops.size (Array.replicate ops.size false) a w := by
  refine wpAny_inv (ShI B c cv a) ?_ ?_ _ _ _ _ ?_ ?_
  · rintro l a' w' ⟨hl, v12, v44, v45, v46, v47, v48, v49, v50, v51, v52, v53, v54, v55, v56, ha, hc⟩ i o ho hi hall
    rcases hc with ⟨h14, hj, -⟩ | ⟨h14, hF⟩
    · have hlt : i < 15 := by
        have := (Array.getElem?_eq_some_iff.1 ho).1
        omega
      have h1 : l.getD i false = true := by
        by_cases h : i = 14
        · subst h; exact h14
        · exact hj i (by omega)
      have hls : i < l.size := by omega
      simp [hls] at h1 hi
      rw [h1] at hi
      cases hi
    · exact hs l a' w' hl v12 v44 v45 v46 v47 v48 v49 v50 v51 v52 v53 v54 v55 v56 ha h14 hF i o ho hi hall
  · rintro l a' w' ⟨hl, v12, v44, v45, v46, v47, v48, v49, v50, v51, v52, v53, v54, v55, v56, ha, hc⟩ hready
    rcases hc with ⟨-, -, hG⟩ | ⟨h14, hF⟩
    · subst ha
      exact hd w' v12 v44 v45 v46 v47 v48 v49 v50 v51 v52 v53 v54 v55 v56 hG
    · rw [hr l hready hl] at h14
      cases h14
  · simp
  · refine ⟨by simp [hn], _, _, _, _, _, _, _, _, _, _, _, _, _, _, (shA0_self a).symm, .inr ⟨by simp [hn], ?_⟩⟩
    have hf : ∀ j, (Array.replicate ops.size false).getD j false = true → False := by
      intro j h
      rw [hn, Array.getD_eq_getD_getElem?, Array.getElem?_replicate] at h
      split at h <;> cases h
    exact { below := hb, f0 := fun e => (hf _ e).elim, f1 := fun e => (hf _ e).elim, f2 := fun e => (hf _ e).elim, f3 := fun e => (hf _ e).elim, f4 := fun e => (hf _ e).elim, f5 := fun e => (hf _ e).elim, f6 := fun e => (hf _ e).elim, f7 := fun e => (hf _ e).elim, f8 := fun e => (hf _ e).elim, f9 := fun e => (hf _ e).elim, f10 := fun e => (hf _ e).elim, f11 := fun e => (hf _ e).elim, f12 := fun e => (hf _ e).elim, f13 := fun e => (hf _ e).elim }
end Go.Proofs.Ytbodbbdofoeclaa
