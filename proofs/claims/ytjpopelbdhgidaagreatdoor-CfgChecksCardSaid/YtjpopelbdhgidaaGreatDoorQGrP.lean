/-
  Plain: a graph, whether it is one, the edges from each point, the walk through it; proved is how the walk goes on.
-/
import Derived.Test.YtjpopelbdhgidaaGreatDoorQArD
import Derived.Test.YtjpopelbdhgidaaGreatDoorQWellA
/-
  Plain: a run of a tree (values, conditions, statements, loops), as steps go; proved is that steps never go back, that a condition takes one at least, and that a loop's fuel doesn't matter.
-/
namespace Go.Proofs.YtjpopelbdhgidaaGreatDoor
open Go Go.RowKit

/-- A run as it stands. -/
structure Rn where
  vars : List Int
  arrs : List (List Int)
  evs : List (Bool × Int × Bool)
  steps : Nat
  left : List Int
/-- What a part of a run comes to: it goes on with an answer, or it has ended (status, what is wrong). -/
inductive Res (α : Type) where
  | go (a : α) (s : Rn)
  | stop (st wr : Int) (s : Rn)
def Res.bind {α β : Type} (r : Res α) (f : α → Rn → Res β) : Res β := match r with
  | .go a s => f a s
  | .stop x y s => .stop x y s
def Res.at {α : Type} : Res α → Rn
  | .go _ s => s
  | .stop _ _ s => s
def kindN : Nd → Int | .mk _ k _ _ _ _ _ _ => k
def numN : Nd → Int | .mk _ _ n _ _ _ _ _ => n
/-- The number of a constant. -/
def conK (k n : Int) : List Nd → Option Int
  | [] => if k = 1 then some n else none
  | x :: _ => if k = 1 then some n else if k = 5 ∧ kindN x = 1 then some (-(numN x)) else none
/-- Steps don't go back. -/
def Up {α : Type} (s : Rn) (r : Res α) : Prop := s.steps ≤ r.at.steps
theorem Up.bind {α β : Type} {s : Rn} {r : Res α} {f : α → Rn → Res β} (h : Up s r) (hf : ∀ a s, Up s (f a s)) : Up s (r.bind f) := by
  cases r with
  | go a s' => exact Nat.le_trans h (hf a s')
  | stop x y s' => exact h
/-- A condition takes a step. -/
def More {α : Type} (s : Rn) (r : Res α) : Prop := ∀ a s', r = .go a s' → s.steps < s'.steps
theorem More.bind {α β : Type} {s : Rn} {r : Res α} {f : α → Rn → Res β} (h : More s r) (hf : ∀ a s, Up s (f a s)) : More s (r.bind f) := by
  intro b s2 hb
  cases r with
  | go a s' =>
    have h1 := h a s' rfl
    have h2 := hf a s'
    unfold Up at h2
    change f a s' = _ at hb
    rw [hb] at h2
    exact Nat.lt_of_lt_of_le h1 h2
  | stop x y s' => cases hb
end Go.Proofs.YtjpopelbdhgidaaGreatDoor

/-
  Plain: a program lowered to points and edges; proved is how many points and edges a tree brings at most.
-/
namespace Go.Proofs.YtjpopelbdhgidaaGreatDoor
open Go Go.RowKit

/-- An edge. -/
structure Ed where
  fr : Int
  dt : Int
  kd : Int
  dst : Int
  arr : Int
  op : Int
  av : Int
  an : Int
  bv : Int
  bn : Int
/-- A graph as far as it is made. -/
structure Lw where
  pts : Int
  tmp : Int
  ext : Int
  eds : List Ed
/-- Where names lie, and how many variables are declared. -/
structure Lv where
  pl : ByteArray → Nat
  nv : Nat
def edgeE (f t k : Int) : Ed := ⟨f, t, k, -1, -1, 0, -1, 0, -1, 0⟩
def Lw.fresh (s : Lw) : Lw := { s with pts := s.pts + 1 }
def Lw.add (s : Lw) (e : Ed) : Lw := { s with eds := s.eds ++ [e] }
def Lw.temp (s : Lw) (d : Int) : Lw := { s with tmp := max s.tmp (d + 1) }
def Lw.more (s : Lw) (n : Nat) : Lw := { s with pts := s.pts + (n : Int) }
def kindK (k : Int) : Int := if k = 3 then 9 else if k = 4 then 10 else k - 2
/-- The operand of a constant, or a variable. -/
def simK (E : Lv) (k : Int) (nm : ByteArray) (c : Option Int) : Option (Int × Int) := match c with
  | some n => some (-1, n)
  | none => if k = 2 then some ((E.pl nm : Int), 0) else none
def simN (E : Lv) : Nd → Option (Int × Int) | .mk _ k n nm xs _ _ _ => simK E k nm (conK k n xs)
def op0 (l : List (Int × Int)) : Int × Int := l.getD 0 (-1, 0)
def op1 (l : List (Int × Int)) : Int × Int := l.getD 1 (-1, 0)
def lastE (E : Lv) (k : Int) (nm : ByteArray) (dst e t : Int) (os : List (Int × Int)) : Ed := ⟨e, t, kindK k, dst, if k = 4 then (E.pl nm : Int) else -1, 0, (op0 os).1, (op0 os).2, (op1 os).1, (op1 os).2⟩
/-- The depth behind an operand. -/
def nextD (E : Lv) (o : Int × Int) (d : Int) : Int := if (E.nv : Int) ≤ o.1 then d + 1 else d
mutual
def opN (E : Lv) : Nd → Int → Int → Lw → (Int × Int) × Int × Lw
  | .mk _ k n nm xs _ _ _, q, d, s => match simK E k nm (conK k n xs) with
    | some o => (o, q, s)
    | none => (((E.nv : Int) + d, 0), s.pts, (opsL E xs q d (s.temp d).fresh).2.2.add (lastE E k nm ((E.nv : Int) + d) (opsL E xs q d (s.temp d).fresh).2.1 s.pts (opsL E xs q d (s.temp d).fresh).1))
def opsL (E : Lv) : List Nd → Int → Int → Lw → List (Int × Int) × Int × Lw
  | [], q, _, s => ([], q, s)
  | x :: r, q, d, s => ((opN E x q d s).1 :: (opsL E r (opN E x q d s).2.1 (nextD E (opN E x q d s).1 d) (opN E x q d s).2.2).1, (opsL E r (opN E x q d s).2.1 (nextD E (opN E x q d s).1 d) (opN E x q d s).2.2).2)
end
def argsN : Nd → List Nd | .mk _ _ _ _ xs _ _ _ => xs
def nameN : Nd → ByteArray | .mk _ _ _ nm _ _ _ _ => nm
/-- An expression into something. -/
def intoN (E : Lv) (x : Nd) (dst f t d : Int) (s : Lw) : Lw := (opsL E (argsN x) f d s).2.2.add (lastE E (kindN x) (nameN x) dst (opsL E (argsN x) f d s).2.1 t (opsL E (argsN x) f d s).1)
theorem opN_some {E : Lv} {x : Nd} {o : Int × Int} (h : simN E x = some o) (q d : Int) (s : Lw) : opN E x q d s = (o, q, s) := by
  cases x
  simp only [simN] at h
  rw [opN, h]
theorem opN_none {E : Lv} {x : Nd} (h : simN E x = none) (q d : Int) (s : Lw) : opN E x q d s = (((E.nv : Int) + d, 0), s.pts, intoN E x ((E.nv : Int) + d) q s.pts d (s.temp d).fresh) := by
  cases x
  simp only [simN] at h
  rw [opN, h]
  rfl
def cnR (hs : List (Int → Int → Int → Lw → Lw)) (i : Nat) : Int → Int → Int → Lw → Lw := hs.getD i (fun _ _ _ s => s)
def cmpE (E : Lv) (op : Int) (xs : List Nd) (f y n : Int) (s : Lw) : Lw :=
  ((opsL E xs f 0 s).2.2.add ⟨(opsL E xs f 0 s).2.1, y, 12, -1, -1, op, (op0 (opsL E xs f 0 s).1).1, (op0 (opsL E xs f 0 s).1).2, (op1 (opsL E xs f 0 s).1).1, (op1 (opsL E xs f 0 s).1).2⟩).add
    ⟨(opsL E xs f 0 s).2.1, n, 12, -1, -1, notI op, (op0 (opsL E xs f 0 s).1).1, (op0 (opsL E xs f 0 s).1).2, (op1 (opsL E xs f 0 s).1).1, (op1 (opsL E xs f 0 s).1).2⟩
def cdK (E : Lv) (k op : Int) (xs : List Nd) (hs : List (Int → Int → Int → Lw → Lw)) (f y n : Int) (s : Lw) : Lw :=
  if k = 1 then s.add (edgeE f y 1) else if k = 2 then s.add (edgeE f n 1) else if k = 3 then cmpE E op xs f y n s
  else if k = 4 then cnR hs 0 f n y s
  else if k = 5 then cnR hs 1 s.pts y n (cnR hs 0 f s.pts n s.fresh)
  else cnR hs 1 s.pts y n (cnR hs 0 f y s.pts s.fresh)
mutual
def cdN (E : Lv) : Nd → Int → Int → Int → Lw → Lw
  | .mk _ k n _ xs cs _ _ => cdK E k n xs (cdL E cs)
def cdL (E : Lv) : List Nd → List (Int → Int → Int → Lw → Lw)
  | [] => []
  | x :: r => cdN E x :: cdL E r
end
theorem cdL_at (E : Lv) : ∀ (l : List Nd) (i : Nat) (hi : i < l.length), cnR (cdL E l) i = cdN E l[i]
  | [], i, hi => by simp at hi
  | x :: r, 0, _ => by unfold cdL cnR; rfl
  | x :: r, i + 1, hi => by
    have h := cdL_at E r i (by simpa using hi)
    unfold cdL
    unfold cnR at h ⊢
    simpa using h
/-- Where a block begins that goes to t. -/
def begP (e : Bool) (t : Int) (s : Lw) : Int := if e then t else s.pts
def begS (e : Bool) (s : Lw) : Lw := if e then s else s.fresh
def asgP (E : Lv) (nm : ByteArray) (x : Nd) (f t : Int) (s : Lw) : Lw := match simN E x with
  | some o => s.add ⟨f, t, 2, (E.pl nm : Int), -1, 0, o.1, o.2, -1, 0⟩
  | none => intoN E x (E.pl nm : Int) f t 0 s
def stoP (E : Lv) (nm : ByteArray) (xs : List Nd) (f t : Int) (s : Lw) : Lw :=
  (opsL E xs f 0 s).2.2.add ⟨(opsL E xs f 0 s).2.1, t, 11, -1, (E.pl nm : Int), 0, (op0 (opsL E xs f 0 s).1).1, (op0 (opsL E xs f 0 s).1).2, (op1 (opsL E xs f 0 s).1).1, (op1 (opsL E xs f 0 s).1).2⟩
def noNd : Nd := .mk .E 1 0 ⟨#[]⟩ [] [] [] []
def lwK (E : Lv) (k : Int) (nm : ByteArray) (xs : List Nd) (hs : List (Int → Int → Int → Lw → Lw)) (te ee : Bool) (tb eb : Int → Int → Lw → Lw) (f t : Int) (s : Lw) : Lw :=
  if k = 1 then asgP E nm (xs.getD 0 noNd) f t s
  else if k = 2 then stoP E nm xs f t s
  else if k = 3 then eb (begP ee t (begS te s)) t (tb (begP te t s) t (cnR hs 0 f (begP te t s) (begP ee t (begS te s)) (begS ee (begS te s))))
  else if k = 4 then tb (begP te f s) f (cnR hs 0 f (begP te f s) t (begS te s))
  else if k = 5 then ((cnR hs 0 f s.pts (s.pts + 1) s.fresh.fresh).add (edgeE s.pts t 13)).add (edgeE (s.pts + 1) t 14)
  else if k = 6 then cnR hs 0 f t s.ext s
  else s.add (edgeE f t 1)
/-- A block: its points come first. -/
def blkF (n : Nat) (b : Int → Int → Int → Lw → Lw) (f t : Int) (s : Lw) : Lw := b f s.pts t (s.more (n - 1))
mutual
def lwN (E : Lv) : Nd → Int → Int → Lw → Lw
  | .mk _ k _ nm xs cs ts es => lwK E k nm xs (cdL E cs) ts.isEmpty es.isEmpty (blkF ts.length (lwL E ts)) (blkF es.length (lwL E es))
def lwL (E : Lv) : List Nd → Int → Int → Int → Lw → Lw
  | [], _, _, _, s => s
  | x :: r, f, p, t, s => lwL E r (if r.isEmpty then t else p) (p + 1) t (lwN E x f (if r.isEmpty then t else p) s)
end
def lwB (E : Lv) (l : List Nd) (f t : Int) (s : Lw) : Lw := blkF l.length (lwL E l) f t s
/-- A program: point 0, Exit, the body. -/
def lowP (E : Lv) (ss : List Nd) : Lw := lwB E ss 0 (begP ss.isEmpty 0 ⟨1, 0, 0, []⟩) { begS ss.isEmpty ⟨1, 0, 0, []⟩ with ext := begP ss.isEmpty 0 ⟨1, 0, 0, []⟩ }

mutual
/-- How many nodes. -/
def szN : Nd → Nat
  | .mk _ _ _ _ xs cs ts es => 1 + (szL xs + (szL cs + (szL ts + szL es)))
def szL : List Nd → Nat
  | [] => 0
  | x :: r => szN x + szL r
end
/-- From s on c points, and e edges, at most; Exit stays. -/
structure Gw (c e : Nat) (s s' : Lw) : Prop where
  p0 : s.pts ≤ s'.pts
  p1 : s'.pts ≤ s.pts + c
  e0 : s.eds.length ≤ s'.eds.length
  e1 : s'.eds.length ≤ s.eds.length + e
  ext : s'.ext = s.ext
theorem Gw.refl (s : Lw) : Gw 0 0 s s := ⟨Int.le_refl _, by omega, Nat.le_refl _, Nat.le_refl _, rfl⟩
theorem Gw.trans {c e c' e' : Nat} {a b d : Lw} (h : Gw c e a b) (k : Gw c' e' b d) : Gw (c + c') (e + e') a d := by
  obtain ⟨h1, h2, h3, h4, h5⟩ := h
  obtain ⟨k1, k2, k3, k4, k5⟩ := k
  exact ⟨by omega, by push_cast; omega, by omega, by omega, k5.trans h5⟩
theorem Gw.mono {c e c' e' : Nat} {a b : Lw} (h : Gw c e a b) (hc : c ≤ c') (he : e ≤ e') : Gw c' e' a b := by
  obtain ⟨h1, h2, h3, h4, h5⟩ := h
  exact ⟨h1, by omega, h3, by omega, h5⟩
theorem Gw.add (s : Lw) (e : Ed) : Gw 0 1 s (s.add e) := ⟨Int.le_refl _, by simp [Lw.add], by simp [Lw.add], by simp [Lw.add], rfl⟩
theorem Gw.fresh (s : Lw) : Gw 1 0 s s.fresh := ⟨by simp only [Lw.fresh]; omega, by simp [Lw.fresh], by simp [Lw.fresh], by simp [Lw.fresh], rfl⟩
theorem Gw.temp (s : Lw) (d : Int) : Gw 0 0 s (s.temp d) := ⟨Int.le_refl _, by simp [Lw.temp], by simp [Lw.temp], by simp [Lw.temp], rfl⟩
theorem Gw.more (s : Lw) (n : Nat) : Gw n 0 s (s.more n) := ⟨by simp only [Lw.more]; omega, by simp [Lw.more], by simp [Lw.more], by simp [Lw.more], rfl⟩
theorem Gw.beg (e : Bool) (s : Lw) : Gw 1 0 s (begS e s) := by
  unfold begS
  cases e
  · exact Gw.fresh s
  · exact (Gw.refl s).mono (by omega) (by omega)
mutual
theorem opN_gr (E : Lv) : ∀ (x : Nd) (q d : Int) (s : Lw), Gw (4 * szN x) (4 * szN x) s (opN E x q d s).2.2
  | .mk ty k n nm xs cs ts es, q, d, s => by
    have hs : szN (.mk ty k n nm xs cs ts es) = 1 + (szL xs + (szL cs + (szL ts + szL es))) := by rw [szN]
    rw [opN]
    cases simK E k nm (conK k n xs) with
    | some o => exact (Gw.refl s).mono (by omega) (by omega)
    | none => exact ((((Gw.temp s d).trans (Gw.fresh _)).trans (opsL_gr E xs q d _)).trans (Gw.add _ _)).mono (by omega) (by omega)
theorem opsL_gr (E : Lv) : ∀ (l : List Nd) (q d : Int) (s : Lw), Gw (4 * szL l) (4 * szL l) s (opsL E l q d s).2.2
  | [], q, d, s => by rw [opsL]; exact (Gw.refl s).mono (by omega) (by omega)
  | x :: r, q, d, s => by
    have hs : szL (x :: r) = szN x + szL r := by rw [szL]
    rw [opsL]
    exact ((opN_gr E x q d s).trans (opsL_gr E r _ _ _)).mono (by omega) (by omega)
end
theorem args_sz (x : Nd) : 1 + szL (argsN x) ≤ szN x := by
  cases x
  rw [szN]
  simp only [argsN]
  omega
theorem into_gr (E : Lv) (x : Nd) (dst f t d : Int) (s : Lw) : Gw (4 * szN x) (4 * szN x) s (intoN E x dst f t d s) := by
  have := args_sz x
  unfold intoN
  exact ((opsL_gr E (argsN x) f d s).trans (Gw.add _ _)).mono (by omega) (by omega)
theorem cmp_gr (E : Lv) (op : Int) (xs : List Nd) (f y n : Int) (s : Lw) : Gw (4 * szL xs) (4 * szL xs + 2) s (cmpE E op xs f y n s) := by
  unfold cmpE
  exact (((opsL_gr E xs f 0 s).trans (Gw.add _ _)).trans (Gw.add _ _)).mono (by omega) (by omega)
theorem cdK_gr (E : Lv) (k op : Int) (xs : List Nd) {hs : List (Int → Int → Int → Lw → Lw)} {a0 a1 c : Nat} (h0 : ∀ f y n s, Gw a0 a0 s (cnR hs 0 f y n s)) (h1 : ∀ f y n s, Gw a1 a1 s (cnR hs 1 f y n s)) (hc : a0 + a1 ≤ c) (f y n : Int) (s : Lw) : Gw (4 + (4 * szL xs + c)) (4 + (4 * szL xs + c)) s (cdK E k op xs hs f y n s) := by
  unfold cdK
  split
  · exact (Gw.add s _).mono (by omega) (by omega)
  split
  · exact (Gw.add s _).mono (by omega) (by omega)
  split
  · exact (cmp_gr E op xs f y n s).mono (by omega) (by omega)
  split
  · exact (h0 f n y s).mono (by omega) (by omega)
  split
  · exact (((Gw.fresh s).trans (h0 _ _ _ _)).trans (h1 _ _ _ _)).mono (by omega) (by omega)
  · exact (((Gw.fresh s).trans (h0 _ _ _ _)).trans (h1 _ _ _ _)).mono (by omega) (by omega)
/-- How great the i-th one is. -/
def szA (l : List Nd) (i : Nat) : Nat := match l[i]? with
  | some x => szN x
  | none => 0
theorem szA_le : ∀ (l : List Nd), szA l 0 + szA l 1 ≤ szL l
  | [] => by simp [szA]
  | [x] => by simp [szA, szL]
  | x :: y :: r => by simp [szA, szL]
mutual
theorem cdN_gr (E : Lv) : ∀ (x : Nd) (f y n : Int) (s : Lw), Gw (4 * szN x) (4 * szN x) s (cdN E x f y n s)
  | .mk ty k m nm xs cs ts es, f, y, n, s => by
    have hs : szN (.mk ty k m nm xs cs ts es) = 1 + (szL xs + (szL cs + (szL ts + szL es))) := by rw [szN]
    have := szA_le cs
    rw [cdN]
    exact (cdK_gr E k m xs (fun f y n s => cdL_gr E cs 0 f y n s) (fun f y n s => cdL_gr E cs 1 f y n s) (c := 4 * szL cs) (by omega) f y n s).mono (by omega) (by omega)
theorem cdL_gr (E : Lv) : ∀ (l : List Nd) (i : Nat) (f y n : Int) (s : Lw), Gw (4 * szA l i) (4 * szA l i) s (cnR (cdL E l) i f y n s)
  | [], i, f, y, n, s => by unfold cdL cnR; simp only [List.getD_nil]; exact (Gw.refl s).mono (by omega) (by omega)
  | x :: r, 0, f, y, n, s => by
    have := cdN_gr E x f y n s
    unfold cdL cnR
    exact this
  | x :: r, i + 1, f, y, n, s => by
    have := cdL_gr E r i f y n s
    unfold cdL
    unfold cnR at this ⊢
    simpa [szA] using this
end
theorem getD_sz (l : List Nd) : szN (l.getD 0 noNd) ≤ 1 + szL l := by
  cases l with
  | nil => simp [szN, szL, noNd]
  | cons x r => simp [szL]; omega
theorem asg_gr (E : Lv) (nm : ByteArray) (x : Nd) (f t : Int) (s : Lw) : Gw (4 * szN x) (4 * szN x) s (asgP E nm x f t s) := by
  have := args_sz x
  unfold asgP
  split
  · exact (Gw.add s _).mono (by omega) (by omega)
  · exact into_gr E x _ f t 0 s
theorem len_sz : ∀ (l : List Nd), l.length ≤ szL l
  | [] => Nat.le_refl _
  | x :: r => by
    have := len_sz r
    have := args_sz x
    rw [szL, List.length_cons]
    omega
theorem lwK_gr (E : Lv) (k : Int) (nm : ByteArray) {xs : List Nd} {hs : List (Int → Int → Int → Lw → Lw)} {te ee : Bool} {tb eb : Int → Int → Lw → Lw} {a b c x : Nat} (hx : k = 1 → szN (xs.getD 0 noNd) ≤ x) (hx2 : szL xs ≤ x) (h0 : ∀ f y n s, Gw a a s (cnR hs 0 f y n s)) (ht : ∀ f t s, Gw b b s (tb f t s)) (he : ∀ f t s, Gw c c s (eb f t s)) (f t : Int) (s : Lw) : Gw (2 + (4 * x + a + (b + c))) (2 + (4 * x + a + (b + c))) s (lwK E k nm xs hs te ee tb eb f t s) := by
  unfold lwK
  split
  · rename_i h1
    have := hx h1
    exact (asg_gr E nm _ f t s).mono (by omega) (by omega)
  split
  · exact ((opsL_gr E xs f 0 s).trans (Gw.add _ _)).mono (by omega) (by omega)
  split
  · exact (((((Gw.beg te s).trans (Gw.beg ee _)).trans (h0 _ _ _ _)).trans (ht _ _ _)).trans (he _ _ _)).mono (by omega) (by omega)
  split
  · exact (((Gw.beg te s).trans (h0 _ _ _ _)).trans (ht _ _ _)).mono (by omega) (by omega)
  split
  · exact (((((Gw.fresh s).trans (Gw.fresh _)).trans (h0 _ _ _ _)).trans (Gw.add _ _)).trans (Gw.add _ _)).mono (by omega) (by omega)
  split
  · exact (h0 _ _ _ _).mono (by omega) (by omega)
  · exact (Gw.add s _).mono (by omega) (by omega)
theorem blk_gr {n c : Nat} {b : Int → Int → Int → Lw → Lw} (h : ∀ f p t s, Gw c c s (b f p t s)) (f t : Int) (s : Lw) : Gw (n - 1 + c) (n - 1 + c) s (blkF n b f t s) := by
  unfold blkF
  exact ((Gw.more s _).trans (h _ _ _ _)).mono (by omega) (by omega)
mutual
theorem lwN_gr (E : Lv) : ∀ (x : Nd) (f t : Int) (s : Lw), Gw (8 * szN x - 1) (8 * szN x - 1) s (lwN E x f t s)
  | .mk ty k n nm xs cs ts es, f, t, s => by
    have hs : szN (.mk ty k n nm xs cs ts es) = 1 + (szL xs + (szL cs + (szL ts + szL es))) := by rw [szN]
    have h1 := getD_sz xs
    have h2 := szA_le cs
    have h3 := len_sz ts
    have h4 := len_sz es
    rw [lwN]
    exact (lwK_gr E k nm (x := 1 + szL xs) (fun _ => h1) (by omega) (fun f y n s => cdL_gr E cs 0 f y n s) (b := 8 * szL ts) (c := 8 * szL es) (fun f t s => (blk_gr (fun f p t s => lwL_gr E ts f p t s) f t s).mono (by omega) (by omega)) (fun f t s => (blk_gr (fun f p t s => lwL_gr E es f p t s) f t s).mono (by omega) (by omega)) f t s).mono (by omega) (by omega)
theorem lwL_gr (E : Lv) : ∀ (l : List Nd) (f p t : Int) (s : Lw), Gw (8 * szL l - l.length) (8 * szL l - l.length) s (lwL E l f p t s)
  | [], f, p, t, s => by rw [lwL]; exact (Gw.refl s).mono (by omega) (by omega)
  | x :: r, f, p, t, s => by
    have hs : szL (x :: r) = szN x + szL r := by rw [szL]
    have h1 := len_sz r
    have h2 := args_sz x
    have h3 : (x :: r).length = r.length + 1 := rfl
    rw [lwL]
    exact ((lwN_gr E x _ _ _).trans (lwL_gr E r _ _ _ _)).mono (by omega) (by omega)
end
end Go.Proofs.YtjpopelbdhgidaaGreatDoor

/-
  Plain: a graph, whether it is one, the edges from each point, the walk through it; proved is how the walk goes on.
-/
namespace Go.Proofs.YtjpopelbdhgidaaGreatDoor
open Go Go.RowKit

/-- A graph. -/
structure Gf where
  vs : List ByteArray
  tmp : Int
  ar : List Nd
  pts : Int
  ext : Int
  es : List Ed
def amg (i n : Int) : Bool := decide (0 ≤ i) && decide (i < n)
theorem amg_true {i n : Int} (h : amg i n = true) : 0 ≤ i ∧ i < n := by simpa [amg] using h
/-- Which fields of an edge have a meaning. -/
def kDst (k : Int) : Bool := decide (2 ≤ k ∧ k ≤ 10)
def kArr (k : Int) : Bool := decide (k = 10 ∨ k = 11)
def kOp (k : Int) : Bool := decide (k = 12)
def kA (k : Int) : Bool := decide ((2 ≤ k ∧ k ≤ 8) ∨ (10 ≤ k ∧ k ≤ 12))
def kB (k : Int) : Bool := decide ((4 ≤ k ∧ k ≤ 8) ∨ k = 11 ∨ k = 12)
def plc (has : Bool) (i n : Int) : Bool := if has then amg i n else i == -1
def cmps (has : Bool) (op : Int) : Bool := if has then decide (1 ≤ op) && decide (op ≤ 6) else op == 0
def opd (has : Bool) (v m n : Int) : Bool := if has then (v == -1) || (amg v n && m == 0) else (v == -1) && (m == 0)
def kdR (k : Int) : Bool := decide (1 ≤ k ∧ k ≤ 14)
def endR (pts ext : Int) (e : Ed) : Bool := amg e.fr pts && amg e.dt pts && e.fr != ext
def namR (nv na : Int) (e : Ed) : Bool := plc (kDst e.kd) e.dst nv && plc (kArr e.kd) e.arr na && cmps (kOp e.kd) e.op
def edR (nv na pts ext : Int) (e : Ed) : Bool := kdR e.kd && (endR pts ext e && namR nv na e && opd (kA e.kd) e.av e.an nv && opd (kB e.kd) e.bv e.bn nv)
def noE : Ed := edgeE 0 0 0
/-- The edges from a point, of the first k. -/
def outT (es : List Ed) (k p : Nat) : List Nat := (List.range k).filter fun j => (es.getD j noE).fr == (p : Int)
theorem outT_succ (es : List Ed) (k p : Nat) : outT es (k + 1) p = outT es k p ++ (if (es.getD k noE).fr == (p : Int) then [k] else []) := by
  unfold outT
  rw [List.range_succ, List.filter_append]
  congr 1
  simp only [List.filter_cons, List.filter_nil]
theorem outT_lt {es : List Ed} {k p j : Nat} (h : j ∈ outT es k p) : j < k ∧ (es.getD j noE).fr = (p : Int) := by
  unfold outT at h
  rw [List.mem_filter, List.mem_range] at h
  exact ⟨h.1, by simpa using h.2⟩
theorem outT_len (es : List Ed) (k p : Nat) : (outT es k p).length ≤ k := by
  unfold outT
  exact Nat.le_trans (List.length_filter_le _ _) (by simp)
def outL (es : List Ed) (p : Nat) : List Nat := outT es es.length p
def ctr (e f : Ed) : Bool := e.kd == 12 && f.kd == 12 && (e.av == f.av && e.an == f.an) && (e.bv == f.bv && e.bn == f.bn) && f.op == notI e.op
def tog (es : List Ed) : List Nat → Bool
  | [] => true
  | [a] => (es.getD a noE).kd != 12
  | [a, b] => ctr (es.getD a noE) (es.getD b noE)
  | _ :: _ :: _ :: _ => false

def szD (d : Nd) : Bool := decide (1 ≤ dSz d) && decide (dSz d ≤ 1024)
def Gf.nv (g : Gf) : Int := (g.vs.length : Int) + g.tmp
def Gf.n (g : Gf) : Nat := g.pts.toNat
def sizedG (g : Gf) : Bool := decide (g.ar.length ≤ 16) && g.ar.all szD
def rightG (g : Gf) : Bool := g.es.all (edR g.nv (g.ar.length : Int) g.pts g.ext)
def forkG (g : Gf) : Bool := (List.range g.n).all fun p => tog g.es (outL g.es p)
def frm (g : Gf) : Bool := sizedG g && amg g.ext g.pts && rightG g && forkG g

/-- A walk: which points were begun, which are done. -/
structure Vs where
  bg : List Bool
  dn : List Nat
def Vs.start (s : Vs) (p : Nat) : Vs := { s with bg := s.bg.set p true }
def Vs.fin (s : Vs) (p : Nat) : Vs := { s with dn := s.dn ++ [p] }
def Vs.un (s : Vs) : Nat := s.bg.count false
def dfs (S : Nat → List Nat) : Nat → Nat → Vs → Vs
  | 0 => fun _ s => s
  | f + 1 => fun p s => ((S p).foldl (fun s t => if s.bg.getD t true then s else dfs S f t s) (s.start p)).fin p
def dfsL (S : Nat → List Nat) (f : Nat) (l : List Nat) (s : Vs) : Vs := l.foldl (fun s t => if s.bg.getD t true then s else dfs S f t s) s
theorem dfs_succ (S : Nat → List Nat) (f p : Nat) (s : Vs) : dfs S (f + 1) p s = (dfsL S f (S p) (s.start p)).fin p := rfl
theorem dfsL_snoc (S : Nat → List Nat) (f : Nat) (l : List Nat) (t : Nat) (s : Vs) : dfsL S f (l ++ [t]) s = if (dfsL S f l s).bg.getD t true then dfsL S f l s else dfs S f t (dfsL S f l s) := by
  unfold dfsL
  rw [List.foldl_append]
  rfl
/-- What is so of a walk of n points: k are begun, and not done. -/
structure Vok (n k : Nat) (s : Vs) : Prop where
  len : s.bg.length = n
  cnt : s.dn.length + s.un + k = n
  dn : ∀ x ∈ s.dn, x < n
theorem count_set : ∀ (l : List Bool) (p : Nat), l.getD p true = false → (l.set p true).count false + 1 = l.count false
  | [], p, h => by simp at h
  | x :: r, 0, h => by
    have hx : x = false := by simpa using h
    subst hx
    simp
  | x :: r, p + 1, h => by
    have := count_set r p (by simpa using h)
    simp only [List.set_cons_succ, List.count_cons]
    omega
theorem Vok.start {n k : Nat} {s : Vs} (h : Vok n k s) {p : Nat} (hp : s.bg.getD p true = false) : Vok n (k + 1) (s.start p) ∧ (s.start p).un + 1 = s.un := by
  have hc := count_set s.bg p hp
  refine ⟨⟨by simp [Vs.start, h.len], ?_, h.dn⟩, hc⟩
  have := h.cnt
  unfold Vs.un at this ⊢
  unfold Vs.start
  simp only
  omega
theorem Vok.fin {n k : Nat} {s : Vs} (h : Vok n (k + 1) s) {p : Nat} (hp : p < n) : Vok n k (s.fin p) := by
  refine ⟨h.len, ?_, ?_⟩
  · have := h.cnt
    unfold Vs.un at this ⊢
    unfold Vs.fin
    simp only [List.length_append, List.length_singleton]
    omega
  · intro x hx
    unfold Vs.fin at hx
    simp only [List.mem_append, List.mem_singleton] at hx
    rcases hx with hx | rfl
    · exact h.dn x hx
    · exact hp
theorem un_pos {s : Vs} {p : Nat} (hp : s.bg.getD p true = false) : 1 ≤ s.un := by
  have := count_set s.bg p hp
  unfold Vs.un
  omega
theorem begun_lt {s : Vs} {n p : Nat} (hl : s.bg.length = n) (hp : s.bg.getD p true = false) : p < n := by
  rw [← hl]
  by_cases h : p < s.bg.length
  · exact h
  · rw [List.getD_eq_getElem?_getD, List.getElem?_eq_none (by omega)] at hp
    cases hp
theorem dfs_ok (S : Nat → List Nat) (n : Nat) : ∀ (f p : Nat) (s : Vs) (k : Nat), Vok n k s → s.bg.getD p true = false → s.un ≤ f → Vok n k (dfs S f p s) ∧ (dfs S f p s).un ≤ s.un
  | 0, p, s, k, h, hp, hu => by
    have := un_pos hp
    omega
  | f + 1, p, s, k, h, hp, hu => by
    obtain ⟨h1, h2⟩ := h.start hp
    have hl : ∀ (l : List Nat) (s : Vs), Vok n (k + 1) s → s.un ≤ f → Vok n (k + 1) (dfsL S f l s) ∧ (dfsL S f l s).un ≤ s.un := by
      intro l
      induction l with
      | nil => intro s hs _; exact ⟨hs, Nat.le_refl _⟩
      | cons t r ih =>
        intro s hs hu
        show Vok n (k + 1) (dfsL S f r (if s.bg.getD t true then s else dfs S f t s)) ∧ (dfsL S f r (if s.bg.getD t true then s else dfs S f t s)).un ≤ s.un
        cases hb : s.bg.getD t true with
        | true => rw [if_pos rfl]; exact ih s hs hu
        | false =>
          rw [if_neg (by simp)]
          obtain ⟨g1, g2⟩ := dfs_ok S n f t s (k + 1) hs hb hu
          obtain ⟨e1, e2⟩ := ih _ g1 (by omega)
          exact ⟨e1, by omega⟩
    obtain ⟨h3, h4⟩ := hl (S p) (s.start p) h1 (by omega)
    rw [dfs_succ]
    refine ⟨h3.fin (begun_lt h.len hp), ?_⟩
    show (dfsL S f (S p) (s.start p)).un ≤ s.un
    omega
theorem dfsL_ok (S : Nat → List Nat) (n f : Nat) : ∀ (l : List Nat) (s : Vs) (k : Nat), Vok n k s → s.un ≤ f → Vok n k (dfsL S f l s) ∧ (dfsL S f l s).un ≤ s.un
  | [], s, k, h, _ => ⟨h, Nat.le_refl _⟩
  | t :: r, s, k, h, hu => by
    show Vok n k (dfsL S f r (if s.bg.getD t true then s else dfs S f t s)) ∧ (dfsL S f r (if s.bg.getD t true then s else dfs S f t s)).un ≤ s.un
    cases hb : s.bg.getD t true with
    | true => rw [if_pos rfl]; exact dfsL_ok S n f r s k h hu
    | false =>
      rw [if_neg (by simp)]
      obtain ⟨g1, g2⟩ := dfs_ok S n f t s k h hb hu
      obtain ⟨e1, e2⟩ := dfsL_ok S n f r _ k g1 (by omega)
      exact ⟨e1, by omega⟩
def sucG (es : List Ed) (p : Nat) : List Nat := (outL es p).map fun j => (es.getD j noE).dt.toNat
def startV (n : Nat) : Vs := ⟨List.replicate n false, []⟩
theorem startV_ok (n : Nat) : Vok n 0 (startV n) := ⟨by simp [startV], by simp [startV, Vs.un], fun x hx => by simp [startV] at hx⟩
def walkG (g : Gf) : Vs := dfs (sucG g.es) g.n 0 (startV g.n)
theorem walkG_ok (g : Gf) (h : 0 < g.n) : Vok g.n 0 (walkG g) :=
  (dfs_ok (sucG g.es) g.n g.n 0 (startV g.n) 0 (startV_ok _) (by simp [startV, h]) (by simp [startV, Vs.un])).1
/-- The points that weren't begun, of the first k. -/
def restT (s : Vs) (k : Nat) : List Nat := (List.range k).filter fun p => !(s.bg.getD p true)
theorem restT_succ (s : Vs) (k : Nat) : restT s (k + 1) = restT s k ++ (if s.bg.getD k true then [] else [k]) := by
  unfold restT
  rw [List.range_succ, List.filter_append]
  congr 1
  simp only [List.filter_cons, List.filter_nil]
  cases s.bg.getD k true <;> rfl
theorem restT_len : ∀ (l : List Bool) (dn : List Nat), (restT ⟨l, dn⟩ l.length).length = l.count false := by
  intro l dn
  have h : ∀ k, k ≤ l.length → (restT ⟨l, dn⟩ k).length = (l.take k).count false := by
    intro k
    induction k with
    | zero => intro _; simp [restT]
    | succ k ih =>
      intro hk
      rw [restT_succ, List.length_append, ih (by omega), ← List.take_append_getElem (by omega : k < l.length), List.count_append]
      congr 1
      simp only
      rw [List.getD_eq_getElem?_getD, List.getElem?_eq_getElem (by omega : k < l.length), Option.getD_some]
      cases l[k] <;> simp
  rw [h _ (Nat.le_refl _), List.take_length]
def orderG (g : Gf) : List Nat := (walkG g).dn.reverse ++ restT (walkG g) g.n
theorem orderG_len (g : Gf) (h : 0 < g.n) : (orderG g).length = g.n := by
  have ho := walkG_ok g h
  unfold orderG
  rw [List.length_append, List.length_reverse]
  have h2 := restT_len (walkG g).bg (walkG g).dn
  rw [ho.len] at h2
  have h3 := ho.cnt
  unfold Vs.un at h3
  have e : (⟨(walkG g).bg, (walkG g).dn⟩ : Vs) = walkG g := rfl
  rw [e] at h2
  omega
theorem restT_lt {s : Vs} {k p : Nat} (h : p ∈ restT s k) : p < k := by
  unfold restT at h
  rw [List.mem_filter, List.mem_range] at h
  exact h.1
theorem orderG_lt (g : Gf) (h : 0 < g.n) : ∀ x ∈ orderG g, x < g.n := by
  intro x hx
  unfold orderG at hx
  rw [List.mem_append, List.mem_reverse] at hx
  rcases hx with hx | hx
  · exact (walkG_ok g h).dn x hx
  · exact restT_lt hx
/-- The place of each point in an order, of its first k items. -/
def atT (n : Nat) (l : List Nat) : Nat → List Nat
  | 0 => List.replicate n 0
  | k + 1 => (atT n l k).set (l.getD k 0) k
theorem atT_len (n : Nat) (l : List Nat) : ∀ k, (atT n l k).length = n
  | 0 => by simp [atT]
  | k + 1 => by rw [atT, List.length_set]; exact atT_len n l k
def isBack (a : List Nat) (e : Ed) : Bool := decide (a.getD e.dt.toNat 0 ≤ a.getD e.fr.toNat 0)
/-- The points to which an edge goes back, of the first k. -/
def backT (n : Nat) (a : List Nat) (es : List Ed) : Nat → List Bool
  | 0 => List.replicate n false
  | k + 1 => (backT n a es k).set (es.getD k noE).dt.toNat ((backT n a es k).getD (es.getD k noE).dt.toNat false || isBack a (es.getD k noE))
theorem backT_len (n : Nat) (a : List Nat) (es : List Ed) : ∀ k, (backT n a es k).length = n
  | 0 => by simp [backT]
  | k + 1 => by rw [backT, List.length_set]; exact backT_len n a es k
/-- The points that are told so, of the first k. -/
def trueT (b : List Bool) (k : Nat) : List Nat := (List.range k).filter fun p => b.getD p false
theorem trueT_succ (b : List Bool) (k : Nat) : trueT b (k + 1) = trueT b k ++ (if b.getD k false then [k] else []) := by
  unfold trueT
  rw [List.range_succ, List.filter_append]
  congr 1
  simp only [List.filter_cons, List.filter_nil]
theorem trueT_len (b : List Bool) (k : Nat) : (trueT b k).length ≤ k := by
  unfold trueT
  exact Nat.le_trans (List.length_filter_le _ _) (by simp)
def tgtT (n : Nat) (es : List Ed) (l : List Nat) : List Nat := trueT (backT n (atT n l l.length) es es.length) n
def headsG (g : Gf) : List Nat := tgtT g.n g.es (orderG g)
end Go.Proofs.YtjpopelbdhgidaaGreatDoor
