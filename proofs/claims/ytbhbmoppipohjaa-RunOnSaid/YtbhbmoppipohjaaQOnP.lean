/-
  Plain: one step more goes on from a run; one that has ended stays; inputs are the script's; those behind don't matter (P8.3).
-/
import Derived.Test.YtbhbmoppipohjaaQLook
import Derived.Test.YtbhbmoppipohjaaQRunX
/-
  Plain: what a run never takes back (steps, events, inputs); and two runs side by side, in step until they part.
-/
namespace Go.Proofs.Ytbhbmoppipohjaa
open Go Go.RowKit

/-- The inputs among events. -/
def insV (t : List (Bool × Int × Bool)) : List Int := (t.filter fun e => e.1).map fun e => e.2.1
/-- What has come later: no fewer steps, and no more than may be; events behind those that were; inputs taken from the front. -/
def Lv (m : Nat) (s s' : Rn) : Prop := s.steps ≤ s'.steps ∧ (s.steps ≤ m → s'.steps ≤ m) ∧ ∃ t, s'.evs = s.evs ++ t ∧ s.left = insV t ++ s'.left
theorem Lv.refl (m : Nat) (s : Rn) : Lv m s s := ⟨Nat.le_refl _, id, [], (List.append_nil _).symm, rfl⟩
theorem Lv.trans {m : Nat} {s s' s2 : Rn} (h : Lv m s s') (h2 : Lv m s' s2) : Lv m s s2 := by
  obtain ⟨a1, a2, t, a3, a4⟩ := h
  obtain ⟨b1, b2, u, b3, b4⟩ := h2
  refine ⟨Nat.le_trans a1 b1, fun h => b2 (a2 h), t ++ u, by rw [b3, a3, List.append_assoc], ?_⟩
  rw [a4, b4]
  simp [insV]
/-- As 'Lv', of what a part comes to. -/
def Lu {α : Type} (m : Nat) (s : Rn) (r : Res α) : Prop := Lv m s r.at
theorem Lu.bind {α β : Type} {m : Nat} {s : Rn} {r : Res α} {f : α → Rn → Res β} (h : Lu m s r) (hf : ∀ a s, Lu m s (f a s)) : Lu m s (r.bind f) := by
  cases r with
  | go a s' => exact Lv.trans h (hf a s')
  | stop x y s' => exact h
theorem lu_ite {α : Type} {m : Nat} {s : Rn} {p : Prop} [Decidable p] {a b : Res α} (ha : Lu m s a) (hb : Lu m s b) : Lu m s (if p then a else b) := by split <;> assumption
theorem step_lu (E : Rv) (s : Rn) : Lu E.most s (stepR E s) := by
  unfold stepR
  split
  · exact Lv.refl _ _
  · rename_i hne
    exact ⟨Nat.le_succ _, fun h => Nat.lt_of_le_of_ne h hne, [], (List.append_nil _).symm, rfl⟩
theorem note_lu (m : Nat) (n : Int) (h : Bool) (s : Rn) : Lv m s (noteR false n h s) := ⟨Nat.le_refl _, id, [(false, n, h)], rfl, rfl⟩
theorem input_lu (E : Rv) (s : Rn) : Lu E.most s (inputR E s) := by
  unfold inputR
  split
  · exact Lv.refl _ _
  · rename_i x r hl
    unfold stepR
    split
    · exact Lv.refl _ _
    · rename_i hne
      exact ⟨Nat.le_succ _, fun h => Nat.lt_of_le_of_ne h hne, [(true, x, false)], rfl, hl⟩
theorem do_lu (E : Rv) (k a b : Int) (s : Rn) : Lu E.most s (doK E k a b s) := (step_lu E s).bind fun _ _ => lu_ite (Lv.refl _ _) (Lv.refl _ _)
theorem item_lu (E : Rv) (nm : ByteArray) (i : Int) (s : Rn) : Lu E.most s (itemR E nm i s) := (step_lu E s).bind fun _ _ => lu_ite (Lv.refl _ _) (Lv.refl _ _)
theorem fn_lu {m : Nat} {fs : List (Rn → Res Int)} (h : ∀ f ∈ fs, ∀ s, Lu m s (f s)) (i : Nat) (s : Rn) : Lu m s (fnR fs i s) := by
  unfold fnR
  rw [List.getD_eq_getElem?_getD]
  cases hi : fs[i]? with
  | none => exact Lv.refl _ _
  | some f => exact h f (List.mem_of_getElem? hi) s
theorem hn_lu {m : Nat} {fs : List (Rn → Res Bool)} (h : ∀ f ∈ fs, ∀ s, Lu m s (f s)) (i : Nat) (s : Rn) : Lu m s (hnR fs i s) := by
  unfold hnR
  rw [List.getD_eq_getElem?_getD]
  cases hi : fs[i]? with
  | none => exact Lv.refl _ _
  | some f => exact h f (List.mem_of_getElem? hi) s
theorem valK_lu (E : Rv) (k : Int) (nm : ByteArray) (c : Option Int) {fs : List (Rn → Res Int)} (h : ∀ f ∈ fs, ∀ s, Lu E.most s (f s)) (s : Rn) : Lu E.most s (valK E k nm c fs s) := by
  unfold valK
  split
  · exact Lv.refl _ _
  · refine lu_ite (Lv.refl _ _) (lu_ite (input_lu E s) (lu_ite ?_ (lu_ite ?_ ?_)))
    · exact (fn_lu h 0 s).bind fun _ s => (item_lu E nm _ s).bind fun _ s => Lv.refl _ _
    · exact (fn_lu h 0 s).bind fun _ s => do_lu E _ _ _ s
    · exact (fn_lu h 0 s).bind fun _ s => (fn_lu h 1 s).bind fun _ s => do_lu E _ _ _ s
mutual
theorem valN_lu (E : Rv) : ∀ (x : Nd) (s : Rn), Lu E.most s (valN E x s)
  | .mk _ k n nm xs _ _ _, s => by
    unfold valN
    exact valK_lu E k nm _ (valL_lu E xs) s
theorem valL_lu (E : Rv) : ∀ (l : List Nd), ∀ f ∈ valL E l, ∀ s, Lu E.most s (f s)
  | [], f, h => by unfold valL at h; cases h
  | x :: r, f, h => by
    unfold valL at h
    rcases List.mem_cons.1 h with rfl | h
    · exact valN_lu E x
    · exact valL_lu E r f h
end
theorem hldK_lu (E : Rv) (k n : Int) {fs : List (Rn → Res Int)} {hs : List (Rn → Res Bool)} (h : ∀ f ∈ fs, ∀ s, Lu E.most s (f s)) (hh : ∀ f ∈ hs, ∀ s, Lu E.most s (f s)) (s : Rn) : Lu E.most s (hldK E k n fs hs s) := by
  unfold hldK
  refine lu_ite ?_ (lu_ite ?_ (lu_ite ?_ (lu_ite ?_ ?_)))
  · exact (hn_lu hh 0 s).bind fun _ s => Lv.refl _ _
  · exact (hn_lu hh 0 s).bind fun _ s => lu_ite (hn_lu hh 1 s) (Lv.refl _ _)
  · exact (hn_lu hh 0 s).bind fun _ s => lu_ite (Lv.refl _ _) (hn_lu hh 1 s)
  · exact (fn_lu h 0 s).bind fun _ s => (fn_lu h 1 s).bind fun _ s => (step_lu E s).bind fun _ s => Lv.refl _ _
  · exact (step_lu E s).bind fun _ s => Lv.refl _ _
mutual
theorem hldN_lu (E : Rv) : ∀ (x : Nd) (s : Rn), Lu E.most s (hldN E x s)
  | .mk _ k n nm xs cs _ _, s => by
    unfold hldN
    exact hldK_lu E k n (valL_lu E xs) (hldL_lu E cs) s
theorem hldL_lu (E : Rv) : ∀ (l : List Nd), ∀ f ∈ hldL E l, ∀ s, Lu E.most s (f s)
  | [], f, h => by unfold hldL at h; cases h
  | x :: r, f, h => by
    unfold hldL at h
    rcases List.mem_cons.1 h with rfl | h
    · exact hldN_lu E x
    · exact hldL_lu E r f h
end
theorem loop_lu {m : Nat} {h : Rn → Res Bool} {b : Rn → Res Unit} (hh : ∀ s, Lu m s (h s)) (hb : ∀ s, Lu m s (b s)) : ∀ (n : Nat) (s : Rn), Lu m s (loopR h b n s)
  | 0, _ => Lv.refl _ _
  | n + 1, s => (hh s).bind fun _ s => lu_ite ((hb s).bind fun _ s => loop_lu hh hb n s) (Lv.refl _ _)
theorem stK_lu (E : Rv) (k : Int) (nm : ByteArray) (q : Bool) {fs : List (Rn → Res Int)} {hs : List (Rn → Res Bool)} {t e : Rn → Res Unit} (h : ∀ f ∈ fs, ∀ s, Lu E.most s (f s)) (hh : ∀ f ∈ hs, ∀ s, Lu E.most s (f s)) (ht : ∀ s, Lu E.most s (t s)) (he : ∀ s, Lu E.most s (e s)) (s : Rn) : Lu E.most s (stK E k nm q fs hs t e s) := by
  unfold stK
  refine lu_ite ?_ (lu_ite ?_ (lu_ite ?_ (lu_ite ?_ (lu_ite ?_ (lu_ite ?_ (lu_ite ?_ ?_))))))
  · exact (fn_lu h 0 s).bind fun _ s => (lu_ite (step_lu E s) (show Lu E.most s (.go () s : Res Unit) from Lv.refl _ _)).bind fun _ s => Lv.refl _ _
  · exact (fn_lu h 0 s).bind fun _ s => (fn_lu h 1 s).bind fun _ s => (item_lu E nm _ s).bind fun _ s => Lv.refl _ _
  · exact (hn_lu hh 0 s).bind fun _ s => lu_ite (ht s) (he s)
  · exact loop_lu (hn_lu hh 0) ht _ s
  · exact (hn_lu hh 0 s).bind fun _ s => (step_lu E s).bind fun _ s => lu_ite (note_lu _ _ _ _) (note_lu _ _ _ _)
  · exact (hn_lu hh 0 s).bind fun _ s => lu_ite (Lv.refl _ _) (Lv.refl _ _)
  · exact step_lu E s
  · exact Lv.refl _ _
mutual
theorem stN_lu (E : Rv) : ∀ (x : Nd) (s : Rn), Lu E.most s (stN E x s)
  | .mk _ k n nm xs cs ts es, s => by
    unfold stN
    exact stK_lu E k nm _ (valL_lu E xs) (hldL_lu E cs) (stL_lu E ts) (stL_lu E es) s
theorem stL_lu (E : Rv) : ∀ (l : List Nd) (s : Rn), Lu E.most s (stL E l s)
  | [], s => by unfold stL; exact Lv.refl _ _
  | x :: r, s => by
    unfold stL
    exact (stN_lu E x s).bind fun _ s => stL_lu E r s
end

/-- Two runs: how they stand together (S), and how they stand once they have parted (D; when 'c', the first one has then ended for want of steps). -/
structure Two where
  E : Rv
  E' : Rv
  S : Rn → Rn → Prop
  D : Rn → Rn → Prop
  c : Bool
/-- Side by side: both go on with one answer, or both have ended alike, or they have parted. -/
def R2 {α : Type} (T : Two) (r r' : Res α) : Prop :=
  (∃ a s s', r = .go a s ∧ r' = .go a s' ∧ T.S s s') ∨ (∃ x y s s', r = .stop x y s ∧ r' = .stop x y s' ∧ T.S s s') ∨ ((T.c = true → ∃ s, r = .stop 1 0 s) ∧ T.D r.at r'.at)
/-- What a pair of runs must keep. -/
structure Two.ok (T : Two) : Prop where
  pl : T.E.pl = T.E'.pl
  late : ∀ s t t2, T.D s t → Lv T.E'.most t t2 → T.D s t2
  far : T.c = false → ∀ s s2 t, T.D s t → Lv T.E.most s s2 → T.D s2 t
  vars : ∀ s s', T.S s s' → s.vars = s'.vars ∧ s.arrs = s'.arrs
  put : ∀ s s' v a, T.S s s' → T.S { s with vars := v, arrs := a } { s' with vars := v, arrs := a }
  note : ∀ s s' n h, T.S s s' → T.S (noteR false n h s) (noteR false n h s')
  step : ∀ s s', T.S s s' → R2 T (stepR T.E s) (stepR T.E' s')
  input : ∀ s s', T.S s s' → R2 T (inputR T.E s) (inputR T.E' s')
  most : ∀ s s', T.S s s' → s.steps ≤ T.E.most ∧ s'.steps ≤ T.E'.most
theorem R2.go {α : Type} {T : Two} {a : α} {s s' : Rn} (h : T.S s s') : R2 T (.go a s) (.go a s') := .inl ⟨a, s, s', rfl, rfl, h⟩
theorem R2.stop {α : Type} {T : Two} {x y : Int} {s s' : Rn} (h : T.S s s') : R2 T (.stop x y s : Res α) (.stop x y s') := .inr (.inl ⟨x, y, s, s', rfl, rfl, h⟩)
theorem R2.bindE {α β : Type} {T : Two} (ht : T.ok) {r r' : Res α} {f f' : α → Rn → Res β} (h : R2 T r r') (hf : ∀ a s s', r = .go a s → r' = .go a s' → T.S s s' → R2 T (f a s) (f' a s')) (h1 : ∀ a s, Lu T.E.most s (f a s)) (h2 : ∀ a s, Lu T.E'.most s (f' a s)) : R2 T (r.bind f) (r'.bind f') := by
  rcases h with ⟨a, s, s', rfl, rfl, h⟩ | ⟨x, y, s, s', rfl, rfl, h⟩ | ⟨hc, hd⟩
  · exact hf a s s' rfl rfl h
  · exact .stop h
  · refine .inr (.inr ⟨fun e => ?_, ?_⟩)
    · obtain ⟨s, rfl⟩ := hc e
      exact ⟨s, rfl⟩
    · have g2 : T.D r.at (r'.bind f').at := by
        cases r' with
        | go a s => exact ht.late _ _ _ hd (h2 a s)
        | stop x y s => exact hd
      cases hcc : T.c with
      | true =>
        obtain ⟨s, rfl⟩ := hc hcc
        exact g2
      | false =>
        cases r with
        | go a s => exact ht.far hcc _ _ _ g2 (h1 a s)
        | stop x y s => exact g2
theorem R2.bind {α β : Type} {T : Two} (ht : T.ok) {r r' : Res α} {f f' : α → Rn → Res β} (h : R2 T r r') (hf : ∀ a s s', T.S s s' → R2 T (f a s) (f' a s')) (h1 : ∀ a s, Lu T.E.most s (f a s)) (h2 : ∀ a s, Lu T.E'.most s (f' a s)) : R2 T (r.bind f) (r'.bind f') :=
  h.bindE ht (fun a s s' _ _ hs => hf a s s' hs) h1 h2
theorem R2.ite {α : Type} {T : Two} {p : Prop} [Decidable p] {a b a' b' : Res α} (ha : R2 T a a') (hb : R2 T b b') : R2 T (if p then a else b) (if p then a' else b') := by split <;> assumption
theorem do_r2 {T : Two} (ht : T.ok) (k a b : Int) {s s' : Rn} (h : T.S s s') : R2 T (doK T.E k a b s) (doK T.E' k a b s') :=
  (ht.step s s' h).bind ht (fun _ _ _ h => .ite (.go h) (.stop h)) (fun _ _ => lu_ite (Lv.refl _ _) (Lv.refl _ _)) (fun _ _ => lu_ite (Lv.refl _ _) (Lv.refl _ _))
theorem item_r2 {T : Two} (ht : T.ok) (nm : ByteArray) (i : Int) {s s' : Rn} (h : T.S s s') : R2 T (itemR T.E nm i s) (itemR T.E' nm i s') :=
  (ht.step s s' h).bind ht (fun _ s s' h => by rw [← ht.pl, (ht.vars s s' h).2]; exact .ite (.stop h) (.go h)) (fun _ _ => lu_ite (Lv.refl _ _) (Lv.refl _ _)) (fun _ _ => lu_ite (Lv.refl _ _) (Lv.refl _ _))
/-- Lists of parts, one by one. -/
def Fs {α : Type} (T : Two) (fs fs' : List (Rn → Res α)) : Prop := (∀ i : Nat, (fs[i]?.isSome = fs'[i]?.isSome) ∧ ∀ f f', fs[i]? = some f → fs'[i]? = some f' → ∀ s s', T.S s s' → R2 T (f s) (f' s')) ∧ (∀ f ∈ fs, ∀ s, Lu T.E.most s (f s)) ∧ (∀ f ∈ fs', ∀ s, Lu T.E'.most s (f s))
theorem Fs.nil {α : Type} (T : Two) : Fs T ([] : List (Rn → Res α)) [] := ⟨fun i => ⟨rfl, fun f f' h => by simp at h⟩, (fun f h => by cases h), (fun f h => by cases h)⟩
theorem Fs.cons {α : Type} {T : Two} {f f' : Rn → Res α} {fs fs' : List (Rn → Res α)} (h : ∀ s s', T.S s s' → R2 T (f s) (f' s')) (h1 : ∀ s, Lu T.E.most s (f s)) (h2 : ∀ s, Lu T.E'.most s (f' s)) (hr : Fs T fs fs') : Fs T (f :: fs) (f' :: fs') := by
  refine ⟨fun i => ?_, ?_, ?_⟩
  · cases i with
    | zero => exact ⟨rfl, fun g g' hg hg' => by cases hg; cases hg'; exact h⟩
    | succ i => simpa using hr.1 i
  · intro g hg
    rcases List.mem_cons.1 hg with rfl | hg
    · exact h1
    · exact hr.2.1 g hg
  · intro g hg
    rcases List.mem_cons.1 hg with rfl | hg
    · exact h2
    · exact hr.2.2 g hg
theorem fn_r2 {T : Two} {fs fs' : List (Rn → Res Int)} (h : Fs T fs fs') (i : Nat) {s s' : Rn} (hs : T.S s s') : R2 T (fnR fs i s) (fnR fs' i s') := by
  unfold fnR
  rw [List.getD_eq_getElem?_getD, List.getD_eq_getElem?_getD]
  have h0 := h.1 i
  cases hi : fs[i]? with
  | none =>
    cases hi' : fs'[i]? with
    | none => exact .go hs
    | some f' => rw [hi, hi'] at h0; cases h0.1
  | some f =>
    cases hi' : fs'[i]? with
    | none => rw [hi, hi'] at h0; cases h0.1
    | some f' => exact h0.2 f f' hi hi' s s' hs
theorem hn_r2 {T : Two} {fs fs' : List (Rn → Res Bool)} (h : Fs T fs fs') (i : Nat) {s s' : Rn} (hs : T.S s s') : R2 T (hnR fs i s) (hnR fs' i s') := by
  unfold hnR
  rw [List.getD_eq_getElem?_getD, List.getD_eq_getElem?_getD]
  have h0 := h.1 i
  cases hi : fs[i]? with
  | none =>
    cases hi' : fs'[i]? with
    | none => exact .go hs
    | some f' => rw [hi, hi'] at h0; cases h0.1
  | some f =>
    cases hi' : fs'[i]? with
    | none => rw [hi, hi'] at h0; cases h0.1
    | some f' => exact h0.2 f f' hi hi' s s' hs
theorem valK_r2 {T : Two} (ht : T.ok) (k : Int) (nm : ByteArray) (c : Option Int) {fs fs' : List (Rn → Res Int)} (h : Fs T fs fs') {s s' : Rn} (hs : T.S s s') : R2 T (valK T.E k nm c fs s) (valK T.E' k nm c fs' s') := by
  unfold valK
  split
  · exact .go hs
  · refine .ite ?_ (.ite (ht.input s s' hs) (.ite ?_ (.ite ?_ ?_)))
    · rw [← ht.pl, (ht.vars s s' hs).1]
      exact .go hs
    · refine (fn_r2 h 0 hs).bind ht (fun _ s s' hs => (item_r2 ht nm _ hs).bind ht (fun _ s s' hs => ?_) (fun _ _ => Lv.refl _ _) (fun _ _ => Lv.refl _ _)) (fun _ s => (item_lu _ nm _ s).bind fun _ s => Lv.refl _ _) (fun _ s => (item_lu _ nm _ s).bind fun _ s => Lv.refl _ _)
      rw [← ht.pl, (ht.vars s s' hs).2]
      exact .go hs
    · exact (fn_r2 h 0 hs).bind ht (fun _ s s' hs => do_r2 ht _ _ _ hs) (fun _ s => do_lu _ _ _ _ s) (fun _ s => do_lu _ _ _ _ s)
    · exact (fn_r2 h 0 hs).bind ht (fun _ s s' hs => (fn_r2 h 1 hs).bind ht (fun _ s s' hs => do_r2 ht _ _ _ hs) (fun _ s => do_lu _ _ _ _ s) (fun _ s => do_lu _ _ _ _ s)) (fun _ s => (fn_lu h.2.1 1 s).bind fun _ s => do_lu _ _ _ _ s) (fun _ s => (fn_lu h.2.2 1 s).bind fun _ s => do_lu _ _ _ _ s)
mutual
theorem valN_r2 {T : Two} (ht : T.ok) : ∀ (x : Nd) (s s' : Rn), T.S s s' → R2 T (valN T.E x s) (valN T.E' x s')
  | .mk _ k n nm xs _ _ _, s, s', hs => by
    unfold valN
    exact valK_r2 ht k nm _ (valL_r2 ht xs) hs
theorem valL_r2 {T : Two} (ht : T.ok) : ∀ (l : List Nd), Fs T (valL T.E l) (valL T.E' l)
  | [] => by unfold valL; exact Fs.nil T
  | x :: r => by
    unfold valL
    exact Fs.cons (valN_r2 ht x) (valN_lu _ x) (valN_lu _ x) (valL_r2 ht r)
end
theorem hldK_r2 {T : Two} (ht : T.ok) (k n : Int) {fs fs' : List (Rn → Res Int)} {hs hs' : List (Rn → Res Bool)} (h : Fs T fs fs') (hh : Fs T hs hs') {s s' : Rn} (h0 : T.S s s') : R2 T (hldK T.E k n fs hs s) (hldK T.E' k n fs' hs' s') := by
  unfold hldK
  refine .ite ?_ (.ite ?_ (.ite ?_ (.ite ?_ ?_)))
  · exact (hn_r2 hh 0 h0).bind ht (fun _ _ _ h => .go h) (fun _ _ => Lv.refl _ _) (fun _ _ => Lv.refl _ _)
  · exact (hn_r2 hh 0 h0).bind ht (fun _ _ _ h => .ite (hn_r2 hh 1 h) (.go h)) (fun _ s => lu_ite (hn_lu hh.2.1 1 s) (Lv.refl _ _)) (fun _ s => lu_ite (hn_lu hh.2.2 1 s) (Lv.refl _ _))
  · exact (hn_r2 hh 0 h0).bind ht (fun _ _ _ h => .ite (.go h) (hn_r2 hh 1 h)) (fun _ s => lu_ite (Lv.refl _ _) (hn_lu hh.2.1 1 s)) (fun _ s => lu_ite (Lv.refl _ _) (hn_lu hh.2.2 1 s))
  · refine (fn_r2 h 0 h0).bind ht (fun _ _ _ h0 => (fn_r2 h 1 h0).bind ht (fun _ _ _ h0 => (ht.step _ _ h0).bind ht (fun _ _ _ h0 => .go h0) (fun _ _ => Lv.refl _ _) (fun _ _ => Lv.refl _ _)) ?_ ?_) ?_ ?_
    · exact fun _ s => (step_lu _ s).bind fun _ s => Lv.refl _ _
    · exact fun _ s => (step_lu _ s).bind fun _ s => Lv.refl _ _
    · exact fun _ s => (fn_lu h.2.1 1 s).bind fun _ s => (step_lu _ s).bind fun _ s => Lv.refl _ _
    · exact fun _ s => (fn_lu h.2.2 1 s).bind fun _ s => (step_lu _ s).bind fun _ s => Lv.refl _ _
  · exact (ht.step _ _ h0).bind ht (fun _ _ _ h0 => .go h0) (fun _ _ => Lv.refl _ _) (fun _ _ => Lv.refl _ _)
mutual
theorem hldN_r2 {T : Two} (ht : T.ok) : ∀ (x : Nd) (s s' : Rn), T.S s s' → R2 T (hldN T.E x s) (hldN T.E' x s')
  | .mk _ k n nm xs cs _ _, s, s', h0 => by
    unfold hldN
    exact hldK_r2 ht k n (valL_r2 ht xs) (hldL_r2 ht cs) h0
theorem hldL_r2 {T : Two} (ht : T.ok) : ∀ (l : List Nd), Fs T (hldL T.E l) (hldL T.E' l)
  | [] => by unfold hldL; exact Fs.nil T
  | x :: r => by
    unfold hldL
    exact Fs.cons (hldN_r2 ht x) (hldN_lu _ x) (hldN_lu _ x) (hldL_r2 ht r)
end
/-- Loops: each round takes a step. -/
theorem loop_r2 {T : Two} (ht : T.ok) {h h' : Rn → Res Bool} {b b' : Rn → Res Unit} (hh : ∀ s s', T.S s s' → R2 T (h s) (h' s')) (hb : ∀ s s', T.S s s' → R2 T (b s) (b' s'))
    (u1 : ∀ s, Lu T.E.most s (h s)) (u2 : ∀ s, Lu T.E'.most s (h' s)) (u3 : ∀ s, Lu T.E.most s (b s)) (u4 : ∀ s, Lu T.E'.most s (b' s)) (m1 : ∀ s, More s (h s)) (m2 : ∀ s, More s (h' s)) :
    ∀ (n n' : Nat) (s s' : Rn), T.S s s' → T.E.most < n + s.steps → T.E'.most < n' + s'.steps → R2 T (loopR h b n s) (loopR h' b' n' s')
  | 0, n', s, s', h0, h1, h2 => by have := (ht.most s s' h0).1; omega
  | n + 1, 0, s, s', h0, h1, h2 => by have := (ht.most s s' h0).2; omega
  | n + 1, n' + 1, s, s', h0, h1, h2 => by
    refine (hh s s' h0).bindE ht (fun c t t' e e' h3 => .ite ((hb t t' h3).bindE ht (fun _ q q' f f' h4 => ?_) (fun _ s => loop_lu u1 u3 n s) (fun _ s => loop_lu u2 u4 n' s)) (.go h3)) (fun _ s => lu_ite ((u3 s).bind fun _ s => loop_lu u1 u3 n s) (Lv.refl _ _)) (fun _ s => lu_ite ((u4 s).bind fun _ s => loop_lu u2 u4 n' s) (Lv.refl _ _))
    have g1 := m1 s c t e
    have g2 := m2 s' c t' e'
    have k1 : t.steps ≤ q.steps := by
      have := (u3 t).1
      rw [f] at this
      exact this
    have k2 : t'.steps ≤ q'.steps := by
      have := (u4 t').1
      rw [f'] at this
      exact this
    exact loop_r2 ht hh hb u1 u2 u3 u4 m1 m2 n n' q q' h4 (by omega) (by omega)
/-- Each while's condition has its parts. -/
def cndS : Nd → Prop
  | .mk _ _ _ _ _ cs _ _ => cndL cs
theorem asg_r2 {T : Two} (ht : T.ok) (nm : ByteArray) (v : Int) {s s' : Rn} (h : T.S s s') : T.S (putV T.E nm v s) (putV T.E' nm v s') := by
  unfold putV
  rw [← ht.pl, ← (ht.vars s s' h).1]
  have e1 : ({ s with vars := s.vars.set (T.E.pl nm) v } : Rn) = { s with vars := s.vars.set (T.E.pl nm) v, arrs := s.arrs } := rfl
  have e2 : ({ s' with vars := s.vars.set (T.E.pl nm) v } : Rn) = { s' with vars := s.vars.set (T.E.pl nm) v, arrs := s'.arrs } := rfl
  rw [e1, e2, ← (ht.vars s s' h).2]
  exact ht.put s s' _ _ h
theorem sto_r2 {T : Two} (ht : T.ok) (nm : ByteArray) (j : Nat) (v : Int) {s s' : Rn} (h : T.S s s') : T.S (putA T.E nm j v s) (putA T.E' nm j v s') := by
  unfold putA
  rw [← ht.pl, ← (ht.vars s s' h).2]
  have e1 : ∀ a, ({ s with arrs := a } : Rn) = { s with vars := s.vars, arrs := a } := fun _ => rfl
  have e2 : ∀ a, ({ s' with arrs := a } : Rn) = { s' with vars := s'.vars, arrs := a } := fun _ => rfl
  rw [e1, e2, ← (ht.vars s s' h).1]
  exact ht.put s s' _ _ h
theorem stK_r2 {T : Two} (ht : T.ok) (k : Int) (nm : ByteArray) (q : Bool) {fs fs' : List (Rn → Res Int)} {hs hs' : List (Rn → Res Bool)} {t t' e e' : Rn → Res Unit} (h : Fs T fs fs') (hh : Fs T hs hs')
    (htt : ∀ s s', T.S s s' → R2 T (t s) (t' s')) (hee : ∀ s s', T.S s s' → R2 T (e s) (e' s')) (t1 : ∀ s, Lu T.E.most s (t s)) (t2 : ∀ s, Lu T.E'.most s (t' s)) (e1 : ∀ s, Lu T.E.most s (e s)) (e2 : ∀ s, Lu T.E'.most s (e' s))
    (hm : k = 4 → (∀ s, More s (hnR hs 0 s)) ∧ ∀ s, More s (hnR hs' 0 s)) {s s' : Rn} (h0 : T.S s s') : R2 T (stK T.E k nm q fs hs t e s) (stK T.E' k nm q fs' hs' t' e' s') := by
  unfold stK
  by_cases k4 : k = 4
  · subst k4
    rw [if_neg (by decide), if_neg (by decide), if_neg (by decide), if_pos rfl, if_neg (by decide), if_neg (by decide), if_neg (by decide), if_pos rfl]
    have g := ht.most s s' h0
    exact loop_r2 ht (fun s s' h => hn_r2 hh 0 h) htt (hn_lu hh.2.1 0) (hn_lu hh.2.2 0) t1 t2 (hm rfl).1 (hm rfl).2 _ _ s s' h0 (by omega) (by omega)
  refine .ite ?_ (.ite ?_ (.ite ?_ ?_))
  · refine (fn_r2 h 0 h0).bind ht (fun _ _ _ h0 => ?_) (fun _ s => (lu_ite (step_lu _ s) (show Lu T.E.most s (.go () s : Res Unit) from Lv.refl _ _)).bind fun _ s => Lv.refl _ _) (fun _ s => (lu_ite (step_lu _ s) (show Lu T.E'.most s (.go () s : Res Unit) from Lv.refl _ _)).bind fun _ s => Lv.refl _ _)
    refine (R2.ite (ht.step _ _ h0) (.go h0)).bind ht (fun _ _ _ h0 => .go (asg_r2 ht nm _ h0)) (fun _ _ => Lv.refl _ _) (fun _ _ => Lv.refl _ _)
  · refine (fn_r2 h 0 h0).bind ht (fun _ _ _ h0 => (fn_r2 h 1 h0).bind ht (fun _ _ _ h0 => (item_r2 ht nm _ h0).bind ht (fun _ _ _ h0 => .go (sto_r2 ht nm _ _ h0)) (fun _ _ => Lv.refl _ _) (fun _ _ => Lv.refl _ _)) ?_ ?_) ?_ ?_
    · exact fun _ s => (item_lu _ nm _ s).bind fun _ s => Lv.refl _ _
    · exact fun _ s => (item_lu _ nm _ s).bind fun _ s => Lv.refl _ _
    · exact fun _ s => (fn_lu h.2.1 1 s).bind fun _ s => (item_lu _ nm _ s).bind fun _ s => Lv.refl _ _
    · exact fun _ s => (fn_lu h.2.2 1 s).bind fun _ s => (item_lu _ nm _ s).bind fun _ s => Lv.refl _ _
  · exact (hn_r2 hh 0 h0).bind ht (fun _ s s' h => .ite (htt s s' h) (hee s s' h)) (fun _ s => lu_ite (t1 s) (e1 s)) (fun _ s => lu_ite (t2 s) (e2 s))
  rw [if_neg k4, if_neg k4]
  refine .ite ?_ (.ite ?_ (.ite ?_ ?_))
  · refine (hn_r2 hh 0 h0).bind ht (fun _ _ _ h0 => (ht.step _ _ h0).bind ht (fun _ _ _ h0 => .ite (.go (ht.note _ _ _ _ h0)) (.stop (ht.note _ _ _ _ h0))) ?_ ?_) ?_ ?_
    · exact fun _ s => lu_ite (note_lu _ _ _ _) (note_lu _ _ _ _)
    · exact fun _ s => lu_ite (note_lu _ _ _ _) (note_lu _ _ _ _)
    · exact fun _ s => (step_lu _ s).bind fun _ s => lu_ite (note_lu _ _ _ _) (note_lu _ _ _ _)
    · exact fun _ s => (step_lu _ s).bind fun _ s => lu_ite (note_lu _ _ _ _) (note_lu _ _ _ _)
  · exact (hn_r2 hh 0 h0).bind ht (fun _ _ _ h => .ite (.go h) (.stop h)) (fun _ _ => lu_ite (Lv.refl _ _) (Lv.refl _ _)) (fun _ _ => lu_ite (Lv.refl _ _) (Lv.refl _ _))
  · exact ht.step _ _ h0
  · exact .go h0
mutual
/-- Each while has a condition whose parts are told. -/
def whlN : Nd → Prop
  | .mk _ k _ _ _ cs ts es => (k = 4 → 0 < cs.length ∧ cndL cs) ∧ whlL ts ∧ whlL es
def whlL : List Nd → Prop
  | [] => True
  | x :: r => whlN x ∧ whlL r
end
mutual
theorem stN_r2 {T : Two} (ht : T.ok) : ∀ (x : Nd), whlN x → ∀ (s s' : Rn), T.S s s' → R2 T (stN T.E x s) (stN T.E' x s')
  | .mk _ k n nm xs cs ts es, hw, s, s', h0 => by
    unfold whlN at hw
    unfold stN
    refine stK_r2 ht k nm _ (valL_r2 ht xs) (hldL_r2 ht cs) (stL_r2 ht ts hw.2.1) (stL_r2 ht es hw.2.2) (stL_lu _ ts) (stL_lu _ ts) (stL_lu _ es) (stL_lu _ es) (fun k4 => ?_) h0
    obtain ⟨hl, hc⟩ := hw.1 k4
    exact ⟨fun s => hldL_more _ cs 0 s hl hc, fun s => hldL_more _ cs 0 s hl hc⟩
theorem stL_r2 {T : Two} (ht : T.ok) : ∀ (l : List Nd), whlL l → ∀ (s s' : Rn), T.S s s' → R2 T (stL T.E l s) (stL T.E' l s')
  | [], _, s, s', h0 => by unfold stL; exact .go h0
  | x :: r, hw, s, s', h0 => by
    unfold whlL at hw
    unfold stL
    exact (stN_r2 ht x hw.1 s s' h0).bind ht (fun _ s s' h => stL_r2 ht r hw.2 s s' h) (fun _ s => stL_lu _ r s) (fun _ s => stL_lu _ r s)
end

/-- One step more. -/
def moreT (pl : ByteArray → Nat) (k : Nat) : Two :=
  { E := ⟨pl, k⟩, E' := ⟨pl, k + 1⟩, S := fun s s' => s = s' ∧ s.steps ≤ k, D := fun s t => s.steps = k ∧ k ≤ t.steps ∧ t.steps ≤ k + 1 ∧ ∃ u, t.evs = s.evs ++ u, c := true }
theorem moreT_ok (pl : ByteArray → Nat) (k : Nat) : (moreT pl k).ok where
  pl := rfl
  late := by
    rintro s t t2 ⟨h1, h2, h3, u, h4⟩ ⟨g1, g2, v, g3, -⟩
    exact ⟨h1, Nat.le_trans h2 g1, g2 h3, u ++ v, by rw [g3, h4, List.append_assoc]⟩
  far := fun h => by cases h
  vars := by rintro s s' ⟨rfl, -⟩; exact ⟨rfl, rfl⟩
  put := by rintro s s' v a ⟨rfl, h⟩; exact ⟨rfl, h⟩
  note := by rintro s s' n b ⟨rfl, h⟩; exact ⟨rfl, h⟩
  most := by rintro s s' ⟨rfl, h⟩; exact ⟨h, Nat.le_succ_of_le h⟩
  step := by
    rintro s s' ⟨rfl, h⟩
    show R2 _ (stepR ⟨pl, k⟩ s) (stepR ⟨pl, k + 1⟩ s)
    have h' : s.steps ≤ k := h
    unfold stepR
    by_cases hk : s.steps = k
    · rw [if_pos hk, if_neg (by show ¬ s.steps = k + 1; omega)]
      exact .inr (.inr ⟨fun _ => ⟨s, rfl⟩, hk, by show k ≤ s.steps + 1; omega, by show s.steps + 1 ≤ k + 1; omega, [], (List.append_nil _).symm⟩)
    · rw [if_neg hk, if_neg (by show ¬ s.steps = k + 1; omega)]
      exact .go ⟨rfl, by show s.steps + 1 ≤ k; omega⟩
  input := by
    rintro s s' ⟨rfl, h⟩
    show R2 _ (inputR ⟨pl, k⟩ s) (inputR ⟨pl, k + 1⟩ s)
    have h' : s.steps ≤ k := h
    unfold inputR
    cases hl : s.left with
    | nil => exact .stop ⟨rfl, h⟩
    | cons x r =>
      unfold stepR
      by_cases hk : s.steps = k
      · rw [if_pos hk, if_neg (by show ¬ s.steps = k + 1; omega)]
        exact .inr (.inr ⟨fun _ => ⟨s, rfl⟩, hk, by show k ≤ s.steps + 1; omega, by show s.steps + 1 ≤ k + 1; omega, [(true, x, false)], rfl⟩)
      · rw [if_neg hk, if_neg (by show ¬ s.steps = k + 1; omega)]
        exact .go ⟨rfl, by show s.steps + 1 ≤ k; omega⟩
/-- With one step more a run goes on from where it stood; one that has ended stays. -/
theorem more_run (pl : ByteArray → Nat) (k : Nat) (ss : List Nd) (hw : whlL ss) (s : Rn) (hs : s.steps ≤ k) : R2 (moreT pl k) (stL ⟨pl, k⟩ ss s) (stL ⟨pl, k + 1⟩ ss s) := stL_r2 (moreT_ok pl k) ss hw s s ⟨rfl, hs⟩

/-- Another last input. -/
def lastT (pl : ByteArray → Nat) (k : Nat) (x y : Int) : Two :=
  { E := ⟨pl, k⟩, E' := ⟨pl, k⟩, S := fun s s' => s.steps ≤ k ∧ ∃ p, s.left = p ++ [x] ∧ s' = { s with left := p ++ [y] }, D := fun s _ => s.left = [], c := false }
theorem lastT_ok (pl : ByteArray → Nat) (k : Nat) (x y : Int) : (lastT pl k x y).ok where
  pl := rfl
  late := fun s t t2 h _ => h
  far := by
    rintro - s s2 t h ⟨-, -, u, -, g⟩
    have h' : s.left = [] := h
    rw [h'] at g
    exact (List.append_eq_nil_iff.1 g.symm).2
  vars := by rintro s s' ⟨-, p, -, rfl⟩; exact ⟨rfl, rfl⟩
  put := by rintro s s' v a ⟨h, p, g, rfl⟩; exact ⟨h, p, g, rfl⟩
  note := by rintro s s' n b ⟨h, p, g, rfl⟩; exact ⟨h, p, g, rfl⟩
  most := by rintro s s' ⟨h, p, g, rfl⟩; exact ⟨h, h⟩
  step := by
    rintro s s' ⟨h, p, g, rfl⟩
    show R2 _ (stepR ⟨pl, k⟩ s) (stepR ⟨pl, k⟩ { s with left := p ++ [y] })
    unfold stepR
    by_cases hk : s.steps = k
    · rw [if_pos hk, if_pos hk]
      exact .stop ⟨h, p, g, rfl⟩
    · rw [if_neg hk, if_neg hk]
      exact .go ⟨Nat.lt_of_le_of_ne h hk, p, g, rfl⟩
  input := by
    rintro s s' ⟨h, p, g, rfl⟩
    show R2 _ (inputR ⟨pl, k⟩ s) (inputR ⟨pl, k⟩ { s with left := p ++ [y] })
    unfold inputR
    cases p with
    | nil =>
      rw [g]
      unfold stepR
      by_cases hk : s.steps = k
      · show R2 _ ((if s.steps = k then _ else _ : Res Unit).bind _) ((if s.steps = k then _ else _ : Res Unit).bind _)
        rw [if_pos hk, if_pos hk]
        exact .stop ⟨h, [], g, rfl⟩
      · show R2 _ ((if s.steps = k then _ else _ : Res Unit).bind _) ((if s.steps = k then _ else _ : Res Unit).bind _)
        rw [if_neg hk, if_neg hk]
        exact .inr (.inr ⟨fun h => (by cases h), rfl⟩)
    | cons z p =>
      rw [g]
      unfold stepR
      by_cases hk : s.steps = k
      · show R2 _ ((if s.steps = k then _ else _ : Res Unit).bind _) ((if s.steps = k then _ else _ : Res Unit).bind _)
        rw [if_pos hk, if_pos hk]
        exact .stop ⟨h, z :: p, g, rfl⟩
      · show R2 _ ((if s.steps = k then _ else _ : Res Unit).bind _) ((if s.steps = k then _ else _ : Res Unit).bind _)
        rw [if_neg hk, if_neg hk]
        exact .go ⟨Nat.lt_of_le_of_ne h hk, p, rfl, rfl⟩
/-- Where an input is left, the last one doesn't matter. -/
theorem last_run (pl : ByteArray → Nat) (k : Nat) (ss : List Nd) (hw : whlL ss) (x y : Int) (p : List Int) (s : Rn) (hs : s.steps ≤ k) (hl : s.left = p ++ [x]) : R2 (lastT pl k x y) (stL ⟨pl, k⟩ ss s) (stL ⟨pl, k⟩ ss { s with left := p ++ [y] }) := stL_r2 (lastT_ok pl k x y) ss hw s _ ⟨hs, p, hl, rfl⟩

/-- How a part may end: for want of steps just where no more may be; without anything wrong; or wrong. -/
def Sp {α : Type} (E : Rv) (s : Rn) (r : Res α) : Prop := s.steps ≤ E.most → ∀ x y t, r = .stop x y t → (x = 1 ∧ y = 0 ∧ t.steps = E.most) ∨ (x = 2 ∧ y = 0) ∨ x = 3
theorem Sp.bind {α β : Type} {E : Rv} {s : Rn} {r : Res α} {f : α → Rn → Res β} (h : Sp E s r) (hl : Lu E.most s r) (hf : ∀ a s, Sp E s (f a s)) : Sp E s (r.bind f) := by
  intro hs x y t e
  cases r with
  | go a s' => exact hf a s' (hl.2.1 hs) x y t e
  | stop x' y' s' =>
    change (Res.stop x' y' s' : Res β) = _ at e
    cases e
    exact h hs _ _ _ rfl
theorem sp_go {α : Type} (E : Rv) (s : Rn) (a : α) (s' : Rn) : Sp E s (.go a s') := by
  intro _ x y t e
  cases e
theorem sp_stop {α : Type} (E : Rv) (s : Rn) (y : Int) (s' : Rn) : Sp E s (.stop 3 y s' : Res α) := by
  intro _ x y t e
  cases e
  exact .inr (.inr rfl)
theorem sp_end {α : Type} (E : Rv) (s s' : Rn) : Sp E s (.stop 2 0 s' : Res α) := by
  intro _ x y t e
  cases e
  exact .inr (.inl ⟨rfl, rfl⟩)
theorem sp_ite {α : Type} {E : Rv} {s : Rn} {p : Prop} [Decidable p] {a b : Res α} (ha : Sp E s a) (hb : Sp E s b) : Sp E s (if p then a else b) := by split <;> assumption
theorem step_sp (E : Rv) (s : Rn) : Sp E s (stepR E s) := by
  intro hs x y t e
  unfold stepR at e
  split at e
  · rename_i h
    cases e
    exact .inl ⟨rfl, rfl, h⟩
  · cases e
theorem input_sp (E : Rv) (s : Rn) : Sp E s (inputR E s) := by
  unfold inputR
  split
  · exact sp_end E s s
  · exact (step_sp E s).bind (step_lu E s) fun _ s => sp_go E s _ _
theorem do_sp (E : Rv) (k a b : Int) (s : Rn) : Sp E s (doK E k a b s) := (step_sp E s).bind (step_lu E s) fun _ s => sp_ite (sp_go E s _ _) (sp_stop E s _ _)
theorem item_sp (E : Rv) (nm : ByteArray) (i : Int) (s : Rn) : Sp E s (itemR E nm i s) := (step_sp E s).bind (step_lu E s) fun _ s => sp_ite (sp_stop E s _ _) (sp_go E s _ _)
theorem fn_sp {E : Rv} {fs : List (Rn → Res Int)} (h : ∀ f ∈ fs, ∀ s, Sp E s (f s)) (i : Nat) (s : Rn) : Sp E s (fnR fs i s) := by
  unfold fnR
  rw [List.getD_eq_getElem?_getD]
  cases hi : fs[i]? with
  | none => exact sp_go E s _ _
  | some f => exact h f (List.mem_of_getElem? hi) s
theorem hn_sp {E : Rv} {fs : List (Rn → Res Bool)} (h : ∀ f ∈ fs, ∀ s, Sp E s (f s)) (i : Nat) (s : Rn) : Sp E s (hnR fs i s) := by
  unfold hnR
  rw [List.getD_eq_getElem?_getD]
  cases hi : fs[i]? with
  | none => exact sp_go E s _ _
  | some f => exact h f (List.mem_of_getElem? hi) s
theorem valK_sp (E : Rv) (k : Int) (nm : ByteArray) (c : Option Int) {fs : List (Rn → Res Int)} (h : ∀ f ∈ fs, ∀ s, Sp E s (f s)) (g : ∀ f ∈ fs, ∀ s, Lu E.most s (f s)) (s : Rn) : Sp E s (valK E k nm c fs s) := by
  unfold valK
  split
  · exact sp_go E s _ _
  · refine sp_ite (sp_go E s _ _) (sp_ite (input_sp E s) (sp_ite ?_ (sp_ite ?_ ?_)))
    · exact (fn_sp h 0 s).bind (fn_lu g 0 s) fun _ s => (item_sp E nm _ s).bind (item_lu E nm _ s) fun _ s => sp_go E s _ _
    · exact (fn_sp h 0 s).bind (fn_lu g 0 s) fun _ s => do_sp E _ _ _ s
    · exact (fn_sp h 0 s).bind (fn_lu g 0 s) fun _ s => (fn_sp h 1 s).bind (fn_lu g 1 s) fun _ s => do_sp E _ _ _ s
mutual
theorem valN_sp (E : Rv) : ∀ (x : Nd) (s : Rn), Sp E s (valN E x s)
  | .mk _ k n nm xs _ _ _, s => by
    unfold valN
    exact valK_sp E k nm _ (valL_sp E xs) (valL_lu E xs) s
theorem valL_sp (E : Rv) : ∀ (l : List Nd), ∀ f ∈ valL E l, ∀ s, Sp E s (f s)
  | [], f, h => by unfold valL at h; cases h
  | x :: r, f, h => by
    unfold valL at h
    rcases List.mem_cons.1 h with rfl | h
    · exact valN_sp E x
    · exact valL_sp E r f h
end
theorem hldK_sp (E : Rv) (k n : Int) {fs : List (Rn → Res Int)} {hs : List (Rn → Res Bool)} (h : ∀ f ∈ fs, ∀ s, Sp E s (f s)) (g : ∀ f ∈ fs, ∀ s, Lu E.most s (f s)) (hh : ∀ f ∈ hs, ∀ s, Sp E s (f s)) (gg : ∀ f ∈ hs, ∀ s, Lu E.most s (f s)) (s : Rn) : Sp E s (hldK E k n fs hs s) := by
  unfold hldK
  refine sp_ite ?_ (sp_ite ?_ (sp_ite ?_ (sp_ite ?_ ?_)))
  · exact (hn_sp hh 0 s).bind (hn_lu gg 0 s) fun _ s => sp_go E s _ _
  · exact (hn_sp hh 0 s).bind (hn_lu gg 0 s) fun _ s => sp_ite (hn_sp hh 1 s) (sp_go E s _ _)
  · exact (hn_sp hh 0 s).bind (hn_lu gg 0 s) fun _ s => sp_ite (sp_go E s _ _) (hn_sp hh 1 s)
  · exact (fn_sp h 0 s).bind (fn_lu g 0 s) fun _ s => (fn_sp h 1 s).bind (fn_lu g 1 s) fun _ s => (step_sp E s).bind (step_lu E s) fun _ s => sp_go E s _ _
  · exact (step_sp E s).bind (step_lu E s) fun _ s => sp_go E s _ _
mutual
theorem hldN_sp (E : Rv) : ∀ (x : Nd) (s : Rn), Sp E s (hldN E x s)
  | .mk _ k n nm xs cs _ _, s => by
    unfold hldN
    exact hldK_sp E k n (valL_sp E xs) (valL_lu E xs) (hldL_sp E cs) (hldL_lu E cs) s
theorem hldL_sp (E : Rv) : ∀ (l : List Nd), ∀ f ∈ hldL E l, ∀ s, Sp E s (f s)
  | [], f, h => by unfold hldL at h; cases h
  | x :: r, f, h => by
    unfold hldL at h
    rcases List.mem_cons.1 h with rfl | h
    · exact hldN_sp E x
    · exact hldL_sp E r f h
end
theorem loop_sp {E : Rv} {h : Rn → Res Bool} {b : Rn → Res Unit} (hh : ∀ s, Sp E s (h s)) (hb : ∀ s, Sp E s (b s)) (u1 : ∀ s, Lu E.most s (h s)) (u2 : ∀ s, Lu E.most s (b s)) (hm : ∀ s, More s (h s)) : ∀ (n : Nat) (s : Rn), E.most < n + s.steps → Sp E s (loopR h b n s)
  | 0, s, h1 => fun h0 => by omega
  | n + 1, s, h1 => by
    intro hs x y t e
    change (h s).bind _ = _ at e
    cases hc : h s with
    | stop x' y' s' =>
      rw [hc] at e
      change (Res.stop x' y' s' : Res Unit) = _ at e
      cases e
      exact hh s hs _ _ _ hc
    | go c s1 =>
      rw [hc] at e
      have g1 := hm s c s1 hc
      have g2 := (u1 s).2.1 hs
      rw [hc] at g2
      change s1.steps ≤ E.most at g2
      change (if c = true then _ else _) = _ at e
      cases c with
      | false => cases e
      | true =>
        simp only [if_true] at e
        cases hd : b s1 with
        | stop x' y' s' =>
          rw [hd] at e
          change (Res.stop x' y' s' : Res Unit) = _ at e
          cases e
          exact hb s1 g2 _ _ _ hd
        | go u s2 =>
          rw [hd] at e
          change loopR h b n s2 = _ at e
          have g3 := (u2 s1).2.1 g2
          have g4 := (u2 s1).1
          rw [hd] at g3 g4
          change s2.steps ≤ E.most at g3
          change s1.steps ≤ s2.steps at g4
          exact loop_sp hh hb u1 u2 hm n s2 (by omega) g3 x y t e
theorem stK_sp (E : Rv) (k : Int) (nm : ByteArray) (q : Bool) {fs : List (Rn → Res Int)} {hs : List (Rn → Res Bool)} {t e : Rn → Res Unit} (h : ∀ f ∈ fs, ∀ s, Sp E s (f s)) (g : ∀ f ∈ fs, ∀ s, Lu E.most s (f s)) (hh : ∀ f ∈ hs, ∀ s, Sp E s (f s)) (gg : ∀ f ∈ hs, ∀ s, Lu E.most s (f s)) (ht : ∀ s, Sp E s (t s)) (gt : ∀ s, Lu E.most s (t s)) (he : ∀ s, Sp E s (e s)) (hm : k = 4 → ∀ s, More s (hnR hs 0 s)) (s : Rn) : Sp E s (stK E k nm q fs hs t e s) := by
  unfold stK
  by_cases k4 : k = 4
  · subst k4
    rw [if_neg (by decide), if_neg (by decide), if_neg (by decide), if_pos rfl]
    intro h0
    exact loop_sp (hn_sp hh 0) ht (hn_lu gg 0) gt (hm rfl) _ s (by omega) h0
  refine sp_ite ?_ (sp_ite ?_ (sp_ite ?_ ?_))
  · exact (fn_sp h 0 s).bind (fn_lu g 0 s) fun _ s => (sp_ite (step_sp E s) (sp_go E s _ _)).bind (lu_ite (step_lu E s) (show Lu E.most s (.go () s : Res Unit) from Lv.refl _ _)) fun _ s => sp_go E s _ _
  · exact (fn_sp h 0 s).bind (fn_lu g 0 s) fun _ s => (fn_sp h 1 s).bind (fn_lu g 1 s) fun _ s => (item_sp E nm _ s).bind (item_lu E nm _ s) fun _ s => sp_go E s _ _
  · exact (hn_sp hh 0 s).bind (hn_lu gg 0 s) fun _ s => sp_ite (ht s) (he s)
  rw [if_neg k4]
  refine sp_ite ?_ (sp_ite ?_ (sp_ite ?_ ?_))
  · exact (hn_sp hh 0 s).bind (hn_lu gg 0 s) fun _ s => (step_sp E s).bind (step_lu E s) fun _ s => sp_ite (sp_go E s _ _) (sp_stop E s _ _)
  · exact (hn_sp hh 0 s).bind (hn_lu gg 0 s) fun _ s => sp_ite (sp_go E s _ _) (sp_end E s s)
  · exact step_sp E s
  · exact sp_go E s _ _
mutual
theorem stN_sp (E : Rv) : ∀ (x : Nd), whlN x → ∀ (s : Rn), Sp E s (stN E x s)
  | .mk _ k n nm xs cs ts es, hw, s => by
    unfold whlN at hw
    unfold stN
    exact stK_sp E k nm _ (valL_sp E xs) (valL_lu E xs) (hldL_sp E cs) (hldL_lu E cs) (stL_sp E ts hw.2.1) (stL_lu E ts) (stL_sp E es hw.2.2) (fun k4 s => hldL_more E cs 0 s (hw.1 k4).1 (hw.1 k4).2) s
theorem stL_sp (E : Rv) : ∀ (l : List Nd), whlL l → ∀ (s : Rn), Sp E s (stL E l s)
  | [], _, s => by unfold stL; exact sp_go E s _ _
  | x :: r, hw, s => by
    unfold whlL at hw
    unfold stL
    exact (stN_sp E x hw.1 s).bind (stN_lu E x s) fun _ s => stL_sp E r hw.2 s
end

end Go.Proofs.Ytbhbmoppipohjaa

/-
  Plain: one step more goes on from a run; one that has ended stays; inputs are the script's; those behind don't matter (P8.3).
-/
namespace Go.Proofs.Ytbhbmoppipohjaa
open Go Go.RowKit Go.Maps

mutual
theorem whl_of {K : Me} : ∀ (x : Nd), x.ty = .S → okN K x → whlN x
  | .mk ty k n nm xs cs ts es, hty, h => by
    simp only [Nd.ty] at hty
    subst hty
    unfold okN at h
    obtain ⟨⟨-, -, -, -, hc1, -, -⟩, -, hc, ht, he⟩ := h
    unfold whlN
    exact ⟨fun k4 => ⟨by have := hc1 (by omega); omega, cndL_of cs hc⟩, whlL_of ts ht, whlL_of es he⟩
theorem whlL_of {K : Me} : ∀ (l : List Nd), okL K .S l → whlL l
  | [], _ => by unfold whlL; trivial
  | x :: r, h => by
    unfold okL at h
    unfold whlL
    exact ⟨whl_of x h.1 h.2.1, whlL_of r h.2.2⟩
end
theorem whl_well {w : World} {ds ss : List Nd} {v : Value} (hs : SlIn w .S ss v) (hz : (wellP ds ss).2 = 0) : whlL ss :=
  whlL_of (K := { E := ⟨plW ds, 0⟩, M := 0, G := 0, gn := 0, D := .lit (.bool true), vb := 0, nv := (varsL ds).length, va := undef, ar := 0, ab := List.replicate (arrsL ds).length (0, 0), H0 := 0, B1 := 0 }) ss (well_ok hs hz rfl rfl (by simp))
theorem on_F {ds ss : List Nd} {script : List Int} {k : Int} (h0 : 0 ≤ k) (h1 : k ≤ 65536) (hs : script.length ≤ 65536) : runF ds ss script k = (wellP ds ss).2 := by
  unfold runF
  split
  · rfl
  · rename_i h
    rw [if_neg (by omega)]
    exact (Decidable.not_not.1 h).symm
theorem on_steps (ds ss : List Nd) (script : List Int) (k : Nat) : (runO ds ss script k).2.2.steps ≤ k ∧ insV (runO ds ss script k).2.2.evs ++ (runO ds ss script k).2.2.left = script := by
  have h := stL_lu ⟨plW ds, k⟩ ss (runS ds script)
  unfold runO
  rw [show ((k : Int)).toNat = k by omega]
  obtain ⟨h1, h2, t, h3, h4⟩ := h
  have e : ∀ r : Res Unit, (outR r).2.2 = r.at := fun r => by cases r <;> rfl
  rw [e]
  have e0 : (runS ds script).evs = [] := rfl
  have e1 : (runS ds script).left = script := rfl
  have e2 : (runS ds script).steps = 0 := rfl
  rw [e0, List.nil_append] at h3
  rw [e1] at h4
  exact ⟨h2 (by rw [e2]; exact Nat.zero_le _), by rw [h3]; exact h4.symm⟩
theorem on_ends (ds ss : List Nd) (hw : whlL ss) (script : List Int) (k : Nat) : ((runO ds ss script k).1 = 1 → (runO ds ss script k).2.2.steps = k) ∧ ((runO ds ss script k).1 ≠ 3 → (runO ds ss script k).2.1 = 0) ∧ ((runO ds ss script k).1 = 1 ∨ (runO ds ss script k).1 = 2 ∨ (runO ds ss script k).1 = 3) := by
  have h := stL_sp ⟨plW ds, k⟩ ss hw (runS ds script) (Nat.zero_le _)
  unfold runO
  rw [show ((k : Int)).toNat = k by omega]
  cases hr : stL ⟨plW ds, k⟩ ss (runS ds script) with
  | go a s => exact ⟨fun h => (by cases h), fun _ => rfl, .inr (.inl rfl)⟩
  | stop x y s =>
    rcases h x y s hr with ⟨rfl, rfl, h⟩ | ⟨rfl, rfl⟩ | rfl
    · exact ⟨fun _ => h, fun _ => rfl, .inl rfl⟩
    · exact ⟨fun h => (by cases h), fun _ => rfl, .inr (.inl rfl)⟩
    · exact ⟨fun h => (by cases h), fun h => (h rfl).elim, .inr (.inr rfl)⟩
theorem on_more (ds ss : List Nd) (hw : whlL ss) (script : List Int) (k : Nat) :
    (runO ds ss script (k + 1 : Nat) = runO ds ss script k) ∨ ((runO ds ss script k).1 = 1 ∧ (runO ds ss script k).2.2.steps = k ∧ k ≤ (runO ds ss script (k + 1 : Nat)).2.2.steps ∧ (runO ds ss script (k + 1 : Nat)).2.2.steps ≤ k + 1 ∧ ∃ u, (runO ds ss script (k + 1 : Nat)).2.2.evs = (runO ds ss script k).2.2.evs ++ u) := by
  have h := more_run (plW ds) k ss hw (runS ds script) (Nat.zero_le _)
  unfold runO
  rw [show ((k : Int)).toNat = k by omega, show (((k + 1 : Nat) : Int)).toNat = k + 1 by omega]
  rcases h with ⟨a, s, s', h1, h2, rfl, -⟩ | ⟨x, y, s, s', h1, h2, rfl, -⟩ | ⟨hc, hd⟩
  · rw [h1, h2]; exact .inl rfl
  · rw [h1, h2]; exact .inl rfl
  · obtain ⟨s, h1⟩ := hc rfl
    rw [h1] at hd ⊢
    have e : ∀ r : Res Unit, (outR r).2.2 = r.at := fun r => by cases r <;> rfl
    obtain ⟨g1, g2, g3, u, g4⟩ := hd
    refine .inr ⟨rfl, g1, ?_, ?_, u, ?_⟩
    · rw [e]; exact g2
    · rw [e]; exact g3
    · rw [e]; exact g4
theorem on_last (ds ss : List Nd) (hw : whlL ss) (p : List Int) (x y : Int) (k : Nat) :
    (runO ds ss (p ++ [x]) k).2.2.left = [] ∨ ∃ q, (runO ds ss (p ++ [x]) k).2.2.left = q ++ [x] ∧ runO ds ss (p ++ [y]) k = ((runO ds ss (p ++ [x]) k).1, (runO ds ss (p ++ [x]) k).2.1, { (runO ds ss (p ++ [x]) k).2.2 with left := q ++ [y] }) := by
  have h := last_run (plW ds) k ss hw x y p (runS ds (p ++ [x])) (Nat.zero_le _) rfl
  unfold runO
  rw [show ((k : Int)).toNat = k by omega]
  change R2 (lastT (plW ds) k x y) (stL ⟨plW ds, k⟩ ss (runS ds (p ++ [x]))) (stL ⟨plW ds, k⟩ ss (runS ds (p ++ [y]))) at h
  rcases h with ⟨a, s, s', h1, h2, -, q, h3, rfl⟩ | ⟨a, b, s, s', h1, h2, -, q, h3, rfl⟩ | ⟨-, hd⟩
  · rw [h1, h2]; exact .inr ⟨q, h3, rfl⟩
  · rw [h1, h2]; exact .inr ⟨q, h3, rfl⟩
  · have e : ∀ r : Res Unit, (outR r).2.2 = r.at := fun r => by cases r <;> rfl
    left
    rw [e]
    exact hd
end Go.Proofs.Ytbhbmoppipohjaa
