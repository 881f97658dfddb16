/-
  Plain: two rows of all nodes of trees have the same labels just if the trees are the same.
-/
import Derived.Test.YtpildlaloclanaaAlike
namespace Go.Proofs.Ytpildlaloclanaa
open Go Go.RowKit

mutual
/-- A node has what its type may have, and so do all within it. -/
def fitN : Nd → Prop
  | .mk ty k n s xs cs ts es => fits ty k n s xs cs ts es ∧ fitL .E xs ∧ fitL .C cs ∧ fitL .S ts ∧ fitL .S es
def fitL : Ty → List Nd → Prop
  | _, [] => True
  | ty, x :: r => x.ty = ty ∧ fitN x ∧ fitL ty r
end
theorem fit_sl {w : World} {ty : Ty} {l : List Nd} {v : Value} (hL : ∀ b o, RowIn w ty l b o → fitL ty l) (h : SlOf l.length (fun b o => RowIn w ty l b o) v) : fitL ty l := by
  obtain ⟨a, c, _, _, _, h0 | ⟨b, o, _, hr⟩⟩ := h
  · obtain rfl := List.eq_nil_of_length_eq_zero h0
    unfold fitL
    trivial
  · exact hL b o hr
mutual
theorem fit_N (w : World) : ∀ (x : Nd) (vs : List Value), NdIn w x vs → fitN x
  | .mk ty k n nm xs cs ts es, vs, h => by
    unfold NdIn at h
    obtain ⟨hf, _, _, _, vx, vc, vt, ve, _, hx, hc, ht, he⟩ := h
    unfold fitN
    exact ⟨hf, fit_sl (fit_L w .E xs) hx, fit_sl (fit_L w .C cs) hc, fit_sl (fit_L w .S ts) ht, fit_sl (fit_L w .S es) he⟩
theorem fit_L (w : World) : ∀ (ty : Ty) (l : List Nd) (b o : Nat), RowIn w ty l b o → fitL ty l
  | _, [], _, _, _ => by unfold fitL; trivial
  | ty, x :: r, b, o, h => by
    unfold RowIn at h
    obtain ⟨⟨h1, vs, _, h2⟩, h3⟩ := h
    unfold fitL
    exact ⟨h1, fit_N w x vs h2, fit_L w ty r (b + 0) (o + ty.size) h3⟩
end
theorem fit_list {w : World} {ty : Ty} {l : List Nd} {v : Value} (h : SlIn w ty l v) : fitL ty l := fit_sl (fit_L w ty l) h
theorem letter_inj {a b : Ty} (h : letter a = letter b) : a = b := by
  cases a <;> cases b <;> first | rfl | (exact absurd h (by decide))
theorem allL_app (l m : List Nd) : allL (l ++ m) = allL l ++ allL m := by
  induction l with
  | nil => rw [List.nil_append, allL, List.nil_append]
  | cons x r ih => rw [List.cons_append, allL, allL, ih, List.append_assoc]
theorem lab_of_same {x y : Nd} (h : sameN x y = true) : labB x y = true := by
  obtain ⟨ty, k, n, s, xs, cs, ts, es⟩ := x
  obtain ⟨ty2, k2, n2, s2, xs2, cs2, ts2, es2⟩ := y
  unfold sameN at h
  simp only [Bool.and_eq_true, decide_eq_true_eq, beq_iff_eq] at h
  obtain ⟨⟨⟨⟨⟨⟨⟨h1, h2⟩, h3⟩, h4⟩, h5⟩, h6⟩, h7⟩, h8⟩ := h
  have e5 := sameL_len h5
  have e6 := sameL_len h6
  have e7 := sameL_len h7
  have e8 := sameL_len h8
  unfold labB
  simp [h1, h2, h3, h4, e5, e6, e7, e8]
theorem lab_parts {ty ty2 : Ty} {k n k2 n2 : Int} {s s2 : ByteArray} {xs cs ts es xs2 cs2 ts2 es2 : List Nd} (h : labB (.mk ty k n s xs cs ts es) (.mk ty2 k2 n2 s2 xs2 cs2 ts2 es2) = true) :
    ty = ty2 ∧ k = k2 ∧ n = n2 ∧ s.toList = s2.toList ∧ cs.length = cs2.length ∧ xs.length = xs2.length ∧ ts.length = ts2.length ∧ es.length = es2.length := by
  unfold labB at h
  simp only [Bool.and_eq_true, beq_iff_eq] at h
  obtain ⟨⟨⟨⟨h1, h2⟩, h3⟩, h4⟩, ⟨⟨h5, h6⟩, h7⟩, h8⟩ := h
  exact ⟨letter_inj h1, h2, h3, h4, by omega, by omega, by omega, by omega⟩
mutual
theorem eq_N : ∀ (x y : Nd) (r s : List Nd), fitN x → fitN y → eqL (allN x ++ r) (allN y ++ s) = (sameN x y && eqL r s)
  | .mk ty k n nm xs cs ts es, .mk ty2 k2 n2 nm2 xs2 cs2 ts2 es2, r, s, hx, hy => by
    unfold fitN at hx hy
    obtain ⟨f1, f2, f3, f4, f5⟩ := hx
    obtain ⟨g1, g2, g3, g4, g5⟩ := hy
    unfold allN
    rw [List.cons_append, List.cons_append, eqL]
    cases hl : labB (.mk ty k n nm xs cs ts es) (.mk ty2 k2 n2 nm2 xs2 cs2 ts2 es2) with
    | false =>
      cases hs : sameN (.mk ty k n nm xs cs ts es) (.mk ty2 k2 n2 nm2 xs2 cs2 ts2 es2) with
      | false => rfl
      | true => rw [lab_of_same hs] at hl; cases hl
    | true =>
      obtain ⟨rfl, rfl, rfl, e4, e5, e6, e7, e8⟩ := lab_parts hl
      have hsame : sameN (.mk ty k n nm xs cs ts es) (.mk ty k n nm2 xs2 cs2 ts2 es2) = (sameL xs xs2 && sameL cs cs2 && sameL ts ts2 && sameL es es2) := by
        unfold sameN
        simp [e4]
      rw [hsame, Bool.true_and]
      have hnil : sameL [] [] = true := by rw [sameL]
      cases ty with
      | E =>
        obtain ⟨rfl, rfl, rfl⟩ := f1
        obtain ⟨rfl, rfl, rfl⟩ := g1
        simp only
        rw [eq_L .E xs xs2 r s f2 g2 e6, hnil]
        simp
      | C =>
        obtain ⟨rfl, rfl, rfl⟩ := f1
        obtain ⟨rfl, rfl, rfl⟩ := g1
        simp only
        rw [List.append_assoc, List.append_assoc, eq_L .E xs xs2 _ _ f2 g2 e6, eq_L .C cs cs2 r s f3 g3 e5, hnil]
        simp [Bool.and_assoc]
      | S =>
        simp only
        rw [List.append_assoc, List.append_assoc, List.append_assoc, List.append_assoc, List.append_assoc, List.append_assoc, eq_L .C cs cs2 _ _ f3 g3 e5, eq_L .E xs xs2 _ _ f2 g2 e6, eq_L .S ts ts2 _ _ f4 g4 e7, eq_L .S es es2 r s f5 g5 e8]
        cases sameL xs xs2 <;> cases sameL cs cs2 <;> simp [Bool.and_assoc]
      | D =>
        obtain ⟨_, rfl, rfl, rfl, rfl⟩ := f1
        obtain ⟨_, rfl, rfl, rfl, rfl⟩ := g1
        simp only
        rw [hnil]
        simp
theorem eq_L : ∀ (ty : Ty) (l m r s : List Nd), fitL ty l → fitL ty m → l.length = m.length → eqL (allL l ++ r) (allL m ++ s) = (sameL l m && eqL r s)
  | _, [], [], r, s, _, _, _ => by unfold allL sameL; simp
  | ty, x :: l, y :: m, r, s, hl, hm, hlen => by
    unfold fitL at hl hm
    unfold allL sameL
    rw [List.append_assoc, List.append_assoc, eq_N x y _ _ hl.2.1 hm.2.1, eq_L ty l m r s hl.2.2 hm.2.2 (by simpa using hlen), Bool.and_assoc]
  | _, [], _ :: _, _, _, _, _, h => by simp at h
  | _, _ :: _, [], _, _, _, _, h => by simp at h
end
/-- Nodes of any types, all fit. -/
def fitA (l : List Nd) : Prop := ∀ x ∈ l, fitN x
theorem fitA_of {ty : Ty} : ∀ {l : List Nd}, fitL ty l → fitA l
  | [], _ => fun x hx => by cases hx
  | y :: r, h => fun x hx => by
    unfold fitL at h
    rcases List.mem_cons.1 hx with rfl | hx
    · exact h.2.1
    · exact fitA_of h.2.2 x hx
theorem allN_ne (x : Nd) : ∃ y r, allN x = y :: r := by
  obtain ⟨ty, k, n, nm, xs, cs, ts, es⟩ := x
  unfold allN
  exact ⟨_, _, rfl⟩
theorem eq_all : ∀ (l m : List Nd), fitA l → fitA m → eqL (allL l) (allL m) = sameL l m
  | [], [], _, _ => by unfold allL sameL eqL; rfl
  | [], y :: m, _, _ => by
    obtain ⟨z, r, hz⟩ := allN_ne y
    rw [allL, allL, hz]
    simp [eqL, sameL]
  | x :: l, [], _, _ => by
    obtain ⟨z, r, hz⟩ := allN_ne x
    rw [allL, allL, hz]
    simp [eqL, sameL]
  | x :: l, y :: m, hl, hm => by
    rw [allL, allL, sameL, eq_N x y _ _ (hl x (List.mem_cons_self ..)) (hm y (List.mem_cons_self ..)), eq_all l m (fun z hz => hl z (List.mem_cons_of_mem _ hz)) (fun z hz => hm z (List.mem_cons_of_mem _ hz))]
theorem same_ty {x y : Nd} (h : x.ty ≠ y.ty) : sameN x y = false := by
  obtain ⟨ty, k, n, nm, xs, cs, ts, es⟩ := x
  obtain ⟨ty2, k2, n2, nm2, xs2, cs2, ts2, es2⟩ := y
  unfold sameN
  have : decide (ty = ty2) = false := by simpa [Nd.ty] using h
  simp [this]
theorem ty_of {ty : Ty} : ∀ {l : List Nd}, fitL ty l → ∀ x ∈ l, x.ty = ty
  | [], _ => fun x hx => by cases hx
  | y :: r, h => fun x hx => by
    unfold fitL at h
    rcases List.mem_cons.1 hx with rfl | hx
    · exact h.1
    · exact ty_of h.2.2 x hx
theorem same_app : ∀ (d1 s1 d2 s2 : List Nd), (∀ x ∈ d1, x.ty = .D) → (∀ x ∈ d2, x.ty = .D) → (∀ x ∈ s1, x.ty = .S) → (∀ x ∈ s2, x.ty = .S) → sameL (d1 ++ s1) (d2 ++ s2) = (sameL d1 d2 && sameL s1 s2)
  | [], s1, [], s2, _, _, _, _ => by rw [List.nil_append, List.nil_append, show sameL [] [] = true by rw [sameL]]; rfl
  | x :: d1, s1, y :: d2, s2, h1, h2, h3, h4 => by
    rw [List.cons_append, List.cons_append, sameL, sameL, same_app d1 s1 d2 s2 (fun z hz => h1 z (List.mem_cons_of_mem _ hz)) (fun z hz => h2 z (List.mem_cons_of_mem _ hz)) h3 h4, Bool.and_assoc]
  | [], [], y :: d2, s2, _, _, _, _ => by simp [sameL]
  | [], z :: s1, y :: d2, s2, _, h2, h3, _ => by
    rw [List.nil_append, List.cons_append, sameL, same_ty (by rw [h3 z (List.mem_cons_self ..), h2 y (List.mem_cons_self ..)]; decide)]
    simp [sameL]
  | x :: d1, s1, [], [], _, _, _, _ => by simp [sameL]
  | x :: d1, s1, [], z :: s2, h1, _, _, h4 => by
    rw [List.nil_append, List.cons_append, sameL, same_ty (by rw [h4 z (List.mem_cons_self ..), h1 x (List.mem_cons_self ..)]; decide)]
    simp [sameL]
/-- What the project answers for two programs: both are gone through to their end, and they are the same. -/
theorem progT_list {ds ss : List Nd} (h : (progT ds ss).lim = 0) : (progT ds ss).l = allL (ds ++ ss) := by
  unfold progT at h ⊢
  obtain ⟨h1, e1⟩ := if_lim h
  rw [e1] at h ⊢
  have l1 := list_L ds 1 ⟨[], 0, 0⟩ h1
  have l2 := list_L ss 1 _ h
  rw [l2, l1, allL_app]
  rfl
end Go.Proofs.Ytpildlaloclanaa
