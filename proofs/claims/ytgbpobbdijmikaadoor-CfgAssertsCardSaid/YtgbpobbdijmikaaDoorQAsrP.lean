/-
  Plain: a program's graph has as many edges that pass, and as many that fail, as it has asserts.
-/
import Derived.Test.YtgbpobbdijmikaaDoorQCfgV

namespace Go.Proofs.YtgbpobbdijmikaaDoor
open Go Go.RowKit

def cntE (k : Int) (l : List Ed) : Nat := l.countP (fun e => decide (e.kd = k))
theorem cntE_snoc (k : Int) (l : List Ed) (e : Ed) : cntE k (l ++ [e]) = cntE k l + (if e.kd = k then 1 else 0) := by
  unfold cntE
  rw [List.countP_append]
  simp [List.countP_cons]
mutual
/-- How many asserts. -/
def asN : Nd → Nat
  | .mk _ k _ _ _ _ ts es => (if k = 5 then 1 else 0) + (asL ts + asL es)
def asL : List Nd → Nat
  | [] => 0
  | x :: r => asN x + asL r
end
mutual
theorem asN_le : ∀ (x : Nd), asN x ≤ szN x
  | .mk ty k n nm xs cs ts es => by
    have h1 := asL_le ts
    have h2 := asL_le es
    rw [asN, szN]
    split <;> omega
theorem asL_le : ∀ (l : List Nd), asL l ≤ szL l
  | [] => by rw [asL, szL]; exact Nat.le_refl _
  | x :: r => by
    have h1 := asN_le x
    have h2 := asL_le r
    rw [asL, szL]
    omega
end
/-- So many edges more pass, and fail. -/
structure Ct (c : Nat) (s s' : Lw) : Prop where
  p : cntE 13 s'.eds = cntE 13 s.eds + c
  f : cntE 14 s'.eds = cntE 14 s.eds + c
theorem Ct.refl (s : Lw) : Ct 0 s s := ⟨rfl, rfl⟩
theorem Ct.same {s s' : Lw} (h : s'.eds = s.eds) : Ct 0 s s' := ⟨by rw [h]; rfl, by rw [h]; rfl⟩
theorem Ct.trans {a b : Nat} {s s' s2 : Lw} (h : Ct a s s') (k : Ct b s' s2) : Ct (a + b) s s2 := ⟨by rw [k.p, h.p]; omega, by rw [k.f, h.f]; omega⟩
theorem Ct.to {a b : Nat} {s s' : Lw} (h : Ct a s s') (e : a = b) : Ct b s s' := by subst e; exact h
theorem Ct.add (s : Lw) {e : Ed} (h1 : e.kd ≠ 13) (h2 : e.kd ≠ 14) : Ct 0 s (s.add e) := ⟨by show cntE 13 (s.eds ++ [e]) = _; rw [cntE_snoc, if_neg h1], by show cntE 14 (s.eds ++ [e]) = _; rw [cntE_snoc, if_neg h2]⟩
theorem last_kd {k : Int} (h1 : 1 ≤ k) (h10 : k ≤ 10) : kindK k ≠ 13 ∧ kindK k ≠ 14 := by
  unfold kindK
  split
  · decide
  · split
    · decide
    · omega
mutual
theorem opN_ct (E : Lv) : ∀ (x : Nd) (q d : Int) (s : Lw), x.ty = .E → fmN x → Ct 0 s (opN E x q d s).2.2
  | .mk ty k n nm xs cs ts es, q, d, s, hty, hok => by
    simp only [Nd.ty] at hty
    subst hty
    unfold fmN at hok
    have hkd := last_kd hok.1.1 hok.1.2.1
    rw [opN]
    cases simK E k nm (conK k n xs) with
    | some o => exact Ct.refl s
    | none => exact ((Ct.same (show ((s.temp d).fresh).eds = s.eds from rfl)).trans (opsL_ct E xs q d _ hok.2.1)).trans (Ct.add _ hkd.1 hkd.2)
theorem opsL_ct (E : Lv) : ∀ (l : List Nd) (q d : Int) (s : Lw), fmL .E l → Ct 0 s (opsL E l q d s).2.2
  | [], q, d, s, _ => by rw [opsL]; exact Ct.refl s
  | x :: r, q, d, s, h => by
    unfold fmL at h
    rw [opsL]
    exact (opN_ct E x q d s h.1 h.2.1).trans (opsL_ct E r _ _ _ h.2.2)
end
theorem into_ct (E : Lv) {x : Nd} (hty : x.ty = .E) (hok : fmN x) (dst f t d : Int) (s : Lw) : Ct 0 s (intoN E x dst f t d s) := by
  have h := args_two hty hok
  obtain ⟨ty, k, n, nm, xs, cs, ts, es⟩ := x
  simp only [Nd.ty] at hty
  subst hty
  unfold fmN at hok
  have hkd := last_kd hok.1.1 hok.1.2.1
  unfold intoN
  exact (opsL_ct E _ f d s h.2).trans (Ct.add _ hkd.1 hkd.2)
theorem cmp_ct (E : Lv) (op : Int) {xs : List Nd} (h : fmL .E xs) (f y n : Int) (s : Lw) : Ct 0 s (cmpE E op xs f y n s) := by
  unfold cmpE
  exact ((opsL_ct E xs f 0 s h).trans (Ct.add _ (by show (12 : Int) ≠ 13; decide) (by show (12 : Int) ≠ 14; decide))).trans (Ct.add _ (by show (12 : Int) ≠ 13; decide) (by show (12 : Int) ≠ 14; decide))
theorem nop_ct (s : Lw) (f t : Int) : Ct 0 s (s.add (edgeE f t 1)) := Ct.add _ (by show (1 : Int) ≠ 13; decide) (by show (1 : Int) ≠ 14; decide)
theorem cdK_ct (E : Lv) (k op : Int) {xs : List Nd} (hx : fmL .E xs) {hs : List (Int → Int → Int → Lw → Lw)} (h0 : ∀ i f y n s, Ct 0 s (cnR hs i f y n s)) (f y n : Int) (s : Lw) : Ct 0 s (cdK E k op xs hs f y n s) := by
  have hf : Ct 0 s s.fresh := Ct.same rfl
  unfold cdK
  split; · exact nop_ct s f y
  split; · exact nop_ct s f n
  split; · exact cmp_ct E op hx f y n s
  split; · exact h0 0 f n y s
  split
  · exact (hf.trans (h0 0 _ _ _ _)).trans (h0 1 _ _ _ _)
  · exact (hf.trans (h0 0 _ _ _ _)).trans (h0 1 _ _ _ _)
mutual
theorem cdN_ct (E : Lv) : ∀ (x : Nd) (f y n : Int) (s : Lw), fmN x → Ct 0 s (cdN E x f y n s)
  | .mk ty k m nm xs cs ts es, f, y, n, s, hok => by
    unfold fmN at hok
    rw [cdN]
    exact cdK_ct E k m hok.2.1 (fun i f y n s => cdL_ct E cs i f y n s hok.2.2.1) f y n s
theorem cdL_ct (E : Lv) : ∀ (l : List Nd) (i : Nat) (f y n : Int) (s : Lw), fmL .C l → Ct 0 s (cnR (cdL E l) i f y n s)
  | [], i, f, y, n, s, _ => by unfold cdL cnR; simp only [List.getD_nil]; exact Ct.refl s
  | x :: r, 0, f, y, n, s, h => by
    unfold fmL at h
    have := cdN_ct E x f y n s h.2.1
    unfold cdL cnR
    exact this
  | x :: r, i + 1, f, y, n, s, h => by
    unfold fmL at h
    have := cdL_ct E r i f y n s h.2.2
    unfold cdL
    unfold cnR at this ⊢
    simpa using this
end
theorem asg_ct (E : Lv) (nm : ByteArray) {x : Nd} (hty : x.ty = .E) (hok : fmN x) (f t : Int) (s : Lw) : Ct 0 s (asgP E nm x f t s) := by
  unfold asgP
  split
  · exact Ct.add _ (by show (2 : Int) ≠ 13; decide) (by show (2 : Int) ≠ 14; decide)
  · exact into_ct E hty hok _ f t 0 s
theorem beg_ct (e : Bool) (s : Lw) : Ct 0 s (begS e s) := Ct.same (by unfold begS; split <;> rfl)
theorem lwK_ct (E : Lv) (k : Int) (nm : ByteArray) {xs : List Nd} (hx : fmL .E xs) (hx1 : k = 1 → xs.length = 1) {hs : List (Int → Int → Int → Lw → Lw)} {te ee : Bool} {tb eb : Int → Int → Lw → Lw} {a b : Nat} (h0 : ∀ f y n s, Ct 0 s (cnR hs 0 f y n s)) (ht : ∀ f t s, Ct a s (tb f t s)) (he : ∀ f t s, Ct b s (eb f t s)) (ha : k ≠ 3 → k ≠ 4 → a = 0) (hb : k ≠ 3 → b = 0) (f t : Int) (s : Lw) : Ct ((if k = 5 then 1 else 0) + (a + b)) s (lwK E k nm xs hs te ee tb eb f t s) := by
  unfold lwK
  by_cases k1 : k = 1
  · have e1 := ha (by omega) (by omega)
    have e2 := hb (by omega)
    subst e1 e2
    rw [if_pos k1, if_neg (by omega : ¬ k = 5)]
    match xs, hx, hx1 k1 with
    | [x], hx, _ =>
      unfold fmL at hx
      exact asg_ct E nm hx.1 hx.2.1 f t s
  rw [if_neg k1]
  by_cases k2 : k = 2
  · have e1 := ha (by omega) (by omega)
    have e2 := hb (by omega)
    subst e1 e2
    rw [if_pos k2, if_neg (by omega : ¬ k = 5)]
    unfold stoP
    exact (opsL_ct E xs f 0 s hx).trans (Ct.add _ (by show (11 : Int) ≠ 13; decide) (by show (11 : Int) ≠ 14; decide))
  rw [if_neg k2]
  by_cases k3 : k = 3
  · rw [if_pos k3, if_neg (by omega : ¬ k = 5)]
    exact (((((beg_ct te s).trans (beg_ct ee _)).trans (h0 _ _ _ _)).trans (ht _ _ _)).trans (he _ _ _)).to (by omega)
  rw [if_neg k3]
  have e2 := hb k3
  subst e2
  by_cases k4 : k = 4
  · rw [if_pos k4, if_neg (by omega : ¬ k = 5)]
    exact (((beg_ct te s).trans (h0 _ _ _ _)).trans (ht _ _ _)).to (by omega)
  rw [if_neg k4]
  have e1 := ha k3 k4
  subst e1
  by_cases k5 : k = 5
  · rw [if_pos k5, if_pos k5]
    have h := (Ct.same (show (s.fresh.fresh).eds = s.eds from rfl)).trans (h0 f s.pts (s.pts + 1) s.fresh.fresh)
    obtain ⟨S, hS⟩ : ∃ S, cnR hs 0 f s.pts (s.pts + 1) s.fresh.fresh = S := ⟨_, rfl⟩
    rw [hS] at h ⊢
    refine ⟨?_, ?_⟩
    · show cntE 13 ((S.eds ++ [edgeE s.pts t 13]) ++ [edgeE (s.pts + 1) t 14]) = _
      rw [cntE_snoc, cntE_snoc, h.p]
      simp [edgeE]
    · show cntE 14 ((S.eds ++ [edgeE s.pts t 13]) ++ [edgeE (s.pts + 1) t 14]) = _
      rw [cntE_snoc, cntE_snoc, h.f]
      simp [edgeE]
  rw [if_neg k5, if_neg k5]
  by_cases k6 : k = 6
  · rw [if_pos k6]
    exact h0 _ _ _ _
  · rw [if_neg k6]
    exact nop_ct s f t
/-- A statement has blocks of its own only where its kind has. -/
def blkK (k : Int) (ts es : List Nd) : Prop := (k ≠ 3 → k ≠ 4 → ts = []) ∧ (k ≠ 3 → es = [])
mutual
def blN : Nd → Prop
  | .mk _ k _ _ _ _ ts es => blkK k ts es ∧ blL ts ∧ blL es
def blL : List Nd → Prop
  | [] => True
  | x :: r => blN x ∧ blL r
end
mutual
theorem lwN_ct (E : Lv) : ∀ (x : Nd) (f t : Int) (s : Lw), x.ty = .S → fmN x → blN x → Ct (asN x) s (lwN E x f t s)
  | .mk ty k n nm xs cs ts es, f, t, s, hty, hok, hbl => by
    simp only [Nd.ty] at hty
    subst hty
    unfold fmN at hok
    unfold blN at hbl
    rw [lwN, asN]
    exact lwK_ct E k nm hok.2.1 hok.1.2.2.1 (fun f y n s => cdL_ct E cs 0 f y n s hok.2.2.1) (fun f t s => (Ct.same (show (s.more (ts.length - 1)).eds = s.eds from rfl)).trans (lwL_ct E ts f s.pts t _ hok.2.2.2.1 hbl.2.1) |>.to (by omega)) (fun f t s => (Ct.same (show (s.more (es.length - 1)).eds = s.eds from rfl)).trans (lwL_ct E es f s.pts t _ hok.2.2.2.2 hbl.2.2) |>.to (by omega)) (fun h3 h4 => by rw [hbl.1.1 h3 h4, asL]) (fun h3 => by rw [hbl.1.2 h3, asL]) f t s
theorem lwL_ct (E : Lv) : ∀ (l : List Nd) (f p t : Int) (s : Lw), fmL .S l → blL l → Ct (asL l) s (lwL E l f p t s)
  | [], f, p, t, s, _, _ => by rw [lwL, asL]; exact Ct.refl s
  | x :: r, f, p, t, s, h, hb => by
    unfold fmL at h
    unfold blL at hb
    rw [lwL, asL]
    exact (lwN_ct E x _ _ _ h.1 h.2.1 hb.1).trans (lwL_ct E r _ _ _ _ h.2.2 hb.2)
end
end Go.Proofs.YtgbpobbdijmikaaDoor
