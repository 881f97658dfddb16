/-
  The document's form of a tree (gnomonref3's form.name, form.expr, form.cond): proved is what each leaves in the form's two cells.
-/
import Derived.Test.YtbchibmmkmldiaaGreatDoorTwalkS
import Derived.Test.YtbchibmmkmldiaaGreatDoorNameT
import Derived.Outline
import Derived.Deep.DeepCutAuto
import Derived.Deep.CutBlock
import Derived.Deep.DeepCutAuto
import Derived.Deep.CutBlock
import Derived.Deep.DeepCutAuto
import Derived.Deep.CutBlock
import Derived.Deep.DeepCutAuto
import Derived.Deep.CutBlock
import Derived.Deep.DeepCutAuto
import Derived.Deep.CutBlock
namespace Go.Proofs.YtbchibmmkmldiaaGreatDoor
open Go Go.RowKit

/-- What the form holds. -/
structure Fm where
  ok : Bool
  names : Bool
def Fm.cells (f : Fm) : Array Value := #[.bool f.ok, .bool f.names]
def nameF (s : ByteArray) (b : Bool) (f : Fm) : Fm := if b then ⟨f.ok, f.names && nameB s⟩ else ⟨f.ok && (s.toList == []), f.names⟩
def FormedTo (w : World) (B : Nat) (g : Fm) : Ending → World → Prop := fun e w' => e = .returned (.tuple #[]) ∧ Blk w' B g.cells 73 ∧ Only B w w'

set_option maxHeartbeats 2000000 in
theorem fname_any (s : ByteArray) (b : Bool) (f : Fm) (B : Nat) (w : World) (hs : s.size ≤ maxLen) (hB : Blk w B f.cells 73) :
    Calls Tryz.prog 23 #[.pointer (some ⟨B, 0, none⟩), .string s, .bool b] w (FormedTo w B (nameF s b f)) := by
  obtain ⟨ok, names⟩ := f
  have c0 : w.cell? ⟨B, 0, none⟩ = some (.bool ok) := hB.cell 0
  have c1 : w.cell? ⟨B, 1, none⟩ = some (.bool names) := hB.cell 1
  have f0 := hB.free 0
  have f1 := hB.free 1
  have HB := Lib.hid hB; clear hB
  have HS := Lib.hid hs; clear hs
  cases b with
  | false =>
    have e : nameF s false ⟨ok, names⟩ = ⟨ok && (s.toList == []), names⟩ := rfl
    rw [e]
    clear e
    cases ok with
    | false =>
      go_enter Tryz.func23, Tryz.ntmps23
      go_wp2
      go_end0
      exact ⟨rfl, HB.out.set 0 (.bool false), (Only.refl B w).setCell (by rfl) _⟩
    | true =>
      cases hc : (s.toList == []) with
      | false =>
        go_enter Tryz.func23, Tryz.ntmps23
        go_wp2
        go_end0
        exact ⟨rfl, HB.out.set 0 (.bool false), (Only.refl B w).setCell (by rfl) _⟩
      | true =>
        go_enter Tryz.func23, Tryz.ntmps23
        go_wp2
        go_end0
        exact ⟨rfl, HB.out.set 0 (.bool true), (Only.refl B w).setCell (by rfl) _⟩
  | true =>
    have e : nameF s true ⟨ok, names⟩ = ⟨ok, names && nameB s⟩ := rfl
    rw [e]
    clear e
    cases names with
    | false =>
      go_enter Tryz.func23, Tryz.ntmps23
      go_wp2
      go_end0
      exact ⟨rfl, HB.out.set 1 (.bool false), (Only.refl B w).setCell (by rfl) _⟩
    | true =>
      have hn := refname_any s w HS.out
      obtain ⟨q, hq⟩ : ∃ q, nameB s = q := ⟨_, rfl⟩
      rw [hq] at hn ⊢
      clear hq
      have HN := Lib.hid hn; clear hn
      go_enter Tryz.func23, Tryz.ntmps23
      go_wp2_with (first | (go_at_call 49; (with_reducible refine HN.out.mono ?_); rintro e w1 ⟨rfl, rfl⟩) | fail)
      go_end0
      exact ⟨rfl, HB.out.set 1 (.bool q), (Only.refl B w).setCell (by rfl) _⟩

/-- What the document asks of an expression's own parts: its kind, how many arguments, a name or none, a number or none. -/
def argsE (k : Int) : Int := if k = 4 ∨ k = 5 then 1 else if 6 ≤ k ∧ k ≤ 10 then 2 else 0
def kindE (k : Int) : Bool := decide (1 ≤ k ∧ k ≤ 10)
def ownE (k n : Int) (len : Nat) : Bool := ((len : Int) == argsE k) && ((n == 0) || ((k == 1) && decide (0 < n)))
def headE (k n : Int) (nm : ByteArray) (len : Nat) (f : Fm) : Fm := (fun g : Fm => ⟨g.ok && ownE k n len, g.names⟩) (nameF nm ((k == 2) || (k == 4)) ⟨f.ok && kindE k, f.names⟩)

/- GEN -/
/-- What the document asks of a condition's own parts, and of a statement's. -/
def exprsC (k : Int) : Int := if k = 3 then 2 else 0
def partsC (k : Int) : Int := if k = 4 then 1 else if k = 5 ∨ k = 6 then 2 else 0
def kindC (k : Int) : Bool := decide (1 ≤ k ∧ k ≤ 6)
def opC (k n : Int) : Bool := if k = 3 then decide (1 ≤ n ∧ n ≤ 6) else n == 0
def ownC (k n : Int) (xl cl : Nat) : Bool := opC k n && (((xl : Int) == exprsC k) && ((cl : Int) == partsC k))
def headC (k n : Int) (xl cl : Nat) (f : Fm) : Fm := ⟨(f.ok && kindC k) && ownC k n xl cl, f.names⟩
def exprsS (k : Int) : Int := if k = 1 then 1 else if k = 2 then 2 else 0
def condsS (k : Int) : Int := if 3 ≤ k ∧ k ≤ 6 then 1 else 0
def kindS (k : Int) : Bool := decide (1 ≤ k ∧ k ≤ 7)
def ownS (k : Int) (xl cl tl el : Nat) : Bool := ((xl : Int) == exprsS k) && (((cl : Int) == condsS k) && ((((tl : Int) == 0) || ((k == 3) || (k == 4))) && (((el : Int) == 0) || (k == 3))))
def headS (k : Int) (nm : ByteArray) (xl cl tl el : Nat) (f : Fm) : Fm := (fun g : Fm => ⟨g.ok && ownS k xl cl tl el, g.names⟩) (nameF nm ((k == 1) || (k == 2)) ⟨f.ok && kindS k, f.names⟩)
mutual
/-- What the document's form makes of a node, and of nodes in a row (it stops at the first fault of form). -/
def formN : Nd → Fm → Fm
  | .mk ty k n nm xs cs ts es, f => match ty with
    | .E => formL xs (headE k n nm xs.length f)
    | .C => formL cs (formL xs (headC k n xs.length cs.length f))
    | .S => formL es (formL ts (formL xs (formL cs (headS k nm xs.length cs.length ts.length es.length f))))
    | .D => f
def formL : List Nd → Fm → Fm
  | [], f => f
  | x :: r, f => if f.ok then formL r (formN x f) else f
end
theorem formL_no : ∀ (l : List Nd) (f : Fm), f.ok = false → formL l f = f
  | [], _, _ => by unfold formL; rfl
  | x :: r, f, h => by unfold formL; rw [h]; rfl
theorem formL_app : ∀ (l m : List Nd) (f : Fm), formL (l ++ m) f = formL m (formL l f)
  | [], m, f => by rw [List.nil_append]; congr 1
  | y :: r, m, f => by
    rw [List.cons_append]
    conv => lhs; unfold formL
    conv => rhs; arg 2; unfold formL
    cases h : f.ok with
    | true => simp only [if_true]; exact formL_app r m _
    | false => simp only [Bool.false_eq_true, if_false]; rw [formL_no m f h]
theorem formL_one (x : Nd) (f : Fm) (h : f.ok = true) : formL [x] f = formN x f := by unfold formL; rw [h]; simp only [if_true]; unfold formL; rfl
theorem formL_stop {l : List Nd} {i : Nat} {f : Fm} (h : (formL (l.take i) f).ok = false) : formL l f = formL (l.take i) f := by
  conv => lhs; rw [← List.take_append_drop i l, formL_app]
  exact formL_no _ _ h
theorem formL_take {l : List Nd} {i : Nat} (hi : i < l.length) (f : Fm) (h : (formL (l.take i) f).ok = true) : formL (l.take (i + 1)) f = formN l[i] (formL (l.take i) f) := by
  rw [← List.take_append_getElem hi, formL_app, formL_one _ _ h]

set_option maxRecDepth 100000 in
set_option maxHeartbeats 16000000 in
theorem fexpr_any (w0 : World) (B : Nat) (hB0 : w0.heap.size ≤ B) : ∀ (N : Nat) (x : Nd) (v0 v1 v2 v3 : Value) (f : Fm) (w : World), SizeOf.sizeOf x ≤ N → x.ty = .E → NdIn w0 x [v0, v1, v2, v3] → Below w0.heap.size w0 w → Blk w B f.cells 73 →
    Calls Tryz.prog 51 #[.pointer (some ⟨B, 0, none⟩), .agg #[v0, v1, v2, v3]] w (FormedTo w B (formN x f)) := by
  intro N
  induction N with
  | zero =>
    intro x v0 v1 v2 v3 f w hN
    obtain ⟨ty, k, n, nm, xs, cs, ts, es⟩ := x
    simp only [Nd.mk.sizeOf_spec] at hN
    omega
  | succ N ih =>
    intro x v0 v1 v2 v3 f w hN hty hin hw hB
    have hlt := hB.lt
    have hmem := fun y h => Nd.mem_size (x := x) (y := y) h
    obtain ⟨ty, k, n, nm, xs, cs, ts, es⟩ := x
    simp only [Nd.ty] at hty
    subst hty
    simp only [Nd.xs, Nd.cs, Nd.ts, Nd.es] at hmem
    unfold NdIn at hin
    obtain ⟨⟨rfl, rfl, rfl⟩, -, -, hnm, vx, vc, vt, ve, hvs, hx, hc, ht, he⟩ := hin
    simp only [lay, List.cons.injEq, and_true] at hvs
    obtain ⟨rfl, rfl, rfl, rfl⟩ := hvs
    obtain ⟨a, c, rfl, hnc1, hcm1, hrow1⟩ := hx
    have HFIN := Lib.hid (show formN (.mk .E k n nm xs [] [] []) f = formL xs (headE k n nm xs.length f) by unfold formN; rfl)
    obtain ⟨R, hR⟩ : ∃ R, formN (.mk .E k n nm xs [] [] []) f = R := ⟨_, rfl⟩
    rw [hR] at HFIN ⊢
    clear hR
    have HIH1 := Lib.hid (fun (i : Nat) (hi : i < xs.length) v0 v1 v2 v3 f w => ih xs[i] v0 v1 v2 v3 f w (by have := hmem _ (.inl (List.getElem_mem hi)); omega))
    clear ih hmem
    have HROW1 := Lib.hid hrow1; clear hrow1
    have hne : w.heap.size ≠ B := by omega
    have HS := Lib.hid hnm; clear hnm
    obtain ⟨ok, names⟩ := f
    go_enter Tryz.func51, Tryz.ntmps51
    go_upto_block 0 with fail
    have hb1 := hB.alloc (.cells #[.int .i64 k, .int .i64 n, .string nm, .slice a xs.length c] 36)
    have he1 := Blk.new w #[.int .i64 k, .int .i64 n, .string nm, .slice a xs.length c] 36
    have ho1 := (Only.refl B w).alloc (.cells #[.int .i64 k, .int .i64 n, .string nm, .slice a xs.length c] 36)
    have c0 : (w.alloc (.cells #[.int .i64 k, .int .i64 n, .string nm, .slice a xs.length c] 36)).cell? ⟨B, 0, none⟩ = some (.bool ok) := hb1.cell 0
    have f0 := hb1.free 0
    have HBw := Lib.hid hB; clear hB
    have HB := Lib.hid hb1; clear hb1
    have HE := Lib.hid he1; clear he1
    have HO := Lib.hid ho1; clear ho1
    go_cut [4] (fun s wx => s = .int .i64 (argsE k) ∧ Blk wx B (Fm.cells ⟨ok && kindE k, names⟩) 73 ∧ Blk wx w.heap.size #[.int .i64 k, .int .i64 n, .string nm, .slice a xs.length c] 36 ∧ Only B w wx)
    case first =>
      by_cases h1 : k = 1
      · subst h1
        go_wp2_with fail
        go_meet
        exact ⟨rfl, by simpa only [show kindE 1 = true from rfl, Bool.and_true] using HB.out, HE.out, HO.out⟩
      by_cases h2 : k = 2
      · subst h2
        go_wp2_with fail
        go_meet
        exact ⟨rfl, by simpa only [show kindE 2 = true from rfl, Bool.and_true] using HB.out, HE.out, HO.out⟩
      by_cases h3 : k = 3
      · subst h3
        go_wp2_with fail
        go_meet
        exact ⟨rfl, by simpa only [show kindE 3 = true from rfl, Bool.and_true] using HB.out, HE.out, HO.out⟩
      by_cases h4 : k = 4
      · subst h4
        go_wp2_with fail
        go_meet
        exact ⟨rfl, by simpa only [show kindE 4 = true from rfl, Bool.and_true] using HB.out, HE.out, HO.out⟩
      by_cases h5 : k = 5
      · subst h5
        go_wp2_with fail
        go_meet
        exact ⟨rfl, by simpa only [show kindE 5 = true from rfl, Bool.and_true] using HB.out, HE.out, HO.out⟩
      by_cases h6 : k = 6
      · subst h6
        go_wp2_with fail
        go_meet
        exact ⟨rfl, by simpa only [show kindE 6 = true from rfl, Bool.and_true] using HB.out, HE.out, HO.out⟩
      by_cases h7 : k = 7
      · subst h7
        go_wp2_with fail
        go_meet
        exact ⟨rfl, by simpa only [show kindE 7 = true from rfl, Bool.and_true] using HB.out, HE.out, HO.out⟩
      by_cases h8 : k = 8
      · subst h8
        go_wp2_with fail
        go_meet
        exact ⟨rfl, by simpa only [show kindE 8 = true from rfl, Bool.and_true] using HB.out, HE.out, HO.out⟩
      by_cases h9 : k = 9
      · subst h9
        go_wp2_with fail
        go_meet
        exact ⟨rfl, by simpa only [show kindE 9 = true from rfl, Bool.and_true] using HB.out, HE.out, HO.out⟩
      by_cases h10 : k = 10
      · subst h10
        go_wp2_with fail
        go_meet
        exact ⟨rfl, by simpa only [show kindE 10 = true from rfl, Bool.and_true] using HB.out, HE.out, HO.out⟩
      have hk : ¬ (1 ≤ k ∧ k ≤ 10) := by omega
      clear h1 h2 h3 h4 h5 h6 h7 h8 h9 h10
      have hkf : kindE k = false := by unfold kindE; simpa using hk
      have haf : argsE k = 0 := by unfold argsE; rw [if_neg (by omega), if_neg (by omega)]
      have HKF := Lib.hid hkf; clear hkf
      have HAF := Lib.hid haf; clear haf
      have k1 : (k == 1) = false := by simp; omega
      have k2 : (k == 2) = false := by simp; omega
      have k3 : (k == 3) = false := by simp; omega
      have k4 : (k == 4) = false := by simp; omega
      have k5 : (k == 5) = false := by simp; omega
      have k6 : (k == 6) = false := by simp; omega
      have k7 : (k == 7) = false := by simp; omega
      have k8 : (k == 8) = false := by simp; omega
      have k9 : (k == 9) = false := by simp; omega
      have k10 : (k == 10) = false := by simp; omega
      clear hk
      go_wp2_with fail
      go_meet
      exact ⟨by rw [HAF.out], by rw [HKF.out, Bool.and_false]; exact (HBw.out.set 0 (.bool false)).alloc _, (by have h := Blk.new (w.setCell ⟨B, 0, none⟩ (.bool false)) #[.int .i64 k, .int .i64 n, .string nm, .slice a xs.length c] 36; rw [World.size_setCell] at h; exact h), ((Only.refl B w).setCell (by rfl) _).alloc _⟩
    case rest =>
      clear HB HE HO c0 f0 HBw
      obtain ⟨rfl, hB1, hE1, hO1⟩ := hcut
      have hfin := HFIN.out; clear HFIN
      simp only [headE] at hfin
      obtain ⟨ok2, hok2⟩ : ∃ ok2, (ok && kindE k) = ok2 := ⟨_, rfl⟩
      rw [hok2] at hB1 hfin
      clear hok2
      obtain ⟨b2, hb2⟩ : ∃ b, (k == 2) = b := ⟨_, rfl⟩
      obtain ⟨b4, hb4⟩ : ∃ b, (k == 4) = b := ⟨_, rfl⟩
      have hcall := fname_any nm (b2 || b4) ⟨ok2, names⟩ B wc HS.out hB1
      rw [hb2, hb4] at hfin
      obtain ⟨G, hG⟩ : ∃ G, nameF nm (b2 || b4) ⟨ok2, names⟩ = G := ⟨_, rfl⟩
      rw [hG] at hcall hfin
      clear hG
      obtain ⟨gok, gn⟩ := G
      simp only at hfin
      have HFIN := Lib.hid hfin; clear hfin
      have HCALL := Lib.hid hcall; clear hcall
      have hk0 : wc.cell? ⟨w.heap.size, 0, none⟩ = some (.int .i64 k) := hE1.cell 0
      have hk2 : wc.cell? ⟨w.heap.size, 2, none⟩ = some (.string nm) := hE1.cell 2
      have HB1 := Lib.hid hB1; clear hB1
      have HE1 := Lib.hid hE1; clear hE1
      have HO1 := Lib.hid hO1; clear hO1
      go_upto_region 16 with fail
      go_cut [35] (fun _ wx => Blk wx B (Fm.cells ⟨gok, gn⟩) 73 ∧ Blk wx w.heap.size #[.int .i64 k, .int .i64 n, .string nm, .slice a xs.length c] 36 ∧ Only B w wx)
      case first =>
        cases b2 with
        | true =>
          have hc := HCALL.out; clear HCALL
          simp only [Bool.true_or] at hc
          have HCALL := Lib.hid hc; clear hc
          go_wp2_with (first | (go_at_call 23; (with_reducible refine HCALL.out.mono ?_); rintro e w1 ⟨rfl, hB2, hO2⟩) | fail)
          go_meet
          exact ⟨hB2, HE1.out.only hO2 hne, HO1.out.trans hO2⟩
        | false =>
          cases b4 with
          | true =>
            have hc := HCALL.out; clear HCALL
            simp only [Bool.false_or] at hc
            have HCALL := Lib.hid hc; clear hc
            go_wp2_with (first | (go_at_call 23; (with_reducible refine HCALL.out.mono ?_); rintro e w1 ⟨rfl, hB2, hO2⟩) | fail)
            go_meet
            exact ⟨hB2, HE1.out.only hO2 hne, HO1.out.trans hO2⟩
          | false =>
            have hc := HCALL.out; clear HCALL
            simp only [Bool.false_or] at hc
            have HCALL := Lib.hid hc; clear hc
            go_wp2_with (first | (go_at_call 23; (with_reducible refine HCALL.out.mono ?_); rintro e w1 ⟨rfl, hB2, hO2⟩) | fail)
            go_meet
            exact ⟨hB2, HE1.out.only hO2 hne, HO1.out.trans hO2⟩
      case rest =>
        clear HB1 HE1 HO1 HCALL hk0 hk2 hb2 hb4
        obtain ⟨hB1, hE1, hO1⟩ := hcut
        have hb0 : wc.cell? ⟨B, 0, none⟩ = some (.bool gok) := hB1.cell 0
        have hf0 := hB1.free 0
        have hk0 : wc.cell? ⟨w.heap.size, 0, none⟩ = some (.int .i64 k) := hE1.cell 0
        have hk1 : wc.cell? ⟨w.heap.size, 1, none⟩ = some (.int .i64 n) := hE1.cell 1
        have hk3 : wc.cell? ⟨w.heap.size, 3, none⟩ = some (.slice a xs.length c) := hE1.cell 3
        have HB1 := Lib.hid hB1; clear hB1
        have HE1 := Lib.hid hE1; clear hE1
        have HO1 := Lib.hid hO1; clear hO1
        obtain ⟨A, hA⟩ : ∃ A, argsE k = A := ⟨_, rfl⟩
        rw [hA]
        go_upto_region 17 with fail
        go_cut [62] (fun _ wx => Blk wx B (Fm.cells ⟨gok && ownE k n xs.length, gn⟩) 73 ∧ Blk wx w.heap.size #[.int .i64 k, .int .i64 n, .string nm, .slice a xs.length c] 36 ∧ Only B w wx)
        case first =>
          have own : ownE k n xs.length = (((xs.length : Int) == A) && ((n == 0) || ((k == 1) && decide (0 < n)))) := by unfold ownE; rw [hA]
          have OWN := Lib.hid own; clear own hA
          cases gok with
          | false =>
            go_wp2_with fail
            go_meet
            exact ⟨by rw [Bool.false_and]; exact HB1.out.set 0 (.bool false), HE1.out.only ((Only.refl B _).setCell (by rfl) _) hne, HO1.out.setCell (by rfl) _⟩
          | true =>
            cases h1 : ((xs.length : Int) == A) with
            | false =>
              have e : ownE k n xs.length = false := by rw [OWN.out, h1]; rfl
              have E := Lib.hid e; clear e OWN
              go_wp2_with fail
              go_meet
              exact ⟨by rw [E.out]; exact HB1.out.set 0 (.bool false), HE1.out.only ((Only.refl B _).setCell (by rfl) _) hne, HO1.out.setCell (by rfl) _⟩
            | true =>
              cases h2 : (n == 0) with
              | true =>
                have e : ownE k n xs.length = true := by rw [OWN.out, h1, h2]; rfl
                have E := Lib.hid e; clear e OWN
                go_wp2_with fail
                go_meet
                exact ⟨by rw [E.out]; exact HB1.out.set 0 (.bool true), HE1.out.only ((Only.refl B _).setCell (by rfl) _) hne, HO1.out.setCell (by rfl) _⟩
              | false =>
                cases h3 : (k == 1) with
                | false =>
                  have e : ownE k n xs.length = false := by rw [OWN.out, h1, h2, h3]; rfl
                  have E := Lib.hid e; clear e OWN
                  go_wp2_with fail
                  go_meet
                  exact ⟨by rw [E.out]; exact HB1.out.set 0 (.bool false), HE1.out.only ((Only.refl B _).setCell (by rfl) _) hne, HO1.out.setCell (by rfl) _⟩
                | true =>
                  cases h4 : decide (0 < n) with
                  | false =>
                    have e : ownE k n xs.length = false := by rw [OWN.out, h1, h2, h3, h4]; rfl
                    have E := Lib.hid e; clear e OWN
                    go_wp2_with fail
                    go_meet
                    exact ⟨by rw [E.out]; exact HB1.out.set 0 (.bool false), HE1.out.only ((Only.refl B _).setCell (by rfl) _) hne, HO1.out.setCell (by rfl) _⟩
                  | true =>
                    have e : ownE k n xs.length = true := by rw [OWN.out, h1, h2, h3, h4]; rfl
                    have E := Lib.hid e; clear e OWN
                    go_wp2_with fail
                    go_meet
                    exact ⟨by rw [E.out]; exact HB1.out.set 0 (.bool true), HE1.out.only ((Only.refl B _).setCell (by rfl) _) hne, HO1.out.setCell (by rfl) _⟩
        case rest =>
          clear HB1 HE1 HO1 hk0 hk1 hk3 hb0 hf0 hA
          obtain ⟨hB1, hE1, hO1⟩ := hcut
          obtain ⟨S0, hS0⟩ : ∃ S0 : Fm, (⟨gok && ownE k n xs.length, gn⟩ : Fm) = S0 := ⟨_, rfl⟩
          have hfin := HFIN.out; clear HFIN
          rw [hS0] at hB1 hfin
          clear hS0
          have HFIN := Lib.hid hfin; clear hfin
          have HB0 := Lib.hid hB1; clear hB1
          have HE0 := Lib.hid hE1; clear hE1
          have HO0 := Lib.hid hO1; clear hO1
          go_wp2_with fail
          go_loopw [5] (fun x wr => ∃ i : Nat, x = .int .i64 i ∧ i ≤ xs.length ∧ Blk wr B (formL (xs.take i) S0).cells 73 ∧ Blk wr w.heap.size #[.int .i64 k, .int .i64 n, .string nm, .slice a xs.length c] 36 ∧ Only B w wr) (fun x _ => xs.length - (intOf x).toNat)
          case atStart => exact ⟨0, rfl, by omega, by rw [List.take_zero, formL]; exact HB0.out, HE0.out, HO0.out⟩
          case round =>
            obtain ⟨i, rfl, hi, hBr, hEr, hOr⟩ := hrel
            clear HB0 HE0 HO0
            have e3 : wr.cell? ⟨w.heap.size, 3, none⟩ = some (.slice a xs.length c) := hEr.cell 3
            have b2 : wr.cell? ⟨B, 0, none⟩ = some (.bool (formL (xs.take i) S0).ok) := hBr.cell 0
            have hstop := formL_stop (l := xs) (i := i) (f := S0)
            have htk := fun h => formL_take (l := xs) (i := i) h S0
            have HE := Lib.hid hEr; clear hEr
            have HO := Lib.hid hOr; clear hOr
            by_cases hlt2 : i < xs.length
            · have hbi : (i : Int) + 1 ≤ 9223372036854775807 := by unfold maxLen at hcm1; omega
              obtain ⟨S, hS⟩ : ∃ S, formL (xs.take i) S0 = S := ⟨_, rfl⟩
              rw [hS] at hBr b2 hstop htk
              clear hS
              have HBr := Lib.hid hBr; clear hBr
              have hxl : ¬ xs.length = 0 := by omega
              obtain ⟨b, o, rfl, hrow⟩ := HROW1.out.resolve_left hxl
              cases hb : S.ok with
              | true =>
                rw [hb] at b2
                have hold : Below w0.heap.size w0 wr := hw.trans (HO.out.old hB0 hw.size)
                obtain ⟨hty, u0, u1, u2, u3, m0, m1, m2, m3, hnd⟩ := SlIn.item4 rfl hrow i hlt2
                have kk := keeps_below hold
                have k0 := kk _ _ _ m0
                have k1 := kk _ _ _ m1
                have k2 := kk _ _ _ m2
                have k3 := kk _ _ _ m3
                have HC := Lib.hid (HIH1.out i hlt2 u0 u1 u2 u3 S wr hty hnd hold HBr.out)
                have HTK := Lib.hid (htk hlt2 hb)
                clear m0 m1 m2 m3 hnd hty hold kk hstop htk hrow hb
                go_wp2_with fail
                refine HC.out.mono ?_
                rintro e w2 ⟨rfl, hB2, hO2⟩
                rw [← HTK.out] at hB2
                have hE2 := HE.out.only hO2 hne
                have hO3 := HO.out.trans hO2
                have HB2 := Lib.hid hB2; clear hB2
                have HE2 := Lib.hid hE2; clear hE2
                clear hO2
                have HO3 := Lib.hid hO3; clear hO3
                go_wp2
                go_roundw
                case rel => exact ⟨i + 1, by go_num, by omega, HB2.out, HE2.out, HO3.out⟩
                case measure => simp [intOf]; omega
              | false =>
                rw [hb] at b2
                have HST := Lib.hid (hstop hb)
                clear hstop htk hb
                go_wp2
                go_end0
                exact ⟨rfl, by rw [HFIN.out, HST.out]; exact HBr.out, HO.out⟩
            · obtain rfl : i = xs.length := by omega
              rw [List.take_length] at hBr
              have HBr := Lib.hid hBr; clear hBr
              clear hstop htk b2
              go_wp2
              go_end0
              exact ⟨rfl, by rw [HFIN.out]; exact HBr.out, HO.out⟩
end Go.Proofs.YtbchibmmkmldiaaGreatDoor
