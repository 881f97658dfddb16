/-
  Plain: what a tree must be so that it runs (each node has its parts, each name its place); and what the machine makes of constants and of operations.
-/
import Derived.Test.YtbhbmoppipohjaaQRunB
import Derived.Deep.QuietTactic

namespace Go.Proofs.Ytbhbmoppipohjaa
open Go Go.RowKit Go.Maps

def shN (K : Me) (ty : Ty) (k n : Int) (nm : ByteArray) (xl cl : Nat) : Prop := match ty with
  | .E => 1 ≤ k ∧ k ≤ 10 ∧ (k = 1 → 0 ≤ n) ∧ (k = 4 ∨ k = 5 → xl = 1) ∧ (6 ≤ k → xl = 2) ∧ (k = 2 → K.E.pl nm < K.nv) ∧ (k = 4 → K.E.pl nm < K.ab.length)
  | .C => 1 ≤ k ∧ k ≤ 6 ∧ (k = 3 → xl = 2) ∧ (k = 4 → cl = 1) ∧ (5 ≤ k → cl = 2)
  | .S => 1 ≤ k ∧ k ≤ 7 ∧ (k = 1 → xl = 1) ∧ (k = 2 → xl = 2) ∧ (3 ≤ k ∧ k ≤ 6 → cl = 1) ∧ (k = 1 → K.E.pl nm < K.nv) ∧ (k = 2 → K.E.pl nm < K.ab.length)
  | .D => True
mutual
/-- A tree that runs. -/
def okN (K : Me) : Nd → Prop
  | .mk ty k n nm xs cs ts es => shN K ty k n nm xs.length cs.length ∧ okL K .E xs ∧ okL K .C cs ∧ okL K .S ts ∧ okL K .S es
def okL (K : Me) : Ty → List Nd → Prop
  | _, [] => True
  | ty, x :: r => x.ty = ty ∧ okN K x ∧ okL K ty r
end
theorem okL_at {K : Me} : ∀ {ty : Ty} {l : List Nd} (_ : okL K ty l) (i : Nat) (hi : i < l.length), (l[i]).ty = ty ∧ okN K l[i]
  | _, x :: r, h, 0, _ => by unfold okL at h; exact ⟨h.1, h.2.1⟩
  | _, x :: r, h, i + 1, hi => by
    unfold okL at h
    have := okL_at h.2.2 i (by simpa using hi)
    simpa using this
theorem neg_wrap {n : Int} (h0 : 0 ≤ n) (hn : i64ok n) : IntKind.i64.wrap (-n) = -n := by
  have h := fits_wf hn
  exact fits_wrap (by unfold fitsI at *; omega)
def conV : Option Int → Value
  | some n => .tuple #[.int .i64 n, .bool true]
  | none => .tuple #[.int .i64 0, .bool false]

set_option maxRecDepth 100000 in
theorem constant_any (K : Me) (w0 : World) (x : Nd) (us : List Value) (hty : x.ty = .E) (hok : okN K x) (hin : NdIn w0 x us) (w : World) (hw : Below w0.heap.size w0 w) :
    Calls Try.prog 57 #[.agg us.toArray] w (fun e w' => e = .returned (conV (conN x)) ∧ Below w.heap.size w w') := by
  obtain ⟨ty, k, n, nm, xs, cs, ts, es⟩ := x
  simp only [Nd.ty] at hty
  subst hty
  unfold okN at hok
  obtain ⟨⟨hk1, hk2, -, hk4, -⟩, hxs, -⟩ := hok
  unfold NdIn at hin
  obtain ⟨hz, -, -, -, vx, vc, vt, ve, rfl, hsl, -⟩ := hin
  simp only [fits] at hz
  obtain ⟨rfl, rfl, rfl⟩ := hz
  obtain ⟨a, c, rfl, hlc, hcm, hrow⟩ := hsl
  change Calls _ _ #[.agg #[.int .i64 k, .int .i64 n, .string nm, .slice a xs.length c]] w _
  have hb := (Below.refl w.heap.size w).alloc (Nat.le_refl _) (.cells #[.int .i64 k, .int .i64 n, .string nm, .slice a xs.length c] 42)
  by_cases k1 : k = 1
  · subst k1
    have e : conN (.mk .E 1 n nm xs [] [] []) = some n := by unfold conN; cases xs <;> rfl
    rw [e]
    clear e hrow hw hxs hk4 hk1 hk2
    go_enter Try.func57, Try.ntmps57
    go_wp2_with fail
    go_ret2
    exact ⟨rfl, hb⟩
  have t1 : (k == 1) = false := by simpa using k1
  by_cases k5 : k = 5
  · subst k5
    have hl := hk4 (.inr rfl)
    have hr2 := hrow.resolve_left (by omega)
    clear hrow
    obtain ⟨b, o, rfl, hrow⟩ := hr2
    obtain ⟨ty0, k0, n0, nm0, xs0, cs0, ts0, es0, rfl⟩ : ∃ ty0 k0 n0 nm0 xs0 cs0 ts0 es0, xs = [.mk ty0 k0 n0 nm0 xs0 cs0 ts0 es0] := by
      match xs, hl with
      | [.mk ty0 k0 n0 nm0 xs0 cs0 ts0 es0], _ => exact ⟨_, _, _, _, _, _, _, _, rfl⟩
    have h0 := okL_at hxs 0 (by simp)
    simp only [List.getElem_cons_zero] at h0
    unfold RowIn at hrow
    obtain ⟨⟨hty0, us0, hc0, hin0⟩, -⟩ := hrow
    simp only [Nd.ty] at hty0
    subst hty0
    have h01 := h0.2
    unfold okN at h01
    obtain ⟨⟨-, -, hkn0, -⟩, -⟩ := h01
    unfold NdIn at hin0
    obtain ⟨-, -, hn64, -, vx0, vc0, vt0, ve0, rfl, -⟩ := hin0
    have g0 := hc0 0 (.int .i64 k0) rfl
    have g1 := hc0 1 (.int .i64 n0) rfl
    have kk := keeps_below hw
    have g0 := kk _ _ _ g0
    have g1 := kk _ _ _ g1
    simp only [Nat.add_zero] at g0
    have hlt : b < w.heap.size := World.block_lt_of_cell? w _ g0
    have g0 : (w.alloc (.cells #[.int .i64 5, .int .i64 n, .string nm, .slice (some ⟨b, o, none⟩) [Nd.mk .E k0 n0 nm0 xs0 cs0 ts0 es0].length c] 42)).cell? ⟨b, o, none⟩ = some (.int .i64 k0) := (hb.cell (p := ⟨b, o, none⟩) hlt).trans g0
    have g1 : (w.alloc (.cells #[.int .i64 5, .int .i64 n, .string nm, .slice (some ⟨b, o, none⟩) [Nd.mk .E k0 n0 nm0 xs0 cs0 ts0 es0].length c] 42)).cell? ⟨b, o + 1, none⟩ = some (.int .i64 n0) := (hb.cell (p := ⟨b, o + 1, none⟩) hlt).trans g1
    by_cases j1 : k0 = 1
    · subst j1
      have e : conN (.mk .E 5 n nm [.mk .E 1 n0 nm0 xs0 cs0 ts0 es0] [] [] []) = some (-n0) := rfl
      rw [e]
      have hneg := neg_wrap (hkn0 rfl) hn64
      simp only [List.length_cons, List.length_nil] at g0 g1 hb hlc ⊢
      clear e hw hxs hk4 hk1 hk2 kk h0 hc0 hkn0 hn64 hl hlt
      go_enter Try.func57, Try.ntmps57
      go_wp2_with fail
      go_ret2
      exact ⟨rfl, hb⟩
    · have u1 : (k0 == 1) = false := by simpa using j1
      have e : conN (.mk .E 5 n nm [.mk .E k0 n0 nm0 xs0 cs0 ts0 es0] [] [] []) = none := by unfold conN conK kindN; simp [j1]
      rw [e]
      simp only [List.length_cons, List.length_nil] at g0 g1 hb hlc ⊢
      clear e hw hxs hk4 hk1 hk2 kk h0 hc0 hkn0 hn64 hl hlt j1
      go_enter Try.func57, Try.ntmps57
      go_wp2_with fail
      go_ret2
      exact ⟨rfl, hb⟩
  · have t5 : (k == 5) = false := by simpa using k5
    have e : conN (.mk .E k n nm xs [] [] []) = none := by unfold conN; cases xs <;> simp [conK, k1, k5]
    rw [e]
    clear e hrow hw hxs hk4 hk1 hk2 k1 k5
    go_enter Try.func57, Try.ntmps57
    go_wp2_with fail
    go_ret2
    exact ⟨rfl, hb⟩
theorem tell_num (x : Int) : tellV x = .tuple #[.int .i64 (numT x).1, .int .i64 (numT x).2] := by
  unfold tellV numT
  split <;> rfl
theorem numT_fits (x : Int) : fitsI (numT x).1 := by
  unfold numT
  split
  · assumption
  · decide
theorem numK_fits {k a b : Int} (ha : fitsI a) : fitsI (numK k a b).1 := by
  unfold numK
  split; · exact numT_fits _
  split; · exact numT_fits _
  split; · exact numT_fits _
  split; · exact numT_fits _
  split
  · split
    · decide
    · exact numT_fits _
  · split
    · decide
    · split
      · decide
      · have := tmod_facts a b
        unfold fitsI at ha ⊢
        simp only
        omega

set_option maxRecDepth 100000 in
theorem reckon_any (k a b : Int) (hk : 5 ≤ k ∧ k ≤ 10) (ha : fitsI a) (hb : fitsI b) (w : World) :
    Calls Try.prog 66 #[.int .i64 k, .int .i64 a, .int .i64 b] w (fun e w' => e = .returned (.tuple #[.int .i64 (numK k a b).1, .int .i64 (numK k a b).2]) ∧ w' = w) := by
  obtain ⟨h5, h10⟩ := hk
  have hc : k = 5 ∨ k = 6 ∨ k = 7 ∨ k = 8 ∨ k = 9 ∨ k = 10 := by omega
  clear h5 h10
  rcases hc with rfl | rfl | rfl | rfl | rfl | rfl
  · have e : Value.tuple #[.int .i64 (numK 5 a b).1, .int .i64 (numK 5 a b).2] = tellV (-a) := by rw [tell_num]; rfl
    rw [e]
    have HC := Lib.hid (nneg a ha w)
    clear e
    obtain ⟨v, z, hvz⟩ := tell_form (-a)
    rw [hvz] at HC ⊢
    go_enter Try.func66, Try.ntmps66
    go_wp2_with (first | (go_at_call 70; (with_reducible refine HC.out.mono ?_); rintro e w2 ⟨rfl, rfl⟩) | fail)
    go_ret2
    exact ⟨rfl, rfl⟩
  · have e : Value.tuple #[.int .i64 (numK 6 a b).1, .int .i64 (numK 6 a b).2] = tellV (a + b) := by rw [tell_num]; rfl
    rw [e]
    have HC := Lib.hid (nadd a b ha hb w)
    clear e
    obtain ⟨v, z, hvz⟩ := tell_form (a + b)
    rw [hvz] at HC ⊢
    go_enter Try.func66, Try.ntmps66
    go_wp2_with (first | (go_at_call 71; (with_reducible refine HC.out.mono ?_); rintro e w2 ⟨rfl, rfl⟩) | fail)
    go_ret2
    exact ⟨rfl, rfl⟩
  · have e : Value.tuple #[.int .i64 (numK 7 a b).1, .int .i64 (numK 7 a b).2] = tellV (a - b) := by rw [tell_num]; rfl
    rw [e]
    have HC := Lib.hid (nsub a b ha hb w)
    clear e
    obtain ⟨v, z, hvz⟩ := tell_form (a - b)
    rw [hvz] at HC ⊢
    go_enter Try.func66, Try.ntmps66
    go_wp2_with (first | (go_at_call 72; (with_reducible refine HC.out.mono ?_); rintro e w2 ⟨rfl, rfl⟩) | fail)
    go_ret2
    exact ⟨rfl, rfl⟩
  · have e : Value.tuple #[.int .i64 (numK 8 a b).1, .int .i64 (numK 8 a b).2] = tellV (a * b) := by rw [tell_num]; rfl
    rw [e]
    have HC := Lib.hid (nmul a b ha hb w)
    clear e
    obtain ⟨v, z, hvz⟩ := tell_form (a * b)
    rw [hvz] at HC ⊢
    go_enter Try.func66, Try.ntmps66
    go_wp2_with (first | (go_at_call 73; (with_reducible refine HC.out.mono ?_); rintro e w2 ⟨rfl, rfl⟩) | fail)
    go_ret2
    exact ⟨rfl, rfl⟩
  · have e : Value.tuple #[.int .i64 (numK 9 a b).1, .int .i64 (numK 9 a b).2] = divV a b := by
      show Value.tuple #[.int .i64 (if b = 0 then ((0 : Int), (2 : Int)) else numT (a.tdiv b)).1, .int .i64 (if b = 0 then ((0 : Int), (2 : Int)) else numT (a.tdiv b)).2] = _
      unfold divV
      split
      · rfl
      · rw [tell_num]
    rw [e]
    have HC := Lib.hid (ndiv a b ha hb w)
    clear e
    obtain ⟨v, z, hvz⟩ : ∃ v e : Int, divV a b = .tuple #[.int .i64 v, .int .i64 e] := by
      unfold divV
      split
      · exact ⟨_, _, rfl⟩
      · exact tell_form _
    rw [hvz] at HC ⊢
    go_enter Try.func66, Try.ntmps66
    go_wp2_with (first | (go_at_call 74; (with_reducible refine HC.out.mono ?_); rintro e w2 ⟨rfl, rfl⟩) | fail)
    go_ret2
    exact ⟨rfl, rfl⟩
  · have e : Value.tuple #[.int .i64 (numK 10 a b).1, .int .i64 (numK 10 a b).2] = remV a b := by
      show Value.tuple #[.int .i64 (if b = 0 then ((0 : Int), (2 : Int)) else if a = -9223372036854775808 ∧ b = -1 then (0, 1) else (a.tmod b, 0)).1, .int .i64 (if b = 0 then ((0 : Int), (2 : Int)) else if a = -9223372036854775808 ∧ b = -1 then (0, 1) else (a.tmod b, 0)).2] = _
      unfold remV
      split
      · rfl
      · split <;> rfl
    rw [e]
    have HC := Lib.hid (nrem a b ha hb w)
    clear e
    obtain ⟨v, z, hvz⟩ : ∃ v e : Int, remV a b = .tuple #[.int .i64 v, .int .i64 e] := by
      unfold remV
      split
      · exact ⟨_, _, rfl⟩
      · split <;> exact ⟨_, _, rfl⟩
    rw [hvz] at HC ⊢
    go_enter Try.func66, Try.ntmps66
    go_wp2_with (first | (go_at_call 75; (with_reducible refine HC.out.mono ?_); rintro e w2 ⟨rfl, rfl⟩) | fail)
    go_ret2
    exact ⟨rfl, rfl⟩
end Go.Proofs.Ytbhbmoppipohjaa
