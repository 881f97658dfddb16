/-
  The machine's operation (an expression's own step behind its arguments) and stepless: proved is what each comes to.
-/
import Derived.Test.YtbhbmoppipohjaaQRunG

namespace Go.Proofs.Ytbhbmoppipohjaa
open Go Go.RowKit Go.Maps

/-- An expression runs as it must, in whatever world. -/
def RVal (K : Me) (w0 : World) (x : Nd) : Prop := ∀ us s r w, NdIn w0 x us → Below w0.heap.size w0 w → At K w s r → Calls Try.prog 41 #[.pointer (some ⟨K.M, 0, none⟩), .agg us.toArray] w (Ran K intV fitsI r w (valN K.E x s))
def argR (fs : List (Rn → Res Int)) : Nat → Rn → Res (Int × Int)
  | 0, s => .go (0, 0) s
  | 1, s => (fnR fs 0 s).bind fun a s => .go (a, 0) s
  | _, s => (fnR fs 0 s).bind fun a s => (fnR fs 1 s).bind fun b s => .go (a, b) s
theorem argR_zero (fs : List (Rn → Res Int)) (s : Rn) : argR fs 0 s = .go (0, 0) s := rfl
theorem argR_one (fs : List (Rn → Res Int)) (s : Rn) : argR fs 1 s = (fnR fs 0 s).bind fun a s => .go (a, 0) s := rfl
theorem argR_two (fs : List (Rn → Res Int)) (s : Rn) : argR fs 2 s = (fnR fs 0 s).bind fun a s => (fnR fs 1 s).bind fun b s => .go (a, b) s := rfl
theorem argR_step {fs : List (Rn → Res Int)} {i : Nat} {s0 s s' : Rn} {p : Int × Int} {v : Int} (h : argR fs i s0 = .go p s) (hi : i < 2) (hv : fnR fs i s = .go v s') : argR fs (i + 1) s0 = .go (if i = 0 then (v, p.2) else (p.1, v)) s' := by
  have hc : i = 0 ∨ i = 1 := by omega
  rcases hc with rfl | rfl
  · rw [argR_zero] at h
    cases h
    rw [Nat.zero_add, argR_one, hv]
    rfl
  · rw [argR_one] at h
    rw [show 1 + 1 = 2 from rfl, argR_two]
    cases h0 : fnR fs 0 s0 with
    | stop x y s2 => rw [h0] at h; cases h
    | go a s2 =>
      rw [h0] at h
      cases h
      change (fnR fs 1 s).bind _ = _
      rw [hv]
      rfl
theorem argR_stop {fs : List (Rn → Res Int)} {i n : Nat} {s0 s s' : Rn} {p : Int × Int} {x y : Int} (h : argR fs i s0 = .go p s) (hi : i < n) (hn : n ≤ 2) (hv : fnR fs i s = .stop x y s') : argR fs n s0 = .stop x y s' := by
  have hc : (i = 0 ∧ n = 1) ∨ (i = 0 ∧ n = 2) ∨ (i = 1 ∧ n = 2) := by omega
  rcases hc with ⟨rfl, rfl⟩ | ⟨rfl, rfl⟩ | ⟨rfl, rfl⟩
  · rw [argR_zero] at h
    cases h
    rw [argR_one, hv]
    rfl
  · rw [argR_zero] at h
    cases h
    rw [argR_two, hv]
    rfl
  · rw [argR_one] at h
    rw [argR_two]
    cases h0 : fnR fs 0 s0 with
    | stop x y s2 => rw [h0] at h; cases h
    | go a s2 =>
      rw [h0] at h
      cases h
      change (fnR fs 1 s).bind _ = _
      rw [hv]
      rfl
theorem val_op (E : Rv) (k : Int) (nm : ByteArray) (fs : List (Rn → Res Int)) (s : Rn) (hk : 5 ≤ k) (n : Nat) (h5 : k = 5 → n = 1) (h6 : 6 ≤ k → n = 2) : valK E k nm none fs s = (argR fs n s).bind fun p s => doK E k p.1 p.2 s := by
  unfold valK
  simp only
  rw [if_neg (by omega), if_neg (by omega), if_neg (by omega)]
  by_cases h : k = 5
  · rw [if_pos h, h5 h, argR_one]
    cases fnR fs 0 s <;> rfl
  · rw [if_neg h, h6 (by omega), argR_two]
    cases fnR fs 0 s with
    | stop x y s' => rfl
    | go a s' =>
      show (fnR fs 1 s').bind _ = ((fnR fs 1 s').bind _).bind _
      cases fnR fs 1 s' <;> rfl
theorem pair_set (a b v : Int) (i : Nat) (hi : i < 2) : (#[.int .i64 a, .int .i64 b] : Array Value).setIfInBounds i (.int .i64 v) = #[.int .i64 (if i = 0 then (v, b) else (a, v)).1, .int .i64 (if i = 0 then (v, b) else (a, v)).2] := by
  match i, hi with
  | 0, _ => rfl
  | 1, _ => rfl
/-- The loop over an operation's arguments. -/
structure OpIn (K : Me) (r : Option Nat) (w : World) (fs : List (Rn → Res Int)) (s : Rn) (X Y : Nat) (cs : Array Value) (i : Nat) (a b : Int) (s' : Rn) (r' : Option Nat) (wr : World) : Prop where
  res : argR fs i s = .go (a, b) s'
  fa : fitsI a
  fb : fitsI b
  kr : Kr K r r' w wr
  run : At K wr s' r'
  tx : Tm K wr r' X cs 42
  ty : Tm K wr r' Y #[.int .i64 a, .int .i64 b] 130
  ne : X ≠ Y
  ge : w.heap.size ≤ Y
theorem Kr.tmp {K : Me} {r r' : Option Nat} {a w w' : World} {Y : Nat} (h : Kr K r r' a w) (ho : Only Y w w') (hY : a.heap.size ≤ Y) : Kr K r r' a w' :=
  ⟨ho.os.trans h.os, ho.tape.trans h.tape, ho.output.trans h.output, Nat.le_trans h.size ho.size, fun k hk h1 h2 h3 h4 => (ho.block k (Nat.lt_of_lt_of_le hk h.size) (by omega)).trans (h.block k hk h1 h2 h3 h4), h.row⟩
set_option maxRecDepth 100000 in
set_option maxHeartbeats 4000000 in
theorem operation_any (K : Me) (hk : K.ok) (w0 : World) (hH : w0.heap.size ≤ K.H0) (x : Nd) (us : List Value) (hty : x.ty = .E) (hok : okN K x) (h5 : 5 ≤ kindN x) (hcon : conN x = none) (hch0 : ∀ xs, (∃ ty k n nm cs ts es, x = .mk ty k n nm xs cs ts es) → ∀ i (hi : i < xs.length), RVal K w0 xs[i]) (s : Rn) (r : Option Nat) (w : World) (hin : NdIn w0 x us) (hw : Below w0.heap.size w0 w) (h : At K w s r) :
    Calls Try.prog 59 #[.pointer (some ⟨K.M, 0, none⟩), .agg us.toArray] w (Ran K intV fitsI r w (valN K.E x s)) := by
  obtain ⟨ty, k, n, nm, xs, cs, ts, es⟩ := x
  simp only [Nd.ty] at hty
  subst hty
  have hch := hch0 xs ⟨_, _, _, _, _, _, _, rfl⟩
  clear hch0
  have hk5 : 5 ≤ k := h5
  clear h5
  unfold okN at hok
  obtain ⟨⟨-, hk10, -, hl1, hl2, -⟩, -⟩ := hok
  have hvo := val_op K.E k nm (valL K.E xs) s hk5 xs.length (fun e => hl1 (.inr e)) hl2
  have hcon' : conK k n xs = none := hcon
  unfold valN
  rw [hcon', hvo]
  clear hvo hcon hcon'
  have hlen : xs.length ≤ 2 := by
    by_cases h6 : 6 ≤ k
    · have := hl2 h6; omega
    · have := hl1 (by omega); omega
  have hlen1 : 1 ≤ xs.length := by
    by_cases h6 : 6 ≤ k
    · have := hl2 h6; omega
    · have := hl1 (by omega); omega
  clear hl1 hl2
  have hat := valL_at K.E xs
  obtain ⟨fs, hfs⟩ : ∃ fs, valL K.E xs = fs := ⟨_, rfl⟩
  rw [hfs] at hat ⊢
  clear hfs
  obtain ⟨R, hR⟩ : ∃ R, ((argR fs xs.length s).bind fun p s => doK K.E k p.1 p.2 s) = R := ⟨_, rfl⟩
  rw [hR]
  unfold NdIn at hin
  obtain ⟨hz, -, hn64, -, vx, vc, vt, ve, rfl, hxs, -⟩ := hin
  simp only [fits] at hz
  obtain ⟨rfl, rfl, rfl⟩ := hz
  obtain ⟨a, c, rfl, hlc, hcm, hrow⟩ := hxs
  change Calls _ _ #[_, .agg #[.int .i64 k, .int .i64 n, .string nm, .slice a xs.length c]] w _
  obtain ⟨b0, o, rfl, hrw⟩ := hrow.resolve_left (by omega)
  clear hrow
  have ht := Tm.new h #[.int .i64 k, .int .i64 n, .string nm, .slice (some ⟨b0, o, none⟩) xs.length c] 42
  have h1 := h.alloc hk (.cells #[.int .i64 k, .int .i64 n, .string nm, .slice (some ⟨b0, o, none⟩) xs.length c] 42)
  obtain ⟨W1, hW1⟩ : ∃ W1, w.alloc (.cells #[.int .i64 k, .int .i64 n, .string nm, .slice (some ⟨b0, o, none⟩) xs.length c] 42) = W1 := ⟨_, rfl⟩
  obtain ⟨X, hX⟩ : ∃ X, w.heap.size = X := ⟨_, rfl⟩
  have hkr : Kr K r r w W1 := by rw [← hW1]; exact (Kr.refl K r w).alloc _
  rw [hW1] at ht h1
  rw [hX] at ht
  have hy := Tm.new h1 #[.int .i64 0, .int .i64 0] 130
  have h2 := h1.alloc hk (.cells #[.int .i64 0, .int .i64 0] 130)
  have ht2 := ht.kr hk ((Kr.refl K r W1).alloc (.cells #[.int .i64 0, .int .i64 0] 130))
  obtain ⟨W2, hW2⟩ : ∃ W2, W1.alloc (.cells #[.int .i64 0, .int .i64 0] 130) = W2 := ⟨_, rfl⟩
  obtain ⟨Y, hY⟩ : ∃ Y, W1.heap.size = Y := ⟨_, rfl⟩
  have hkr2 : Kr K r r w W2 := by rw [← hW2]; exact hkr.alloc _
  rw [hW2] at hy h2 ht2
  rw [hY] at hy
  have hXY : X ≠ Y := by have := ht.blk.lt; omega
  have hI : OpIn K r w fs s X Y #[.int .i64 k, .int .i64 n, .string nm, .slice (some ⟨b0, o, none⟩) xs.length c] 0 0 0 s r W2 := ⟨rfl, by decide, by decide, hkr2, h2, ht2, hy, hXY, by rw [← hY, ← hW1, World.size_alloc]; omega⟩
  have x3 : W2.cell? ⟨X, 3, none⟩ = some (.slice (some ⟨b0, o, none⟩) xs.length c) := ht2.blk.cell 3
  have HI := Lib.hid hI; clear hI
  have HH := Lib.hid (And.intro hw (And.intro h (And.intro hat (And.intro hR hch))))
  have HROW := Lib.hid hrw; clear hrw
  have HW1 := Lib.hid hW1; clear hW1
  have HW2 := Lib.hid hW2; clear hW2
  have HX := Lib.hid hX; clear hX
  have HY := Lib.hid hY; clear hY
  have HK10 := Lib.hid (And.intro hk5 (And.intro hk10 (And.intro hlen hlen1)))
  clear h1 ht hkr hy h2 ht2 hkr2 hXY hw h hat hR hch hn64 hk5 hk10
  have hbig : (xs.length : Int) ≤ 2 := by omega
  go_enter Try.func59, Try.ntmps59
  go_upto_region 1 with fail
  rw [HW1.out, HX.out]
  go_upto_region 2 with fail
  rw [HW2.out, HY.out]
  go_upto_block 0 with fail
  clear x3
  go_wp2_with fail
  go_loopw [13] (fun x wr => ∃ (i : Nat) (a b : Int) (s' : Rn) (r' : Option Nat), x = .int .i64 i ∧ i ≤ xs.length ∧ OpIn K r w fs s X Y #[.int .i64 k, .int .i64 n, .string nm, .slice (some ⟨b0, o, none⟩) xs.length c] i a b s' r' wr) (fun x _ => xs.length - (intOf x).toNat)
  case atStart => exact ⟨0, 0, 0, s, r, rfl, by omega, HI.out⟩
  case round =>
    obtain ⟨i, va, vb, s1, r1, rfl, hi, hI⟩ := hrel
    have HIN := Lib.hid hI; clear hI HI
    by_cases hlt : i < xs.length
    · have hbi : (i : Int) + 1 ≤ 9223372036854775807 := by omega
      have hold : Below w0.heap.size w0 wr := HH.out.1.trans ((HIN.out.kr.old hk HH.out.2.1).mono hH)
      obtain ⟨hty, u0, u1, u2, u3, m0, m1, m2, m3, hnd⟩ := SlIn.item4 rfl HROW.out i hlt
      obtain ⟨fk, fn, fs', fa, fl, fc, rfl, rfl, rfl, rfl⟩ := NdIn.formE hty hnd
      have kk := keeps_below hold
      have k0 := kk _ _ _ m0
      have k1 := kk _ _ _ m1
      have k2 := kk _ _ _ m2
      have k3 := kk _ _ _ m3
      have ht3 := HIN.out.run.alloc hk (.cells #[.int .i64 fk, .int .i64 fn, .string fs', .slice fa fl fc] 42)
      have HC := Lib.hid (HH.out.2.2.2.2 i hlt _ s1 r1 _ hnd (hold.alloc hold.size (.cells #[.int .i64 fk, .int .i64 fn, .string fs', .slice fa fl fc] 42)) ht3)
      have HAT := Lib.hid (HH.out.2.2.1 i hlt)
      have hi2 : (i : Int) < 2 := by omega
      clear m0 m1 m2 m3 kk hold hnd ht3 hty
      go_wp2_with fail
      refine HC.out.mono ?_
      rintro e w3 ⟨r3, hk3, ⟨v, s3, hr3, rfl, hf3, h3⟩ | ⟨st, wr3, s3, hr3, rfl, h3⟩⟩
      · have hty3 := (HIN.out.ty.next ((Below.refl _ wr).alloc (Nat.le_refl _) (.cells #[.int .i64 fk, .int .i64 fn, .string fs', .slice fa fl fc] 42))).kr hk hk3
        have htx3 := (HIN.out.tx.next ((Below.refl _ wr).alloc (Nat.le_refl _) (.cells #[.int .i64 fk, .int .i64 fn, .string fs', .slice fa fl fc] 42))).kr hk hk3
        have hio : i < 2 := by omega
        obtain ⟨z, y0⟩ : ∃ z, w3.cell? ⟨Y, i, none⟩ = some z := ⟨(#[Value.int .i64 va, Value.int .i64 vb])[i]'(by simpa using hio), by rw [hty3.blk.cell]; exact Array.getElem?_eq_getElem (by simpa using hio)⟩
        have f0 := hty3.blk.free i
        have hst := argR_step HIN.out.res hio (by rw [HAT.out]; exact hr3)
        have ho : Only Y w3 (w3.setCell ⟨Y, i, none⟩ (.int .i64 v)) := (Only.refl Y w3).setCell (p := ⟨Y, i, none⟩) rfl _
        have hnew : OpIn K r w fs s X Y #[.int .i64 k, .int .i64 n, .string nm, .slice (some ⟨b0, o, none⟩) xs.length c] (i + 1) (if i = 0 then (v, vb) else (va, v)).1 (if i = 0 then (v, vb) else (va, v)).2 s3 r3 (w3.setCell ⟨Y, i, none⟩ (.int .i64 v)) :=
          { res := hst
            fa := by
              split
              · exact hf3
              · exact HIN.out.fa
            fb := by
              split
              · exact HIN.out.fb
              · exact hf3
            kr := ((HIN.out.kr.alloc _).trans hk3).tmp ho HIN.out.ge
            ge := HIN.out.ge
            run := h3.tmp hk hty3.base hty3.row ho
            tx := ⟨htx3.blk.other (a := ⟨Y, i, none⟩) HIN.out.ne _, htx3.base, htx3.row⟩
            ty := by have := hty3.set i (.int .i64 v); rwa [pair_set _ _ _ _ hio] at this
            ne := HIN.out.ne }
        have HNEW := Lib.hid hnew
        have HLT := Lib.hid hlt
        have HBIG := Lib.hid hbig
        clear hnew hty3 htx3 hst ho hk3 h3 hr3 k0 k1 k2 k3 HC HAT hlc hcm hlt hi hlen hlen1 hbig
        go_wp2_with fail
        go_roundw
        case rel => exact ⟨i + 1, _, _, s3, r3, by go_num, by have := HLT.out; omega, HNEW.out⟩
        case measure => have := HLT.out; simp [intOf]; omega
      · refine ⟨rfl, Ran.stop ?_ ((HIN.out.kr.alloc _).trans hk3) h3⟩
        rw [← HH.out.2.2.2.1, argR_stop HIN.out.res hlt hlen (by rw [HAT.out]; exact hr3)]
        rfl
    · obtain rfl : i = xs.length := by omega
      have HS := Lib.hid (step_any K hk s1 r1 wr HIN.out.run)
      go_wp2_with fail
      refine HS.out.mono ?_
      rintro e w3 ⟨r3, hk3, ⟨u, s3, hr3, rfl, -, h3⟩ | ⟨st, wr3, s3, hr3, rfl, h3⟩⟩
      · have hty3 := HIN.out.ty.kr hk hk3
        have htx3 := HIN.out.tx.kr hk hk3
        have y0 : w3.cell? ⟨Y, 0, none⟩ = some (.int .i64 va) := hty3.blk.cell 0
        have y1 : w3.cell? ⟨Y, 1, none⟩ = some (.int .i64 vb) := hty3.blk.cell 1
        have x0 : w3.cell? ⟨X, 0, none⟩ = some (.int .i64 k) := htx3.blk.cell 0
        have hR := HH.out.2.2.2.1
        rw [HIN.out.res] at hR
        change doK K.E k va vb s1 = R at hR
        unfold doK at hR
        rw [hr3] at hR
        change (if _ then _ else _) = R at hR
        have HC := Lib.hid (reckon_any k va vb ⟨HK10.out.1, HK10.out.2.1⟩ HIN.out.fa HIN.out.fb w3)
        have HF := Lib.hid (numK_fits (k := k) (b := vb) HIN.out.fa)
        obtain ⟨⟨V, Z⟩, hVZ⟩ : ∃ p, numK k va vb = p := ⟨_, rfl⟩
        rw [hVZ] at hR HC HF
        simp only at hR HC HF
        have HKR := Lib.hid (And.intro hR (And.intro (HIN.out.kr.trans hk3) h3))
        clear hty3 htx3 hk3 h3 hr3 HS hVZ hR
        by_cases hz : Z = 0
        · subst hz
          go_wp2_with (first | (go_at_call 66; (with_reducible refine HC.out.mono ?_); rintro e w4 ⟨rfl, rfl⟩) | fail)
          go_ret
          obtain ⟨hR, hkr, h3⟩ := HKR.out
          simp only [if_true] at hR
          exact Ran.go (val := intV) hR.symm hkr HF.out h3
        · have hzb : (Z != 0) = true := by simpa using hz
          go_wp2_with (first | (go_at_call 66; (with_reducible refine HC.out.mono ?_); rintro e w4 ⟨rfl, rfl⟩) | fail)
          refine (fail_any _ _ _).mono ?_
          rintro e w4 ⟨rfl, rfl⟩
          obtain ⟨hR, hkr, h3⟩ := HKR.out
          rw [if_neg hz] at hR
          exact ⟨rfl, Ran.stop hR.symm hkr h3⟩
      · refine ⟨rfl, Ran.stop ?_ (HIN.out.kr.trans hk3) h3⟩
        rw [← HH.out.2.2.2.1, HIN.out.res]
        show doK K.E k va vb s1 = _
        unfold doK
        rw [hr3]
        rfl
end Go.Proofs.Ytbhbmoppipohjaa
