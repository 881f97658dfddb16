/-
  The machine's assign, assert and block: proved is that each is the plain run's.
-/
import Derived.Test.YtbhbmoppipohjaaQRunC

namespace Go.Proofs.Ytbhbmoppipohjaa
open Go Go.RowKit Go.Maps

def asgR (E : Rv) (nm : ByteArray) (x : Nd) (s : Rn) : Res Unit := (valN E x s).bind fun v s => (if barN x then stepR E s else .go () s).bind fun _ s => .go () (putV E nm v s)
def astR (E : Rv) (x : Nd) (s : Rn) : Res Unit := (hldN E x s).bind fun b s => (stepR E s).bind fun _ s => if b then .go () (noteR false 0 true s) else .stop 3 4 (noteR false 0 false s)

set_option maxRecDepth 100000 in
set_option maxHeartbeats 4000000 in
theorem assign_any (K : Me) (hk : K.ok) (w0 : World) (hH : w0.heap.size ≤ K.H0) (nm : ByteArray) (hn : nm.size ≤ maxLen) (hp : K.E.pl nm < K.nv) (x : Nd) (us : List Value) (hty : x.ty = .E) (hok : okN K x) (s : Rn) (r : Option Nat) (w : World) (hin : NdIn w0 x us) (hw : Below w0.heap.size w0 w) (h : At K w s r) :
    Calls Try.prog 40 #[.pointer (some ⟨K.M, 0, none⟩), .string nm, .agg us.toArray] w (Ran K unitV anyG r w (asgR K.E nm x s)) := by
  have hstp := stepless_any K w0 x us hty hok hin
  have hval := fun s r w => value_any K hk w0 hH _ x (Nat.le_refl _) hty hok us s r w hin
  have hnd := hin.len
  rw [hty] at hnd
  obtain ⟨v0, v1, v2, v3, rfl⟩ := len4 hnd
  obtain ⟨k, n, ss, a, len, c, rfl, rfl, rfl, rfl⟩ := NdIn.formE hty hin
  change Calls _ _ #[_, _, .agg #[.int .i64 k, .int .i64 n, .string ss, .slice a len c]] w _
  change ∀ w, _ → Calls _ _ #[.agg #[.int .i64 k, .int .i64 n, .string ss, .slice a len c]] w _ at hstp
  change ∀ s r w, _ → _ → Calls _ _ #[_, .agg #[.int .i64 k, .int .i64 n, .string ss, .slice a len c]] w _ at hval
  have ht := Tm.new h #[.int .i64 k, .int .i64 n, .string ss, .slice a len c] 42
  have h1 := h.alloc hk (.cells #[.int .i64 k, .int .i64 n, .string ss, .slice a len c] 42)
  obtain ⟨W1, hW1⟩ : ∃ W1, w.alloc (.cells #[.int .i64 k, .int .i64 n, .string ss, .slice a len c] 42) = W1 := ⟨_, rfl⟩
  obtain ⟨X, hX⟩ : ∃ X, w.heap.size = X := ⟨_, rfl⟩
  have hkr : Kr K r r w W1 := by rw [← hW1]; exact (Kr.refl K r w).alloc _
  rw [hW1] at ht h1
  rw [hX] at ht
  have hw1 : Below w0.heap.size w0 W1 := hw.trans ((hkr.old hk h).mono hH)
  obtain ⟨R, hR⟩ : ∃ R, asgR K.E nm x s = R := ⟨_, rfl⟩
  rw [hR]
  unfold asgR at hR
  have x0 : W1.cell? ⟨X, 0, none⟩ = some (.int .i64 k) := ht.blk.cell 0
  have x1 : W1.cell? ⟨X, 1, none⟩ = some (.int .i64 n) := ht.blk.cell 1
  have x2 : W1.cell? ⟨X, 2, none⟩ = some (.string ss) := ht.blk.cell 2
  have x3 : W1.cell? ⟨X, 3, none⟩ = some (.slice a len c) := ht.blk.cell 3
  have HV := Lib.hid (hval s r W1 hw1 h1)
  have HSTP := Lib.hid hstp
  have HT := Lib.hid (And.intro ht (And.intro h1 (And.intro hkr (And.intro hw1 hR))))
  have HW1 := Lib.hid hW1
  have HX := Lib.hid hX
  have HN := Lib.hid (And.intro hn hp)
  obtain ⟨Q, hQ⟩ : ∃ q, barN x = q := ⟨_, rfl⟩
  have HQ := Lib.hid hQ
  rw [hQ] at HSTP HT
  clear hval hstp ht h1 hkr hw1 hR hW1 hX hn hp hin hnd hQ h hw hok hty
  go_enter Try.func40, Try.ntmps40
  go_upto_region 1 with fail
  rw [HW1.out, HX.out]
  clear HW1
  go_wp2_with fail
  refine HV.out.mono ?_
  rintro e w3 ⟨r3, hk3, ⟨v, s3, hr3, rfl, hf3, h3⟩ | ⟨st, wr3, s3, hr3, rfl, h3⟩⟩
  · have hold : Below w0.heap.size w0 w3 := HT.out.2.2.2.1.trans ((hk3.old hk HT.out.2.1).mono hH)
    have ht3 := HT.out.1.kr hk hk3
    have y0 : w3.cell? ⟨X, 0, none⟩ = some (.int .i64 k) := ht3.blk.cell 0
    have y1 : w3.cell? ⟨X, 1, none⟩ = some (.int .i64 n) := ht3.blk.cell 1
    have y2 : w3.cell? ⟨X, 2, none⟩ = some (.string ss) := ht3.blk.cell 2
    have y3 : w3.cell? ⟨X, 3, none⟩ = some (.slice a len c) := ht3.blk.cell 3
    have HS := Lib.hid (HSTP.out w3 hold)
    have hR := HT.out.2.2.2.2
    rw [hr3] at hR
    have HR : Hid ((if Q = true then stepR K.E s3 else .go () s3).bind (fun _ s => .go () (putV K.E nm v s)) = R) := Lib.hid hR
    have H3 := Lib.hid (And.intro (HT.out.2.2.1.trans hk3) (And.intro hf3 h3))
    clear hold ht3 hR hr3 hf3 h3 hk3
    cases Q with
    | true =>
      go_wp2_with (first | (go_at_call 55; (with_reducible refine HS.out.mono ?_); rintro e w4 ⟨rfl, hb4⟩; have HB4 := Lib.hid hb4; clear hb4) | fail)
      have H4 := Lib.hid (H3.out.2.2.next hk HB4.out)
      have HP := Lib.hid (step_any K hk s3 r3 w4 H4.out)
      refine HP.out.mono ?_
      rintro e w5 ⟨r5, hk5, ⟨u, s5, hr5, rfl, -, h5⟩ | ⟨st, wr5, s5, hr5, rfl, h5⟩⟩
      · have HC := Lib.hid (variable_any K hk s5 r5 nm HN.out.1 HN.out.2 w5 h5)
        obtain ⟨sv, ve, hm, he⟩ := h5
        obtain ⟨v1, v2, -⟩ := vars_at hm _ HN.out.2
        have H5 := Lib.hid (And.intro hk5 (And.intro hr5 (And.intro hm he)))
        clear hk5 hr5 hm he
        go_wp2_with (first | (go_at_call 56; (with_reducible refine HC.out.mono ?_); rintro e w6 ⟨rfl, rfl⟩) | fail)
        go_end0
        obtain ⟨hk5, hr5, hm, he⟩ := H5.out
        have hmd := hm.next hk (Below.refl _ w5).drew
        refine Ran.go (val := unitV) (a := ()) (r' := r5) (s' := putV K.E nm v s5) (by rw [← HR.out]; simp only [if_true]; rw [hr5]; rfl) ((((H3.out.1.trans (Kr.below HB4.out)).trans hk5).drew).trans (Kr.onlyV ((Only.refl K.vb _).setCell (p := ⟨K.vb, K.E.pl nm, none⟩) rfl _))) trivial ⟨sv, ve, hmd.setV hk (K.E.pl nm) H3.out.2.1, he⟩
      · refine ⟨rfl, Ran.stop (by rw [← HR.out]; simp only [if_true]; rw [hr5]; rfl) ((H3.out.1.trans (Kr.below HB4.out)).trans hk5) h5⟩
    | false =>
      go_wp2_with (first | (go_at_call 55; (with_reducible refine HS.out.mono ?_); rintro e w4 ⟨rfl, hb4⟩; have HB4 := Lib.hid hb4; clear hb4) | fail)
      have h5 := H3.out.2.2.next hk HB4.out
      have HC := Lib.hid (variable_any K hk s3 r3 nm HN.out.1 HN.out.2 w4 h5)
      obtain ⟨sv, ve, hm, he⟩ := h5
      obtain ⟨v1, v2, -⟩ := vars_at hm _ HN.out.2
      have H5 := Lib.hid (And.intro hm he)
      clear hm he
      go_wp2_with (first | (go_at_call 56; (with_reducible refine HC.out.mono ?_); rintro e w6 ⟨rfl, rfl⟩) | fail)
      go_end0
      obtain ⟨hm, he⟩ := H5.out
      have hmd := hm.next hk (Below.refl _ w4).drew
      refine Ran.go (val := unitV) (a := ()) (r' := r3) (s' := putV K.E nm v s3) (by rw [← HR.out]; rfl) (((H3.out.1.trans (Kr.below HB4.out)).drew).trans (Kr.onlyV ((Only.refl K.vb _).setCell (p := ⟨K.vb, K.E.pl nm, none⟩) rfl _))) trivial ⟨sv, ve, hmd.setV hk (K.E.pl nm) H3.out.2.1, he⟩
  · exact ⟨rfl, Ran.stop (by rw [← HT.out.2.2.2.2, hr3]; rfl) (HT.out.2.2.1.trans hk3) h3⟩

set_option maxRecDepth 100000 in
set_option maxHeartbeats 4000000 in
theorem assert_any (K : Me) (hk : K.ok) (w0 : World) (hH : w0.heap.size ≤ K.H0) (x : Nd) (us : List Value) (hty : x.ty = .C) (hok : okN K x) (s : Rn) (r : Option Nat) (w : World) (hin : NdIn w0 x us) (hw : Below w0.heap.size w0 w) (h : At K w s r) :
    Calls Try.prog 44 #[.pointer (some ⟨K.M, 0, none⟩), .agg us.toArray] w (Ran K unitV anyG r w (astR K.E x s)) := by
  have hval := fun s r w => holds_any K hk w0 hH _ x (Nat.le_refl _) hty hok us s r w hin
  have hnd := hin.len
  rw [hty] at hnd
  obtain ⟨v0, v1, v2, v3, rfl⟩ := len4 hnd
  obtain ⟨k, n, a, len, c, a2, len2, c2, rfl, rfl, rfl, rfl⟩ := NdIn.formC hty hin
  change Calls _ _ #[_, .agg #[.int .i64 k, .int .i64 n, .slice a len c, .slice a2 len2 c2]] w _
  change ∀ s r w, _ → _ → Calls _ _ #[_, .agg #[.int .i64 k, .int .i64 n, .slice a len c, .slice a2 len2 c2]] w _ at hval
  have ht := Tm.new h #[.int .i64 k, .int .i64 n, .slice a len c, .slice a2 len2 c2] 106
  have h1 := h.alloc hk (.cells #[.int .i64 k, .int .i64 n, .slice a len c, .slice a2 len2 c2] 106)
  obtain ⟨W1, hW1⟩ : ∃ W1, w.alloc (.cells #[.int .i64 k, .int .i64 n, .slice a len c, .slice a2 len2 c2] 106) = W1 := ⟨_, rfl⟩
  obtain ⟨X, hX⟩ : ∃ X, w.heap.size = X := ⟨_, rfl⟩
  have hkr : Kr K r r w W1 := by rw [← hW1]; exact (Kr.refl K r w).alloc _
  rw [hW1] at ht h1
  rw [hX] at ht
  have hw1 : Below w0.heap.size w0 W1 := hw.trans ((hkr.old hk h).mono hH)
  obtain ⟨R, hR⟩ : ∃ R, astR K.E x s = R := ⟨_, rfl⟩
  rw [hR]
  unfold astR at hR
  have x0 : W1.cell? ⟨X, 0, none⟩ = some (.int .i64 k) := ht.blk.cell 0
  have x1 : W1.cell? ⟨X, 1, none⟩ = some (.int .i64 n) := ht.blk.cell 1
  have x2 : W1.cell? ⟨X, 2, none⟩ = some (.slice a len c) := ht.blk.cell 2
  have x3 : W1.cell? ⟨X, 3, none⟩ = some (.slice a2 len2 c2) := ht.blk.cell 3
  have HV := Lib.hid (hval s r W1 hw1 h1)
  have HT := Lib.hid (And.intro ht (And.intro h1 (And.intro hkr (And.intro hw1 hR))))
  have HW1 := Lib.hid hW1
  have HX := Lib.hid hX
  clear hval ht h1 hkr hw1 hR hW1 hX hin hnd h hw hok hty
  go_enter Try.func44, Try.ntmps44
  go_upto_region 1 with fail
  rw [HW1.out, HX.out]
  clear HW1
  go_wp2_with fail
  refine HV.out.mono ?_
  rintro e w3 ⟨r3, hk3, ⟨v, s3, hr3, rfl, -, h3⟩ | ⟨st, wr3, s3, hr3, rfl, h3⟩⟩
  · have hR := HT.out.2.2.2.2
    rw [hr3] at hR
    have HR : Hid ((stepR K.E s3).bind (fun _ s => if v = true then .go () (noteR false 0 true s) else .stop 3 4 (noteR false 0 false s)) = R) := Lib.hid hR
    have HP := Lib.hid (step_any K hk s3 r3 w3 h3)
    have hfew : s3.evs.length ≤ s3.steps := by obtain ⟨sv, ve, hm, -⟩ := h3; exact hm.few
    have HFEW := Lib.hid hfew
    have H3 := Lib.hid (And.intro (HT.out.2.2.1.trans hk3) h3)
    clear hR hr3 h3 hk3 hfew
    go_wp2_with fail
    refine HP.out.mono ?_
    rintro e w4 ⟨r4, hk4, ⟨u, s4, hr4, rfl, -, h4⟩ | ⟨st, wr4, s4, hr4, rfl, h4⟩⟩
    · have HNT := Lib.hid (note_any K hk s4 r4 false 0 v (by rw [(step_go hr4).1]; exact Nat.lt_succ_of_le HFEW.out) w4 h4)
      have hR := HR.out
      rw [hr4] at hR
      have HR2 : Hid ((if v = true then Res.go () (noteR false 0 true s4) else .stop 3 4 (noteR false 0 false s4)) = R) := Lib.hid hR
      have H4 := Lib.hid (H3.out.1.trans hk4)
      clear hk4 hr4 h4 hR
      cases v with
      | true =>
        go_wp2_with (first | (go_at_call 62; (with_reducible refine HNT.out.mono ?_); rintro e w5 ⟨rfl, r5, hk5, h5⟩; have H5 := Lib.hid (And.intro hk5 h5); clear hk5 h5) | fail)
        go_end0
        exact Ran.go (val := unitV) (a := ()) HR2.out.symm (H4.out.trans H5.out.1) trivial H5.out.2
      | false =>
        go_wp2_with (first | (go_at_call 62; (with_reducible refine HNT.out.mono ?_); rintro e w5 ⟨rfl, r5, hk5, h5⟩; have H5 := Lib.hid (And.intro hk5 h5); clear hk5 h5) | fail)
        refine (fail_any _ _ _).mono ?_
        rintro e w6 ⟨rfl, rfl⟩
        exact ⟨rfl, Ran.stop HR2.out.symm (H4.out.trans H5.out.1) H5.out.2⟩
    · exact ⟨rfl, Ran.stop (by rw [← HR.out, hr4]; rfl) (H3.out.1.trans hk4) h4⟩
  · exact ⟨rfl, Ran.stop (by rw [← HT.out.2.2.2.2, hr3]; rfl) (HT.out.2.2.1.trans hk3) h3⟩

/-- A statement runs as it must, in whatever world; statements in a row. -/
def RSt (K : Me) (w0 : World) (x : Nd) : Prop := ∀ us s r w, NdIn w0 x us → Below w0.heap.size w0 w → At K w s r → Calls Try.prog 28 #[.pointer (some ⟨K.M, 0, none⟩), .agg us.toArray] w (Ran K unitV anyG r w (stN K.E x s))
def RBlk (K : Me) (w0 : World) (l : List Nd) : Prop := ∀ v s r w, SlIn w0 .S l v → Below w0.heap.size w0 w → At K w s r → Calls Try.prog 22 #[.pointer (some ⟨K.M, 0, none⟩), v] w (Ran K unitV anyG r w (stL K.E l s))
theorem stL_cons (E : Rv) (x : Nd) (l : List Nd) (s : Rn) : stL E (x :: l) s = (stN E x s).bind fun _ s => stL E l s := by conv => lhs; unfold stL

set_option maxRecDepth 100000 in
set_option maxHeartbeats 4000000 in
theorem block_any (K : Me) (hk : K.ok) (w0 : World) (hH : w0.heap.size ≤ K.H0) (l : List Nd) (hst : ∀ i (hi : i < l.length), RSt K w0 l[i]) : RBlk K w0 l := by
  intro v s r w hl hw h
  obtain ⟨a, c, rfl, hlc, hcm, hrow⟩ := hl
  have hlen : l.length ≤ maxLen := Nat.le_trans hlc hcm
  obtain ⟨R, hR⟩ : ∃ R, stL K.E l s = R := ⟨_, rfl⟩
  rw [hR]
  have HROW := Lib.hid hrow
  have HST := Lib.hid hst
  have HH := Lib.hid (And.intro hw (And.intro h hR))
  clear hrow hst hw h hR hlc hcm
  go_enter Try.func22, Try.ntmps22
  go_wp2_with fail
  go_loopw [8] (fun x wr => ∃ (i : Nat) (s' : Rn) (r' : Option Nat), x = .int .i64 i ∧ i ≤ l.length ∧ stL K.E (l.drop i) s' = R ∧ Kr K r r' w wr ∧ At K wr s' r') (fun x _ => l.length - (intOf x).toNat)
  case atStart => exact ⟨0, s, r, rfl, by omega, by rw [List.drop_zero]; exact HH.out.2.2, Kr.refl K r w, HH.out.2.1⟩
  case round =>
    obtain ⟨i, s1, r1, rfl, hi, hR1, hkr1, h1⟩ := hrel
    by_cases hlt : i < l.length
    · have hbi : (i : Int) + 1 ≤ 9223372036854775807 := by unfold maxLen at hlen; omega
      have hr2 := HROW.out.resolve_left (by omega)
      obtain ⟨b, o, rfl, hrow⟩ := hr2
      have hold : Below w0.heap.size w0 wr := HH.out.1.trans ((hkr1.old hk HH.out.2.1).mono hH)
      obtain ⟨hty, u0, u1, u2, u3, u4, u5, m0, m1, m2, m3, m4, m5, hnd⟩ := SlIn.item6 rfl hrow i hlt
      obtain ⟨fk, fs, fa, fl, fc, fa2, fl2, fc2, fa3, fl3, fc3, fa4, fl4, fc4, rfl, rfl, rfl, rfl, rfl, rfl⟩ := NdIn.formS hty hnd
      have kk := keeps_below hold
      have k0 := kk _ _ _ m0
      have k1 := kk _ _ _ m1
      have k2 := kk _ _ _ m2
      have k3 := kk _ _ _ m3
      have k4 := kk _ _ _ m4
      have k5 := kk _ _ _ m5
      have HC := Lib.hid (HST.out i hlt _ s1 r1 (wr.alloc (.cells #[.int .i64 fk, .string fs, .slice fa fl fc, .slice fa2 fl2 fc2, .slice fa3 fl3 fc3, .slice fa4 fl4 fc4] 47)) hnd (hold.alloc hold.size _) (h1.alloc hk _))
      rw [List.drop_eq_getElem_cons hlt, stL_cons] at hR1
      have H1 := Lib.hid (And.intro hR1 (And.intro hkr1 h1))
      clear m0 m1 m2 m3 m4 m5 kk hold hnd hrow hty hR1 hkr1 h1 HROW hlen
      go_wp2_with fail
      refine HC.out.mono ?_
      rintro e w3 ⟨r3, hk3, ⟨u, s3, hr3, rfl, -, h3⟩ | ⟨st, wr3, s3, hr3, rfl, h3⟩⟩
      · obtain ⟨hR1, hkr1, h1⟩ := H1.out
        rw [hr3] at hR1
        change stL K.E (l.drop (i + 1)) s3 = R at hR1
        have H3 := Lib.hid (And.intro hR1 (And.intro ((hkr1.alloc _).trans hk3) h3))
        clear hR1 hkr1 h1 hk3 hr3 h3
        go_wp2_with fail
        go_roundw
        case rel => exact ⟨i + 1, s3, r3, by go_num, by omega, H3.out.1, H3.out.2.1, H3.out.2.2⟩
        case measure => simp [intOf]; omega
      · obtain ⟨hR1, hkr1, h1⟩ := H1.out
        refine ⟨rfl, Ran.stop (by rw [← hR1, hr3]; rfl) ((hkr1.alloc _).trans hk3) h3⟩
    · obtain rfl : i = l.length := by omega
      rw [List.drop_length] at hR1
      have H1 := Lib.hid (And.intro hR1 (And.intro hkr1 h1))
      clear hR1 hkr1 h1
      go_wp2_with fail
      go_end0
      exact Ran.go (val := unitV) (a := ()) (by rw [← H1.out.1]; unfold stL; rfl) H1.out.2.1 trivial H1.out.2.2
end Go.Proofs.Ytbhbmoppipohjaa
