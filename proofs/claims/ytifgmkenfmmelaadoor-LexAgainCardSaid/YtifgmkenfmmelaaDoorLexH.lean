/-
  The document's scanners (gnomonref2's class, run, skip, moved): proved is what each answers, for every text of at most 65536 bytes.
-/
import Derived.Test.YtifgmkenfmmelaaDoorLexQ
import Derived.Test.YtifgmkenfmmelaaDoorRef
namespace Go.Proofs.YtifgmkenfmmelaaDoor
open Go Go.RowKit

def clsAt (s : ByteArray) (p : Nat) : Int := if p < s.size then cls (rn s p) else 0
def wdAt (s : ByteArray) (p : Nat) : Nat := if p < s.size then wd s p else 0
theorem rcls_any (s : ByteArray) (p : Nat) (w : World) (hs : s.size ≤ 65536) :
    Calls Tryd.prog 40 #[.string s, .int .i64 p] w fun e w' => e = .returned (.tuple #[.int .i64 (clsAt s p), .int .i64 (wdAt s p)]) ∧ w = w' := by
  unfold clsAt wdAt
  by_cases hp : p < s.size
  · rw [if_pos hp, if_pos hp]
    have hd := dec_facts s p hp
    go_enter Tryd.func40, Tryd.ntmps40
    go_wp2_with (first | (go_at_call 29; refine (rune_any s p _ (by omega) hp).mono ?_; rintro e w' ⟨rfl, rfl⟩) | (go_at_call 30; refine (refclass_any _ _).mono ?_; rintro e w' ⟨rfl, rfl⟩))
    go_ret2
    exact ⟨rfl, rfl⟩
  · rw [if_neg hp, if_neg hp]
    go_enter Tryd.func40, Tryd.ntmps40
    go_wp2
    go_ret2
    exact ⟨rfl, rfl⟩

structure RunRel (s : ByteArray) (a p f m : Nat) : Prop where
  eq : spE inNm s f p = spE inNm s s.size a
  cnt : m + cntE inNm s f p = cntE inNm s s.size a
  fuel : s.size ≤ p + f
  le : p ≤ s.size
  mp : m ≤ p
theorem RunRel.next {s : ByteArray} {a p f m : Nat} (h : RunRel s a p f m) (hp : p < s.size) (ht : inNm (rn s p) = true) : ∃ f', RunRel s a (p + wd s p) f' (m + 1) := by
  obtain ⟨h1, h2, h3, h4, h5⟩ := h
  have hd := dec_facts s p hp
  cases f with
  | zero => omega
  | succ f =>
    rw [spE_go hp ht] at h1
    rw [cntE_go hp ht] at h2
    exact ⟨f, h1, by omega, by omega, hd.2.1, by omega⟩
theorem RunRel.done {s : ByteArray} {a p f m : Nat} (h : RunRel s a p f m) (ht : ¬ (p < s.size ∧ inNm (rn s p) = true)) : spE inNm s s.size a = p ∧ cntE inNm s s.size a = m := by
  obtain ⟨h1, h2, h3, h4, h5⟩ := h
  rw [cntE_stop ht] at h2
  refine ⟨?_, by omega⟩
  rw [← h1]
  by_cases hp : p < s.size
  · exact spE_stop (by cases e : inNm (rn s p) with | false => rfl | true => exact absurd ⟨hp, e⟩ ht)
  · exact spE_end hp
theorem inNm_cls (r : Int) : inNm r = true ↔ cls r = 3 ∨ cls r = 4 := by unfold inNm isLet isDig; simp

set_option maxHeartbeats 2000000 in
theorem rrun_any (s : ByteArray) (a : Nat) (w : World) (hs : s.size ≤ 65536) (ha : a ≤ s.size) :
    Calls Tryd.prog 41 #[.string s, .int .i64 a] w fun e w' => e = .returned (.tuple #[.int .i64 (spE inNm s s.size a : Nat), .int .i64 (cntE inNm s s.size a : Nat)]) ∧ w = w' := by
  go_enter Tryd.func41, Tryd.ntmps41
  go_wp2
  go_loop [1, 6] (fun x n => ∃ (p f m : Nat), x = .int .i64 p ∧ n = .int .i64 m ∧ RunRel s a p f m) (fun x _ => s.size - (intOf x).toNat)
  case atStart => exact ⟨a, s.size, 0, rfl, rfl, rfl, by omega, by omega, ha, by omega⟩
  case round =>
    obtain ⟨p, f, m, rfl, rfl, hrel⟩ := hrel
    have hle := hrel.le
    have hmp := hrel.mp
    have HR := Lib.hid hrel; clear hrel
    have hc := fun w => rcls_any s p w hs
    by_cases hp : p < s.size
    · have hd := dec_facts s p hp
      unfold clsAt wdAt at hc
      simp only [hp, if_true] at hc
      have hi := inNm_cls (rn s p)
      obtain ⟨K, hK⟩ : ∃ K, cls (rn s p) = K := ⟨_, rfl⟩
      rw [hK] at hc hi
      clear hK
      have HC := Lib.hid hc; clear hc
      by_cases h3 : K = 3
      · subst h3
        have HX := Lib.hid (HR.out.next hp (hi.2 (.inl rfl))); clear hi
        go_wp2_with (go_at_call 40; refine (HC.out _).mono ?_; rintro e w' ⟨rfl, rfl⟩)
        go_round
        case rel => obtain ⟨f', hf'⟩ := HX.out; exact ⟨p + wd s p, f', m + 1, by go_num, by go_num, hf'⟩
        case measure => simp [intOf]; omega
      · have n3 : (K == 3) = false := by simpa using h3
        by_cases h4 : K = 4
        · subst h4
          have HX := Lib.hid (HR.out.next hp (hi.2 (.inr rfl))); clear hi
          go_wp2_with (go_at_call 40; refine (HC.out _).mono ?_; rintro e w' ⟨rfl, rfl⟩)
          go_round
          case rel => obtain ⟨f', hf'⟩ := HX.out; exact ⟨p + wd s p, f', m + 1, by go_num, by go_num, hf'⟩
          case measure => simp [intOf]; omega
        · have n4 : (K == 4) = false := by simpa using h4
          have b3 : (K != 3) = true := by simpa using h3
          have b4 : (K != 4) = true := by simpa using h4
          have HX := Lib.hid (HR.out.done (fun h => (hi.1 h.2).elim h3 h4)); clear hi
          go_wp2_with (go_at_call 40; refine (HC.out _).mono ?_; rintro e w' ⟨rfl, rfl⟩)
          go_ret2
          rw [HX.out.1, HX.out.2]
          exact ⟨rfl, rfl⟩
    · unfold clsAt wdAt at hc
      simp only [hp, if_false] at hc
      have HC := Lib.hid hc; clear hc
      have HX := Lib.hid (HR.out.done (fun h => hp h.1))
      go_wp2_with (go_at_call 40; refine (HC.out _).mono ?_; rintro e w' ⟨rfl, rfl⟩)
      go_ret2
      rw [HX.out.1, HX.out.2]
      exact ⟨rfl, rfl⟩

structure SkRel (s : ByteArray) (a p f : Nat) : Prop where
  eq : ptE s f p false = ptE s s.size a false
  fuel : s.size ≤ p + f
  le : p ≤ s.size
theorem SkRel.blank {s : ByteArray} {a p f : Nat} (h : SkRel s a p f) (hp : p < s.size) (hc : cls (rn s p) = 1 ∨ cls (rn s p) = 2) : ∃ f', SkRel s a (p + wd s p) f' := by
  obtain ⟨h1, h2, h3⟩ := h
  have hd := dec_facts s p hp
  cases f with
  | zero => omega
  | succ f =>
    refine ⟨f, ?_, by omega, hd.2.1⟩
    rcases hc with hc | hc
    · rw [← h1, ptE_space hp hc]
    · rw [← h1, ptE_line hp hc]
theorem SkRel.hash {s : ByteArray} {a p f : Nat} (h : SkRel s a p f) (hp : p < s.size) (hb : byt s p = 35) : SkRel s a (cmB s s.size p) s.size := by
  obtain ⟨h1, h2, h3⟩ := h
  have := cmB_bounds s s.size p h3
  exact ⟨by rw [← h1, ptE_hash s f s.size s.size p h2 (by omega) (by omega) hp hb], by omega, this.2⟩
theorem SkRel.stop {s : ByteArray} {a p f : Nat} (h : SkRel s a p f) (_hp : p < s.size) (hb : byt s p ≠ 35) (hc : ¬ (cls (rn s p) = 1 ∨ cls (rn s p) = 2)) : ptE s s.size a false = p := by
  obtain ⟨h1, h2, h3⟩ := h
  rw [← h1]
  have hr : ¬ rn s p = 35 := fun e => hb ((rn_ascii s p 35 (by omega)).1 e)
  exact ptE_stop (fun e => hc (.inl e)) (fun e => hc (.inr e)) (fun e => e.elim (fun h => by cases h) (fun h => hr (by omega)))
theorem SkRel.fin {s : ByteArray} {a p f : Nat} (h : SkRel s a p f) (hp : ¬ p < s.size) : ptE s s.size a false = p := by rw [← h.eq, ptE_end hp]

set_option maxHeartbeats 4000000 in
theorem rskip_any (s : ByteArray) (a : Nat) (w : World) (hs : s.size ≤ 65536) (ha : a ≤ s.size) :
    Calls Tryd.prog 24 #[.string s, .int .i64 a] w fun e w' => e = .returned (.int .i64 (ptE s s.size a false : Nat)) ∧ w = w' := by
  go_enter Tryd.func24, Tryd.ntmps24
  go_wp2
  go_loop [1] (fun x => ∃ (p f : Nat), x = .int .i64 p ∧ SkRel s a p f) (fun x => s.size - (intOf x).toNat)
  case atStart => exact ⟨a, s.size, rfl, rfl, by omega, ha⟩
  case round =>
    obtain ⟨p, f, rfl, hrel⟩ := hrel
    have hle := hrel.le
    have HR := Lib.hid hrel; clear hrel
    by_cases hp : p < s.size
    · have hd := dec_facts s p hp
      have hc := fun w => rcls_any s p w hs
      unfold clsAt wdAt at hc
      simp only [hp, if_true] at hc
      obtain ⟨K, hK⟩ : ∃ K, cls (rn s p) = K := ⟨_, rfl⟩
      rw [hK] at hc
      have HK := Lib.hid hK; clear hK
      have HC := Lib.hid hc; clear hc
      have hby := byt_at s p hp
      by_cases hb : s[p].toNat = 35
      · have hb2 : ((s[p].toNat : Nat) : Int) = 35 := by omega
        have HX := Lib.hid (HR.out.hash hp (by omega))
        have hcb := cmB_bounds s s.size p hle
        have hstep : cmB s s.size p = cmB s (s.size - 1) (p + 1) := by
          obtain ⟨g, hg⟩ : ∃ g, s.size = g + 1 := ⟨s.size - 1, by omega⟩
          have := cmB_go (s := s) (f := g) (q := p) hp (by omega)
          rw [← hg] at this
          have e : s.size - 1 = g := by omega
          rw [e]
          exact this
        have hgt := cmB_bounds s (s.size - 1) (p + 1) (by omega)
        rw [← hstep] at hgt
        clear hstep hby
        obtain ⟨R, hR⟩ : ∃ R, cmB s s.size p = R := ⟨_, rfl⟩
        rw [hR] at HX hcb hgt
        have HRR := Lib.hid hR; clear hR
        go_wp2_with (go_at_call 40; refine (HC.out _).mono ?_; rintro e w' ⟨rfl, rfl⟩)
        go_loop [1] (fun x => ∃ (q h : Nat), x = .int .i64 q ∧ cmB s h q = R ∧ s.size ≤ q + h ∧ q ≤ s.size) (fun x => s.size - (intOf x).toNat)
        case atStart => exact ⟨p, s.size, rfl, HRR.out, by omega, hle⟩
        case round =>
          obtain ⟨q, h, rfl, hq1, hq2, hq3⟩ := hrel
          have HQ := Lib.hid hq1; clear hq1
          by_cases hql : q < s.size
          · have hbq := byt_at s q hql
            by_cases h10 : s[q].toNat = 10
            · have h10' : ((s[q].toNat : Nat) : Int) = 10 := by omega
              have hqR : q = R := by rw [← HQ.out, cmB_end (by omega)]
              clear hbq
              have HqR := Lib.hid hqR; clear hqR
              go_wp2
              go_round
              case rel => rw [HqR.out]; exact ⟨R, s.size, rfl, HX.out⟩
              case measure => rw [HqR.out]; simp [intOf]; omega
            · have h10' : ¬ ((s[q].toNat : Nat) : Int) = 10 := by omega
              have HG := Lib.hid (show ∃ h', cmB s h' (q + 1) = R ∧ s.size ≤ q + 1 + h' by
                cases h with
                | zero => omega
                | succ h => exact ⟨h, by rw [← HQ.out, cmB_go hql (by omega)], by omega⟩)
              clear hbq
              go_wp2
              go_round
              case rel => obtain ⟨h', e1, e2⟩ := HG.out; exact ⟨q + 1, h', by go_num, e1, e2, by omega⟩
              case measure => simp [intOf]; omega
          · have HqR := Lib.hid (show q = R by rw [← HQ.out, cmB_end (by omega)])
            go_wp2
            go_round
            case rel => rw [HqR.out]; exact ⟨R, s.size, rfl, HX.out⟩
            case measure => rw [HqR.out]; simp [intOf]; omega
      · have hb2 : ¬ ((s[p].toNat : Nat) : Int) = 35 := by omega
        have HB := Lib.hid (show byt s p ≠ 35 by omega)
        clear hby
        by_cases h1 : K = 1
        · subst h1
          have HX := Lib.hid (HR.out.blank hp (.inl HK.out))
          go_wp2_with (go_at_call 40; refine (HC.out _).mono ?_; rintro e w' ⟨rfl, rfl⟩)
          go_round
          case rel => obtain ⟨f', hf'⟩ := HX.out; exact ⟨p + wd s p, f', by go_num, hf'⟩
          case measure => simp [intOf]; omega
        · have n1 : (K == 1) = false := by simpa using h1
          by_cases h2 : K = 2
          · subst h2
            have HX := Lib.hid (HR.out.blank hp (.inr HK.out))
            go_wp2_with (go_at_call 40; refine (HC.out _).mono ?_; rintro e w' ⟨rfl, rfl⟩)
            go_round
            case rel => obtain ⟨f', hf'⟩ := HX.out; exact ⟨p + wd s p, f', by go_num, hf'⟩
            case measure => simp [intOf]; omega
          · have n2 : (K == 2) = false := by simpa using h2
            have b1 : (K != 1) = true := by simpa using h1
            have b2 : (K != 2) = true := by simpa using h2
            have HX := Lib.hid (HR.out.stop hp HB.out (by rw [HK.out]; exact fun h => h.elim h1 h2))
            go_wp2_with (go_at_call 40; refine (HC.out _).mono ?_; rintro e w' ⟨rfl, rfl⟩)
            go_ret
            rw [HX.out]
            exact ⟨rfl, rfl⟩
    · have HX := Lib.hid (HR.out.fin hp)
      go_wp2
      go_ret
      rw [HX.out]
      exact ⟨rfl, rfl⟩

set_option maxHeartbeats 2000000 in
theorem rmoved_any (s : ByteArray) (P : Int × Int) (a n : Nat) (w : World) (hs : s.size ≤ 65536) (ha : a ≤ n) (hn : n ≤ s.size) (h1 : 1 ≤ P.1) (h2 : 1 ≤ P.2) (h3 : P.1 ≤ a + 1) (h4 : P.2 ≤ a + 1) :
    Calls Tryd.prog 25 #[.string s, .agg #[.int .i64 P.1, .int .i64 P.2], .int .i64 a, .int .i64 n] w fun e w' => e = .returned (.agg #[.int .i64 (mvE s n s.size a P).1, .int .i64 (mvE s n s.size a P).2]) ∧ Below w.heap.size w w' := by
  obtain ⟨P1, P2⟩ := P
  simp only at h1 h2 h3 h4
  obtain ⟨V, hV⟩ : ∃ V, mvE s n s.size a (P1, P2) = V := ⟨_, rfl⟩
  rw [hV]
  have HV := Lib.hid hV; clear hV
  go_enter Tryd.func25, Tryd.ntmps25
  go_wp2
  go_loopw [9] (fun x wr => ∃ (p f : Nat) (l c : Int), x = .int .i64 p ∧ p ≤ s.size ∧ wr = (w.alloc (.cells #[.int .i64 l, .int .i64 c] 25)).alloc (.cells #[.int .i64 0, .int .i64 0] 25) ∧ 1 ≤ l ∧ l ≤ p + 1 ∧ 1 ≤ c ∧ c ≤ p + 1 ∧ s.size ≤ p + f ∧ mvE s n f p (l, c) = V) (fun x _ => s.size - (intOf x).toNat)
  case atStart => exact ⟨a, s.size, P1, P2, rfl, by omega, rfl, h1, h3, h2, h4, by omega, HV.out⟩
  case round =>
    obtain ⟨p, f, l, c, rfl, hpos, rfl, hl1, hl2, hc1, hc2, hf, hrel⟩ := hrel
    by_cases hp : p < n
    · have hps : p < s.size := by omega
      have hd := dec_facts s p hps
      have HR := Lib.hid (show ∃ f', s.size ≤ p + wd s p + f' ∧ mvE s n f' (p + wd s p) (nxt ⟨p, l, c, rn s p⟩) = V by
        cases f with
        | zero => omega
        | succ f => exact ⟨f, by omega, by rw [← hrel, mvE_step hps hp]⟩)
      clear hrel
      cases h10 : ((rn s p : Int) == 10) with
      | true =>
        have HN := Lib.hid (nxt_line p l c _ h10)
        go_wp2_with (go_at_call 29; refine (rune_any s p _ (by omega) hps).mono ?_; rintro e w' ⟨rfl, rfl⟩)
        go_roundw
        case rel => obtain ⟨f', hf', hb'⟩ := HR.out; exact ⟨p + wd s p, f', l + 1, 1, by go_num, by omega, rfl, by omega, by omega, by omega, by omega, hf', by rw [← HN.out]; exact hb'⟩
        case measure => simp [intOf]; omega
      | false =>
        have HN := Lib.hid (nxt_col p l c _ h10)
        go_wp2_with (go_at_call 29; refine (rune_any s p _ (by omega) hps).mono ?_; rintro e w' ⟨rfl, rfl⟩)
        go_roundw
        case rel => obtain ⟨f', hf', hb'⟩ := HR.out; exact ⟨p + wd s p, f', l, c + 1, by go_num, by omega, rfl, by omega, by omega, by omega, by omega, hf', by rw [← HN.out]; exact hb'⟩
        case measure => simp [intOf]; omega
    · have HD := Lib.hid (show V = (l, c) by rw [← hrel, mvE_done (by omega)]); clear hrel
      have hn' : decide ((p : Int) < (n : Int)) = false := by simp; omega
      go_wp2
      rw [HD.out]
      exact bodyPost_ret (v := .agg #[.int .i64 l, .int .i64 c]) (by simp [results, Tryd.results25, go_sem]) rfl ⟨rfl, by first | exact (((Below.refl _ _).alloc (Nat.le_refl _) _).alloc (by simp) _) | exact ((((Below.refl _ _).alloc (Nat.le_refl _) _).alloc (by simp) _).setCell (by simp) _).setCell (by simp) _⟩
end Go.Proofs.YtifgmkenfmmelaaDoor
