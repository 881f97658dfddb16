/-
  The document's number (gnomonref2.number): proved is what it answers, for every text of at most 65536 bytes.
-/
import Derived.Test.YtifgmkenfmmelaaDoorLexI
namespace Go.Proofs.YtifgmkenfmmelaaDoor
open Go Go.RowKit

theorem digT_eq (s : ByteArray) (a : Nat) (ha : a < s.size) (hd : isDig (rn s a) = true) :
    digT s a = if (zeroB s a (spE isDig s s.size a) || isLet (frs s (spE isDig s s.size a))) = true then (21, 0, 0, 0) else if numP s a (spE isDig s s.size a - a) ≤ 9223372036854775807 then (0, spE isDig s s.size a, 2, (numP s a (spE isDig s s.size a - a) : Int)) else (21, 0, 0, 0) := by
  unfold digT
  rw [parse_digits s a ha hd]
  by_cases h : numP s a (spE isDig s s.size a - a) ≤ 9223372036854775807
  · rw [if_pos h, if_pos h, if_pos rfl]
  · rw [if_neg h, if_neg h]; rfl

theorem num_over {s : ByteArray} {a k n : Nat} {o : Int × Nat × Int × Int} {b : Bool} (hL : o = if b = true then (21, 0, 0, 0) else if numP s a (n - a) ≤ 9223372036854775807 then (0, n, 2, (numP s a (n - a) : Int)) else (21, 0, 0, 0))
    (hk : a + k ≤ n) (hbig : 9223372036854775807 < numP s a k) : o = (21, 0, 0, 0) := by
  have := numP_mono s a k (n - a) (by omega)
  rw [hL]
  split
  · rfl
  · rw [if_neg (by omega)]

/-- What is left to ask behind the digits: z the first byte, K the class of what stands behind. -/
def numO (z a p V : Nat) (K : Int) : Int × Nat × Int × Int := if (decide (1 < p - a) && decide (z = 48) || decide (K = 3)) = true then (21, 0, 0, 0) else (0, p, 2, (V : Int))
theorem num_tail {s : ByteArray} {a k n p z V : Nat} {o : Int × Nat × Int × Int} (hL : o = if (decide (1 < n - a) && decide (z = 48) || decide (clsAt s n = 3)) = true then (21, 0, 0, 0) else if numP s a (n - a) ≤ 9223372036854775807 then (0, n, 2, (numP s a (n - a) : Int)) else (21, 0, 0, 0))
    (hn : n = p) (hp : p = a + k) (hV : numP s a k = V) (hbig : V ≤ 9223372036854775807) : o = numO z a p V (clsAt s p) := by
  subst hn
  have e : n - a = k := by omega
  rw [hL, e, hV, if_pos hbig]
  unfold numO
  rw [e]
theorem num_ways {z a p V : Nat} {K : Int} {o : Int × Nat × Int × Int} (h : o = numO z a p V K) :
    ((((z : Nat) : Int) == 48) = false ∧ ((K : Int) == 3) = false ∧ (0 : Int) ≤ 0 ∧ o = (0, p, 2, (V : Int))) ∨
    ((((z : Nat) : Int) == 48) = false ∧ K = 3 ∧ o = (21, 0, 0, 0)) ∨
    (((z : Nat) : Int) = 48 ∧ (1 : Int) < (p : Int) - a ∧ o = (21, 0, 0, 0)) ∨
    (((z : Nat) : Int) = 48 ∧ ¬ (1 : Int) < (p : Int) - a ∧ K = 3 ∧ o = (21, 0, 0, 0)) ∨
    (((z : Nat) : Int) = 48 ∧ ¬ (1 : Int) < (p : Int) - a ∧ ((K : Int) == 3) = false ∧ o = (0, p, 2, (V : Int))) := by
  unfold numO at h
  by_cases h1 : z = 48
  · have h1' : ((z : Nat) : Int) = 48 := by omega
    by_cases h2 : 1 < p - a
    · exact .inr (.inr (.inl ⟨h1', by omega, by rw [h, if_pos (by simp [h1, h2])]⟩))
    · by_cases h3 : K = 3
      · exact .inr (.inr (.inr (.inl ⟨h1', by omega, h3, by rw [h, if_pos (by simp [h3])]⟩)))
      · exact .inr (.inr (.inr (.inr ⟨h1', by omega, by simpa using h3, by rw [h, if_neg (by simp [h2, h3])]⟩)))
  · have h1' : (((z : Nat) : Int) == 48) = false := by rw [beq_eq_false_iff_ne]; omega
    by_cases h3 : K = 3
    · exact .inr (.inl ⟨h1', h3, by rw [h, if_pos (by simp [h3])]⟩)
    · exact .inl ⟨h1', by simpa using h3, Int.le_refl _, by rw [h, if_neg (by simp [h1, h3])]⟩

set_option maxRecDepth 100000 in
set_option maxHeartbeats 4000000 in
theorem rnumber_any (s : ByteArray) (a : Nat) (w : World) (hs : s.size ≤ 65536) (ha : a < s.size) (hd : isDig (rn s a) = true) :
    Calls Tryd.prog 42 #[.string s, .int .i64 a] w fun e w' => e = .returned (oneV s a (digT s a)) ∧ Below w.heap.size w w' := by
  have hL := digT_eq s a ha hd
  have hbn := spE_first isDig s a ha hd
  have hh := head_byt s a ha
  have hz : ∀ n, zeroB s a n = (decide (1 < n - a) && decide (s[a].toNat = 48)) := fun n => by unfold zeroB; rw [hh]
  rw [hz, letter_at s _ hbn.2] at hL
  clear hz hh
  obtain ⟨o, ho⟩ : ∃ o, digT s a = o := ⟨_, rfl⟩
  rw [ho] at hL ⊢
  clear ho
  obtain ⟨n, hn⟩ : ∃ n, spE isDig s s.size a = n := ⟨_, rfl⟩
  have HN := Lib.hid hn
  rw [hn] at hL hbn
  clear hn
  have HL := Lib.hid hL; clear hL
  have HD := Lib.hid hd; clear hd
  go_enter Tryd.func42, Tryd.ntmps42
  go_wp2
  go_loop [7, 8] (fun x y => ∃ p k f : Nat, x = .int .i64 p ∧ y = .int .u64 (numP s a k : Nat) ∧ p = a + k ∧ NumRel s a k f) (fun x _ => s.size - (intOf x).toNat)
  case atStart => exact ⟨a, 0, s.size, rfl, rfl, rfl, by rw [Nat.add_zero], by omega, by omega, by unfold numP; omega⟩
  case round =>
    obtain ⟨p, k, f, rfl, rfl, hpk, hrel⟩ := hrel
    have hle := hrel.le
    have hbig := hrel.big
    rw [← hpk] at hle
    obtain ⟨V, hV⟩ : ∃ V, numP s a k = V := ⟨_, rfl⟩
    rw [hV] at hbig ⊢
    have HV := Lib.hid hV; clear hV
    have HR := Lib.hid hrel; clear hrel
    have HP := Lib.hid hpk
    have hap : a ≤ p := by omega
    clear hpk
    by_cases hp : p < s.size
    · have hby := byt_at s p hp
      by_cases hdg : 48 ≤ s[p].toNat ∧ s[p].toNat ≤ 57
      · have b1 : (48 : Int) ≤ ((s[p].toNat : Nat) : Int) := by omega
        have b2 : ((s[p].toNat : Nat) : Int) ≤ 57 := by omega
        have HX := Lib.hid (HR.out.next (by rw [← HP.out]; exact hp) (by rw [← HP.out, ← hby]; exact hdg))
        clear hdg hby
        have hsz : p + 1 ≤ s.size := by omega
        go_wp2
        · have hv := HX.out.2
          rw [HV.out, ← HP.out, ← byt_at s p hp] at hv
          obtain ⟨f', h1, h2⟩ := HX.out.1
          have hq := HP.out
          have hbd := (spE_bounds isDig s f' (a + (k + 1)) (by omega)).1
          rw [h1, HN.out] at hbd
          rw [num_over HL.out hbd (by omega), oneV_bad _ _ _ (by decide)]
          exact bodyPost_ret (v := badV 21) (by simp [results, Tryd.results42, go_sem, badV]) rfl ⟨rfl, (Below.refl _ _).alloc (Nat.le_refl _) _⟩
        · go_round
          case rel =>
            have hv := HX.out.2
            rw [HV.out, ← HP.out, ← byt_at s p hp] at hv
            obtain ⟨f', h1, h2⟩ := HX.out.1
            have hq := HP.out
            exact ⟨p + 1, k + 1, f', by go_num, by rw [hv]; go_num, by omega, h1, h2, by omega, by omega⟩
          case measure => simp [intOf]; omega
      · have HE := Lib.hid (HR.out.done (by rw [← HP.out, ← hby]; exact fun h => hdg h.2))
        have h3 : ¬ (48 : Int) ≤ ((s[p].toNat : Nat) : Int) ∨ ((48 : Int) ≤ ((s[p].toNat : Nat) : Int) ∧ ¬ ((s[p].toNat : Nat) : Int) ≤ 57) := by omega
        clear hdg hby
        have HT := Lib.hid (num_tail HL.out (by rw [← HN.out, HE.out]; exact HP.out.symm) HP.out HV.out hbig)
        have hc := fun w => rcls_any s p w hs
        obtain ⟨K, hK⟩ : ∃ K, clsAt s p = K := ⟨_, rfl⟩
        rw [hK] at hc HT
        clear hK
        have HC := Lib.hid hc; clear hc
        rcases h3 with hx | ⟨hx, hy⟩
        all_goals
          rcases num_ways HT.out with ⟨z1, z2, z3, ho⟩ | ⟨z1, z2, ho⟩ | ⟨z1, z2, ho⟩ | ⟨z1, z2, z3, ho⟩ | ⟨z1, z2, z3, ho⟩
          all_goals
            have HO := Lib.hid ho; clear ho
            go_wp2_with (go_at_call 40; refine (HC.out _).mono ?_; rintro e w' ⟨rfl, rfl⟩)
            rw [HO.out]
            first
              | (rw [oneV_bad _ _ _ (by decide)]; exact bodyPost_ret (v := badV 21) (by simp [results, Tryd.results42, go_sem, badV]) rfl ⟨rfl, (Below.refl _ _).alloc (Nat.le_refl _) _⟩)
              | (rw [oneV_ok]; exact bodyPost_ret (v := okV 2 (s.extract a p) V p) (by simp [results, Tryd.results42, go_sem, okV]) rfl ⟨rfl, (Below.refl _ _).alloc (Nat.le_refl _) _⟩)
    · have HE := Lib.hid (HR.out.done (by rw [← HP.out]; exact fun h => hp h.1))
      have HT := Lib.hid (num_tail HL.out (by rw [← HN.out, HE.out]; exact HP.out.symm) HP.out HV.out hbig)
      have hc := fun w => rcls_any s p w hs
      obtain ⟨K, hK⟩ : ∃ K, clsAt s p = K := ⟨_, rfl⟩
      rw [hK] at hc HT
      clear hK
      have HC := Lib.hid hc; clear hc
      rcases num_ways HT.out with ⟨z1, z2, z3, ho⟩ | ⟨z1, z2, ho⟩ | ⟨z1, z2, ho⟩ | ⟨z1, z2, z3, ho⟩ | ⟨z1, z2, z3, ho⟩
      all_goals
        have HO := Lib.hid ho; clear ho
        go_wp2_with (go_at_call 40; refine (HC.out _).mono ?_; rintro e w' ⟨rfl, rfl⟩)
        rw [HO.out]
        first
          | (rw [oneV_bad _ _ _ (by decide)]; exact bodyPost_ret (v := badV 21) (by simp [results, Tryd.results42, go_sem, badV]) rfl ⟨rfl, (Below.refl _ _).alloc (Nat.le_refl _) _⟩)
          | (rw [oneV_ok]; exact bodyPost_ret (v := okV 2 (s.extract a p) V p) (by simp [results, Tryd.results42, go_sem, okV]) rfl ⟨rfl, (Below.refl _ _).alloc (Nat.le_refl _) _⟩)
end Go.Proofs.YtifgmkenfmmelaaDoor
