/-
  gnomonlaw2.LexAgain: the walk: proved is that it answers true for every text, with comments or without.
  Condition: Go's tables of package unicode/utf8 and the two errors of package strconv hold what their text lays ('Env').
-/
import Derived.Test.YtifgmkenfmmelaaDoorAgB
import Derived.Test.YtifgmkenfmmelaaDoorLexZ
import Derived.Test.YtifgmkenfmmelaaDoorNumC
namespace Go.Proofs.YtifgmkenfmmelaaDoor
open Go Go.RowKit

theorem lexC_small (s : ByteArray) (M : Nat) (hM : s.size ≤ M) : ∀ f b Q (l : List Tk), (∀ k ∈ l, k.text.size ≤ M) → ∀ k ∈ (lexC s f b Q l).2.2, k.text.size ≤ M
  | 0, b, Q, l, hl, k, hk => by cases hk
  | f + 1, b, Q, l, hl, k, hk => by
    by_cases hlt : b < s.size
    · obtain ⟨o, ho⟩ : ∃ o, tokT s b l.length = o := ⟨_, rfl⟩
      by_cases he : o.1 = 0
      · rw [lexC_tok hlt ho he] at hk
        refine lexC_small s M hM f _ _ _ (fun x hx => ?_) k hk
        rcases List.mem_append.1 hx with hx | hx
        · exact hl x hx
        · simp only [List.mem_singleton] at hx
          subst hx
          simp; omega
      · rw [lexC_bad hlt ho he] at hk
        cases hk
    · rw [lexC_end hlt] at hk
      rcases List.mem_append.1 hk with hx | hx
      · exact hl k hx
      · simp only [List.mem_singleton] at hx
        subst hx
        simp
theorem lexV_small (s : ByteArray) (M : Nat) (hM : s.size ≤ M) : ∀ k ∈ (lexV s).2.2, k.text.size ≤ M := by
  unfold lexV
  split
  · exact lexC_small s M hM _ _ _ _ (fun k hk => by cases hk)
  · exact fun k hk => by cases hk
theorem joinL_snoc (c : Bool) (l : List Tk) (k : Tk) : joinL c (l ++ [k]) = joinL c l ++ (k.text.data.toList ++ sepL c) := by
  induction l with
  | nil => simp [joinL]
  | cons x r ih =>
    have : joinL c (x :: r ++ [k]) = x.text.data.toList ++ (sepL c ++ joinL c (r ++ [k])) := rfl
    rw [this, ih]
    simp [joinL]
theorem joinL_take (c : Bool) (L : List Tk) (i : Nat) (h : i < L.length) : joinL c (L.take (i + 1)) = joinL c (L.take i) ++ (L[i].text.data.toList ++ sepL c) := by
  rw [List.take_succ_eq_append_getElem h, joinL_snoc]
theorem joinL_len (c : Bool) (L : List Tk) (h : ∀ k ∈ L, k.text.size ≤ 8000) : (joinL c L).length ≤ L.length * 8007 := by
  induction L with
  | nil => simp [joinL]
  | cons k r ih =>
    have h1 := ih (fun x hx => h x (.tail _ hx))
    have h2 := h k (.head _)
    have h3 : (sepL c).length ≤ 7 := by cases c <;> decide
    have h4 : k.text.data.toList.length = k.text.size := by rw [Array.length_toList]; rfl
    simp only [joinL, List.length_append, List.length_cons]
    omega
theorem cat_text (J : List UInt8) (t : ByteArray) : (⟨⟨J⟩⟩ ++ t : ByteArray) = ⟨⟨J ++ t.data.toList⟩⟩ := cat_list J t.data.toList
theorem grow_f (J : List UInt8) (t : ByteArray) : ((⟨⟨J⟩⟩ ++ t : ByteArray) ++ ⟨#[32]⟩) = ⟨⟨J ++ (t.data.toList ++ sepL false)⟩⟩ := by
  rw [cat_text, ← List.append_assoc]
  exact cat_list _ _
theorem grow_t (J : List UInt8) (t : ByteArray) : (((⟨⟨J⟩⟩ ++ t : ByteArray) ++ ⟨#[32]⟩) ++ ⟨#[35, 32, 61, 32, 10, 9]⟩) = ⟨⟨J ++ (t.data.toList ++ sepL true)⟩⟩ := by
  rw [grow_f]
  refine (cat_list _ _).trans ?_
  simp [sepL]
theorem core_at {L L' : List Tk} (h : L'.map Tk.core = L.map Tk.core) (i : Nat) (hi : i < L.length) : ∃ hi' : i < L'.length, L'[i].kind = L[i].kind ∧ L'[i].text = L[i].text ∧ L'[i].num = L[i].num := by
  have hl := congrArg List.length h
  rw [List.length_map, List.length_map] at hl
  have hi' : i < L'.length := by omega
  have e := congrArg (fun l => l[i]?) h
  simp only [List.getElem?_map, List.getElem?_eq_getElem hi, List.getElem?_eq_getElem hi', Option.map_some] at e
  have e2 := Option.some.inj e
  unfold Tk.core at e2
  exact ⟨hi', (Prod.mk.inj e2).1, (Prod.mk.inj (Prod.mk.inj e2).2).1, (Prod.mk.inj (Prod.mk.inj e2).2).2⟩

set_option maxRecDepth 100000 in
set_option maxHeartbeats 8000000 in
theorem lexagain_walk (s : ByteArray) (c : Bool) (w : World) (hs : s.size ≤ 140737488351232) (hE : Env w) :
    Calls Tryd.prog 5 #[.string s, .bool c] w fun e w' => e = .returned (.bool true) ∧ Below w.heap.size w w' := by
  have HK := Lib.hid (known2_any w hE)
  have hT := fun w hE => tokens_any s w hs hE
  have hln := lexV_len s
  have hsm := fun h => lexV_small s 8000 h
  have hag := fun P L (h : lexV s = (0, P, L)) => lex_again c h
  obtain ⟨V, hV⟩ : ∃ V, lexV s = V := ⟨_, rfl⟩
  rw [hV] at hT hln hsm
  obtain ⟨e, ⟨p1, p2⟩, L⟩ := V
  simp only at hln hsm
  have HT := Lib.hid hT; clear hT
  have HE := Lib.hid hE; clear hE
  by_cases he : e = 0
  · subst he
    obtain ⟨l0, Q, hL, hl0, hag2⟩ := hag _ _ hV
    clear hag hV
    have hpos : 0 < L.length := by rw [hL]; simp
    clear hL hl0 l0
    by_cases h8 : 8000 < s.size
    · clear hag2 hsm
      go_enter Tryd.func5, Tryd.ntmps5
      go_wp2_with (first | (go_at_call 8; refine HK.out.mono ?_; rintro e w1 ⟨rfl, hb1⟩; have HE1 := Lib.hid (HE.out.later hb1)) | fail)
      refine (HT.out _ HE1.out).mono ?_
      rintro _ w2 ⟨v2, rfl, ho2, hb2⟩
      clear ho2
      have hB := hb1.trans (hb2.mono hb1.size)
      go_wp2
      go_ret
      exact ⟨rfl, hB.alloc hB.size _⟩
    · have hsm2 := hsm (by omega)
      clear hsm
      have h8n : ¬ (8000 : Int) < s.size := by omega
      have hJT := joinL_len c L hsm2
      have HS := Lib.hid hsm2; clear hsm2
      have HA := Lib.hid hag2; clear hag2
      have HJ := Lib.hid (fun i h => joinL_take c L i h)
      have HJL := Lib.hid (fun i => joinL_len c (L.take i) (fun k hk => HS.out k (List.mem_of_mem_take hk)))
      go_enter Tryd.func5, Tryd.ntmps5
      go_wp2_with (first | (go_at_call 8; refine HK.out.mono ?_; rintro e w1 ⟨rfl, hb1⟩; have HE1 := Lib.hid (HE.out.later hb1)) | fail)
      refine (HT.out _ HE1.out).mono ?_
      rintro _ w2 ⟨v2, rfl, ho2, hb2⟩
      obtain ⟨g, cap, rfl, hg1, hg2, hcell⟩ := owns_form ho2 hpos
      clear ho2
      simp only at hcell ⊢
      have HC := Lib.hid (fun j u hu => ((((Below.refl _ w2).alloc (Nat.le_refl _) (.cells #[.int .i64 p1, .int .i64 p2] 25)).cell (p := ⟨g, j, none⟩) hg2).trans (hcell j u hu) : _)); clear hcell
      have hB := (hb1.trans (hb2.mono hb1.size)).alloc (by have := hb1.size; have := hb2.size; omega) (.cells #[.int .i64 p1, .int .i64 p2] 25)
      go_wp2
      obtain ⟨W, hW⟩ : ∃ W, w2.alloc (.cells #[.int .i64 p1, .int .i64 p2] 25) = W := ⟨_, rfl⟩
      rw [hW] at HC hB ⊢
      have hgW : g < W.heap.size := by rw [← hW]; simp; omega
      clear hW
      go_loop [8, 9] (fun x y => ∃ i : Nat, i ≤ L.length ∧ y = .int .i64 i ∧ x = .string ⟨⟨joinL c (L.take i)⟩⟩) (fun _ y => L.length - (intOf y).toNat)
      case atStart => exact ⟨0, by omega, rfl, rfl⟩
      case round =>
        obtain ⟨i, hi, rfl, rfl⟩ := hrel
        by_cases hlt : i < L.length
        · have hT1 := TkAt.of HC.out hlt
          have hjl := HJL.out i
          have hks := HS.out _ (List.getElem_mem hlt)
          have hji := HJ.out i hlt
          obtain ⟨T, hTT⟩ : ∃ T, L[i] = T := ⟨_, rfl⟩
          rw [hTT] at hT1 hks hji
          clear hTT
          obtain ⟨J, hJJ⟩ : ∃ J, joinL c (L.take i) = J := ⟨_, rfl⟩
          rw [hJJ] at hjl hji ⊢
          clear hJJ
          have hJ1 : J.length ≤ 300000000 := by rw [List.length_take] at hjl; omega
          clear hjl
          have HJI := Lib.hid hji; clear hji
          have k1 := hT1.c1
          clear hT1
          obtain ⟨tk, tt, tn, tp⟩ := T
          simp only at k1 hks HJI
          cases c
          · go_wp2
            go_round
            case rel => exact ⟨i + 1, by omega, by go_num, by rw [HJI.out]; exact congrArg Value.string (grow_f J tt)⟩
            case measure => simp [intOf]; omega
          · go_wp2
            go_round
            case rel => exact ⟨i + 1, by omega, by go_num, by rw [HJI.out]; exact congrArg Value.string (grow_t J tt)⟩
            case measure => simp [intOf]; omega
        · obtain rfl : i = L.length := by omega
          have htk : L.take L.length = L := by simp
          rw [htk]
          clear htk
          have hlt3 : ¬ L.length < L.length := hlt
          clear hlt
          by_cases h65 : 65536 < (joinL c L).length
          · go_wp2
            go_ret
            exact ⟨rfl, hB⟩
          · obtain ⟨L', hV', hcore⟩ := HA.out ⟨⟨joinL c L⟩⟩ (by rw [size_list]; omega) rfl
            have hT2 := fun w hE => tokens_any ⟨⟨joinL c L⟩⟩ w (by rw [size_list]; omega) hE
            rw [hV'] at hT2
            clear hV'
            have HT2 := Lib.hid hT2; clear hT2
            have HE2 := Lib.hid (HE.out.later hB)
            have hlen : L'.length = L.length := by have := congrArg List.length hcore; simpa using this
            have HCO := Lib.hid hcore; clear hcore
            obtain ⟨J, hJJ⟩ : ∃ J, joinL c L = J := ⟨_, rfl⟩
            rw [hJJ] at h65 HT2 ⊢
            have h65' : J.length ≤ 65536 := by omega
            clear hJJ hJT HA HJ HJL h65
            go_wp2_with fail
            refine (HT2.out _ HE2.out).mono ?_
            rintro _ w3 ⟨v3, rfl, ho3, hb3⟩
            simp only [hlen] at ho3
            obtain ⟨g3, cap3, rfl, hg31, hg32, hcell3⟩ := owns_form ho3 hpos
            have HL := Lib.hid hlen
            clear ho3 hlen
            have HC3 := Lib.hid (fun j u hu => ((((Below.refl _ w3).alloc (Nat.le_refl _) (.cells #[.int .i64 0, .int .i64 0] 25)).cell (p := ⟨g3, j, none⟩) hg32).trans (hcell3 j u hu) : _)); clear hcell3
            have HC1 := Lib.hid (fun j u hu => (((hb3.alloc hb3.size (.cells #[.int .i64 0, .int .i64 0] 25)).cell (p := ⟨g, j, none⟩) hgW).trans (HC.out j u hu) : _)); clear HC
            have hB2 := (hB.trans (hb3.mono hB.size)).alloc (by have := hB.size; have := hb3.size; omega) (.cells #[.int .i64 0, .int .i64 0] 25)
            have hz3 := hb3.size
            go_wp2
            obtain ⟨W3, hW3⟩ : ∃ W3, w3.alloc (.cells #[.int .i64 0, .int .i64 0] 25) = W3 := ⟨_, rfl⟩
            rw [hW3] at HC3 HC1 hB2 ⊢
            have hs3 : w3.heap.size < W3.heap.size := by rw [← hW3]; simp
            clear hW3
            go_loopw [13] (fun x wr => ∃ j : Nat, x = .int .i64 j ∧ j ≤ L.length ∧ Below W3.heap.size W3 wr) (fun x _ => L.length - (intOf x).toNat)
            case atStart => exact ⟨0, rfl, by omega, Below.refl _ _⟩
            case round =>
              obtain ⟨j, rfl, hj, hbw⟩ := hrel
              by_cases hlt2 : j < L.length
              · obtain ⟨hj', e1, e2, e3⟩ := core_at HCO.out j hlt2
                have t1 := (TkAt.of HC1.out hlt2).mono (w' := wr) (fun q => hbw.cell (p := ⟨g, q, none⟩) (by simp only; omega))
                have t2 := (TkAt.of HC3.out hj').mono (w' := wr) (fun q => hbw.cell (p := ⟨g3, q, none⟩) (by simp only; omega))
                obtain ⟨T1, hT1⟩ : ∃ T, L[j] = T := ⟨_, rfl⟩
                obtain ⟨T2, hT2⟩ : ∃ T, L'[j] = T := ⟨_, rfl⟩
                rw [hT1] at t1 e1 e2 e3
                rw [hT2] at t2 e1 e2 e3
                clear hT1 hT2 hj'
                obtain ⟨p0, q1, q2, _, _⟩ := t1
                obtain ⟨r0, r1, r2, _, _⟩ := t2
                rw [e1] at r0
                rw [e2] at r1
                rw [e3] at r2
                clear e1 e2 e3
                obtain ⟨tk, tt, tn, tp⟩ := T1
                simp only at p0 q1 q2 r0 r1 r2
                go_wp2_with fail
                go_quiet (fail)
                go_wp2
                go_roundw
                case rel => exact ⟨j + 1, by go_num, by omega, below_drewN hbw _⟩
                case measure => simp [intOf]; omega
              · go_wp2
                go_ret
                exact ⟨rfl, hB2.trans (hbw.mono hB2.size)⟩
  · clear hag hV hsm
    have hne : (e != 0) = true := by simpa using he
    clear he
    go_enter Tryd.func5, Tryd.ntmps5
    go_wp2_with (first | (go_at_call 8; refine HK.out.mono ?_; rintro e w1 ⟨rfl, hb1⟩; have HE1 := Lib.hid (HE.out.later hb1)) | fail)
    refine (HT.out _ HE1.out).mono ?_
    rintro _ w2 ⟨v2, rfl, ho2, hb2⟩
    clear ho2
    have hB := hb1.trans (hb2.mono hb1.size)
    go_wp2
    go_ret
    exact ⟨rfl, hB.alloc hB.size _⟩
end Go.Proofs.YtifgmkenfmmelaaDoor
