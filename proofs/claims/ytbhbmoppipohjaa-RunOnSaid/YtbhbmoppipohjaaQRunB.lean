/-
  The machine's item, note and input: proved is what each comes to.
-/
import Derived.Test.YtbhbmoppipohjaaQRunA

namespace Go.Proofs.Ytbhbmoppipohjaa
open Go Go.RowKit Go.Maps

theorem step_go {E : Rv} {s s1 : Rn} {u : Unit} (h : stepR E s = .go u s1) : s1 = { s with steps := s.steps + 1 } ∧ s.steps ≠ E.most := by
  unfold stepR at h
  split at h
  · cases h
  · rename_i hne
    cases h
    exact ⟨rfl, hne⟩
theorem Kr.grown {K : Me} {r r' : Option Nat} {a w w' : World} (h : Kr K r r a w) (hg : w.grownBy w' r) (hr : r' = r ∨ ∀ g, r' = some g → w.heap.size ≤ g) : Kr K r r' a w' :=
  h.trans ⟨hg.os, hg.tape, hg.output, hg.size, fun k hk _ _ _ hne => hg.block k hk (fun e => hne e.symm), hr⟩
def arrB (K : Me) (nm : ByteArray) : Nat × Nat := K.ab.getD (K.E.pl nm) (0, 0)
abbrev itemV (K : Me) (nm : ByteArray) : Nat → Value := fun j => .pointer (some ⟨(arrB K nm).1, j, none⟩)

set_option maxRecDepth 100000 in
theorem item_any (K : Me) (hk : K.ok) (s : Rn) (r : Option Nat) (nm : ByteArray) (hn : nm.size ≤ maxLen) (hp : K.E.pl nm < K.ab.length) (i : Int) (w : World) (h : At K w s r) :
    Calls Try.prog 42 #[.pointer (some ⟨K.M, 0, none⟩), .string nm, .int .i64 i] w (Ran K (itemV K nm) (fun j => j < (arrB K nm).2) r w (itemR K.E nm i s)) := by
  have HS := Lib.hid (step_any K hk s r w h)
  obtain ⟨R, hR⟩ : ∃ R, itemR K.E nm i s = R := ⟨_, rfl⟩
  rw [hR]
  unfold itemR at hR
  have hmem := List.getElem_mem hp
  have hab : arrB K nm = K.ab[K.E.pl nm] := by unfold arrB; rw [List.getD_eq_getElem?_getD, List.getElem?_eq_getElem hp]; rfl
  unfold itemV
  obtain ⟨⟨A, Z⟩, hAZ⟩ : ∃ x, arrB K nm = x := ⟨_, rfl⟩
  rw [hAZ] at hab ⊢
  have hZ := hk.az _ hmem
  rw [← hab] at hZ hmem
  simp only at hZ ⊢
  have HH := Lib.hid (And.intro hk (And.intro hR (And.intro hmem h)))
  have HP := Lib.hid (And.intro hp (And.intro hn hab))
  clear h hR hn hab hAZ hmem
  go_enter Try.func42, Try.ntmps42
  go_wp2_with fail
  refine HS.out.mono ?_
  rintro e w1 ⟨r1, hkr, ⟨u, s1, hr1, rfl, -, h1⟩ | ⟨st, wr, s1, hr1, rfl, h1⟩⟩
  · have hR := HH.out.2.1
    rw [hr1] at hR
    change (if _ then _ else _) = R at hR
    have ha := h1
    obtain ⟨sv, ve, hm, he⟩ := h1
    obtain ⟨sv', ve', hm', -⟩ := ha.drew hk
    have c0 : w1.cell? ⟨K.M, 0, none⟩ = some (.map (some K.G)) := hm.mach.cell 0
    have c8 : w1.cell? ⟨K.M, 8, none⟩ = some K.va := hm.mach.cell 8
    obtain ⟨a, c, hva, hlc, hcm, hcase⟩ := hk.rows
    obtain ⟨-, hn, hab⟩ := HP.out
    obtain rfl := hcase.resolve_left (by omega)
    rw [hva] at c8
    have hl := hm'.look hk nm hn
    have hrow := hm.rows _ hp
    have hsz := hm.sz _ hp
    rw [← hab] at hrow hsz
    obtain ⟨I, hI⟩ : ∃ I : Nat, K.E.pl nm = I := ⟨_, rfl⟩
    rw [hI] at hrow hl hsz hp hR
    rw [hsz] at hR
    unfold rowV at hrow
    simp only at hrow hsz hR
    have hp1 : (I : Int) < K.ab.length := by omega
    have HH2 := Lib.hid (And.intro ha (And.intro hkr hR))
    clear hm hm' he hab hR ha hkr hsz hva hlc hcm hcase HS hn hr1 hI
    by_cases hi0 : i < 0
    · have hb0 : decide (i < 0) = true := by simpa using hi0
      go_upto_region 2 with fail
      go_region
      all_goals
        go_wp2_with fail
        refine (fail_any _ _ _).mono ?_
        rintro e w2 ⟨rfl, rfl⟩
        obtain ⟨ha, hkr, hR⟩ := HH2.out
        rw [if_pos (.inl hi0)] at hR
        exact ⟨rfl, Ran.stop hR.symm hkr.drew (ha.drew HH.out.1)⟩
    · by_cases hi1 : (Z : Int) ≤ i
      · go_upto_region 2 with fail
        go_region
        all_goals
          go_wp2_with fail
          refine (fail_any _ _ _).mono ?_
          rintro e w2 ⟨rfl, rfl⟩
          obtain ⟨ha, hkr, hR⟩ := HH2.out
          rw [if_pos (.inr hi1)] at hR
          exact ⟨rfl, Ran.stop hR.symm hkr.drew (ha.drew HH.out.1)⟩
      · obtain ⟨j, rfl⟩ : ∃ j : Nat, i = j := ⟨i.toNat, by omega⟩
        have hj : j < Z := by omega
        go_upto_region 2 with fail
        go_region
        all_goals
          go_wp2_with fail
          go_ret
          obtain ⟨ha, hkr, hR⟩ := HH2.out
          rw [if_neg (by omega)] at hR
          exact Ran.go (val := fun j => .pointer (some ⟨A, j, none⟩)) hR.symm hkr.drew (by simpa using hj) (ha.drew HH.out.1)
  · exact ⟨rfl, Ran.stop (by rw [← HH.out.2.1, hr1]; rfl) hkr h1⟩

theorem info_event : (Try.prog.info? 38).map (fun i => (i.zero, i.size, i.bytes)) = some (some (.agg #[.bool false, .int .i64 0, .bool false]), 3, 24) := by kernel_rfl
theorem event_one (b : Bool) (n : Int) (c : Bool) : ∀ u ∈ evV (b, n, c), u.oneCell' = true := by
  intro u hu
  simp only [evV, List.mem_cons, List.not_mem_nil, or_false] at hu
  rcases hu with rfl | rfl | rfl <;> rfl
set_option maxRecDepth 100000 in
theorem note_any (K : Me) (hk : K.ok) (s : Rn) (r : Option Nat) (b : Bool) (n : Int) (c : Bool) (hs : s.evs.length < s.steps) (w : World) (h : At K w s r) :
    Calls Try.prog 62 #[.pointer (some ⟨K.M, 0, none⟩), .agg #[.bool b, .int .i64 n, .bool c]] w (fun e w' => e = .returned (.tuple #[]) ∧ ∃ r', Kr K r r' w w' ∧ At K w' (noteR b n c s) r') := by
  obtain ⟨W1, hW1⟩ : ∃ W1, w.alloc (.cells #[.bool b, .int .i64 n, .bool c] 38) = W1 := ⟨_, rfl⟩
  have ht := Tm.new h #[.bool b, .int .i64 n, .bool c] 38
  have h1 := h.alloc hk (.cells #[.bool b, .int .i64 n, .bool c] 38)
  have hkr : Kr K r r w W1 := by rw [← hW1]; exact (Kr.refl K r w).alloc _
  rw [hW1] at ht h1
  obtain ⟨X, hX⟩ : ∃ X, w.heap.size = X := ⟨_, rfl⟩
  rw [hX] at ht
  have hB1 := h1.size
  obtain ⟨sv, ve, hm, he⟩ := h1
  have hst := hm.steps
  have hmo := hk.most
  have c6 : W1.cell? ⟨K.M, 6, none⟩ = some ve := hm.mach.cell 6
  have z6 : W1.frozen? ⟨K.M, 6, none⟩ = false := hm.mach.free 6
  have y6 : (W1.alloc (.cells #[.bool b, .int .i64 n, .bool c] 38)).cell? ⟨K.M, 6, none⟩ = some ve := (hm.mach.alloc _).cell 6
  have x0 : W1.cell? ⟨X, 0, none⟩ = some (.bool b) := ht.blk.cell 0
  have x1 : W1.cell? ⟨X, 1, none⟩ = some (.int .i64 n) := ht.blk.cell 1
  have x2 : W1.cell? ⟨X, 2, none⟩ = some (.bool c) := ht.blk.cell 2
  obtain ⟨i0, hi0, hz0, hz1, hz2⟩ := info_parts info_event
  have hl1 : s.evs.length + 1 ≤ 65536 := by omega
  obtain ⟨N, hN⟩ : ∃ N, s.evs.length = N := ⟨_, rfl⟩
  have hev := hm.evs
  rw [hN] at hev hl1
  obtain ⟨CS, hCS⟩ : ∃ C, cellsV s.evs = C := ⟨_, rfl⟩
  rw [hCS] at hev
  have HI0 := Lib.hid hi0; clear hi0
  have HZ0 := Lib.hid hz0; clear hz0
  have HZ1 := Lib.hid hz1; clear hz1
  have HZ2 := Lib.hid hz2; clear hz2
  have HEV := Lib.hid hev; clear hev
  have HM := Lib.hid (And.intro hk (And.intro hm (And.intro he (And.intro hkr (And.intro hs (And.intro hN hCS))))))
  clear hm he hkr ht hs h hst hmo hN hCS
  have HW1 := Lib.hid hW1; clear hW1
  have HX := Lib.hid hX; clear hX
  go_enter Try.func62, Try.ntmps62
  go_upto_region 1 with fail
  rw [HW1.out, HX.out]
  go_region_law
    (refine step_append_lies _ (by rfl) _ _ _ (by rfl) K.B1 38 i0 _ 3 24 Try.underlying28 HI0.out HZ0.out HZ1.out HZ2.out rfl (by omega) ve N CS (by rfl) (HEV.out.drew.alloc _) ⟨W1.heap.size, 0, none⟩ 1 1 [.bool b, .int .i64 n, .bool c] (by rfl) (by rfl) (World.news_of_block (cs := #[.bool b, .int .i64 n, .bool c]) (t := 38) (fr := (0, 0)) (heap_alloc_new W1.drew _)) (event_one b n c) (by omega) (by unfold maxLen; omega) (by omega) (by simp; omega) (W1.heap.size + 1) (by simp) ?_
     intro gg cap w2 hown2 hgrow hat hlt2
     have q6 : w2.cell? ⟨K.M, 6, none⟩ = some ve := (blk_grown ((show Blk W1.drew K.M _ _ from HM.out.2.1.mach).alloc _) hgrow (fun e => by have := HEV.out.lt _ e; have := HM.out.1.m1; omega)).cell 6
     have z7 : w2.frozen? ⟨K.M, 6, none⟩ = false := (blk_grown ((show Blk W1.drew K.M _ _ from HM.out.2.1.mach).alloc _) hgrow (fun e => by have := HEV.out.lt _ e; have := HM.out.1.m1; omega)).free 6)
  all_goals
    go_wp2_with fail
    go_end0
    obtain ⟨hk, hm, he, hkr, hs, hN, hCS⟩ := HM.out
    have hgW := (World.size_alloc W1.drew (.cells #[.bool b, .int .i64 n, .bool c] 38))
    have hb2 : Below K.B1 W1 w2 := below_grown ((Below.refl K.B1 W1).drew.alloc hB1 _) (by rw [hgW]; exact Nat.le_succ_of_le hB1) hgrow (fun g hg => (HEV.out.lt g hg).1)
    have hkr2 := (hkr.drew.alloc (.cells #[.bool b, .int .i64 n, .bool c] 38)).grown (r' := some gg) (by rw [← he]; exact hgrow) (by
      rcases hat with h | h
      · exact .inl (by rw [← he, h])
      · refine .inr fun g hg => ?_
        rw [hgW]
        have := Option.some.inj hg
        have hd : W1.drew.heap.size = W1.heap.size := rfl
        omega)
    refine ⟨rfl, some gg, hkr2.trans (Kr.onlyM ((Only.refl K.M w2).setCell (p := ⟨K.M, 6, none⟩) rfl _)), sv, _, hm.turn hk hb2 (s' := noteR b n c s) ?_ rfl rfl rfl rfl ?_, rfl⟩
    · have e1 : (noteR b n c s).evs = s.evs ++ [(b, n, c)] := rfl
      rw [e1, cellsV_snoc, hCS, List.length_append, hN]
      exact hown2
    · have e1 : (noteR b n c s).evs = s.evs ++ [(b, n, c)] := rfl
      rw [e1, List.length_append]
      exact hs

theorem Mc.take {K : Me} {w : World} {s : Rn} {sv ve : Value} (hk : K.ok) (hm : Mc K w s sv ve) {x : Int} {l : List Int} (hL : s.left = x :: l) (v' : Value) (hv : IntsAt w K.H0 l v') : Mc K (w.setCell ⟨K.M, 1, none⟩ v') { s with left := l } v' ve := by
  have ho : Only K.M w (w.setCell ⟨K.M, 1, none⟩ v') := (Only.refl K.M w).setCell (p := ⟨K.M, 1, none⟩) rfl _
  have hX := hm.mach.set 1 v'
  have e2 : (machV K 0 0 s sv ve).setIfInBounds 1 v' = machV K 0 0 { s with left := l } v' ve := rfl
  rw [e2] at hX
  exact hm.setM hk ho hX rfl rfl hm.evs hv hm.steps hm.few (fun y hy => hm.fl y (by rw [hL]; exact List.mem_cons_of_mem _ hy))
set_option maxRecDepth 100000 in
theorem input_any (K : Me) (hk : K.ok) (s : Rn) (r : Option Nat) (w : World) (h : At K w s r) :
    Calls Try.prog 58 #[.pointer (some ⟨K.M, 0, none⟩)] w (Ran K intV fitsI r w (inputR K.E s)) := by
  have HS := Lib.hid (step_any K hk s r w h)
  obtain ⟨R, hR⟩ : ∃ R, inputR K.E s = R := ⟨_, rfl⟩
  rw [hR]
  unfold inputR at hR
  have ha := h
  obtain ⟨sv, ve, hm, he⟩ := h
  have c1 : w.cell? ⟨K.M, 1, none⟩ = some sv := hm.mach.cell 1
  obtain ⟨a, c, rfl, hlc, hcm, hcase⟩ := hm.left
  cases hL : s.left with
  | nil =>
    rw [hL] at hR c1
    simp only [List.length_nil] at hR c1
    have HH := Lib.hid (And.intro hk (And.intro hR ha))
    clear hm hL hcase hlc hcm ha hR he HS
    go_enter Try.func58, Try.ntmps58
    go_wp2_with fail
    refine (halt_any _ _).mono ?_
    rintro e w2 ⟨rfl, rfl⟩
    exact ⟨rfl, Ran.stop HH.out.2.1.symm (Kr.refl K r _) HH.out.2.2⟩
  | cons x l =>
    rw [hL] at hR c1 hlc
    have hfx := hm.fl
    rw [hL] at hfx
    simp only [List.length_cons] at hR c1 hlc
    have hne : (((l.length + 1 : Nat) : Int) == 0) = false := by simp; omega
    have HH := Lib.hid (And.intro hk (And.intro hR (And.intro ha hL)))
    have HFX := Lib.hid hfx
    clear hm hL hcase hlc hcm ha hR he hfx
    go_enter Try.func58, Try.ntmps58
    go_wp2_with fail
    refine HS.out.mono ?_
    rintro e w1 ⟨r1, hkr, ⟨u, s1, hr1, rfl, -, h1⟩ | ⟨st, wr, s1, hr1, rfl, h1⟩⟩
    · obtain ⟨hk, hR, ha, hL⟩ := HH.out
      rw [hr1] at hR
      obtain ⟨hs1, hne1⟩ := step_go hr1
      have ha1 := h1
      obtain ⟨sv, ve, hm, he⟩ := h1
      have hL1 : s1.left = x :: l := by rw [hs1]; exact hL
      have c1 : w1.cell? ⟨K.M, 1, none⟩ = some sv := hm.mach.cell 1
      have z1 : w1.frozen? ⟨K.M, 1, none⟩ = false := hm.mach.free 1
      have hlf := hm.left
      rw [hL1] at hlf
      obtain ⟨a, c, rfl, hlc, hcm, hcase⟩ := hlf
      obtain ⟨b, o, rfl, hbH, hcells⟩ := hcase.resolve_left (by simp)
      have g0 : w1.cell? ⟨b, o, none⟩ = some (.int .i64 x) := hcells 0 (by simp)
      simp only [List.length_cons] at c1 hlc
      have hb1 : (1 : Int) ≤ (c : Int) := by omega
      have hb2 : (0 : Int) < ((l.length + 1 : Nat) : Int) := by omega
      have HH2 := Lib.hid (And.intro ha1 (And.intro hkr (And.intro hs1 (And.intro hR (And.intro hm (And.intro hL1 (And.intro he hcells)))))))
      clear hm he hL1 hcase hcells ha1 hR ha hL HS hkr hs1 hr1 hne1
      by_cases hc : c = 1
      · subst hc
        obtain rfl : l = [] := List.eq_nil_of_length_eq_zero (by omega)
        have HC := Lib.hid (note_any K HH.out.1 { s1 with left := [] } r1 true x false (by
          obtain ⟨hk, hR, ⟨sv0, ve0, hm0, -⟩, hL⟩ := HH.out
          have := hm0.few
          obtain ⟨-, -, hs1, -⟩ := HH2.out
          rw [hs1]
          show s.evs.length < s.steps + 1
          omega) (w1.setCell ⟨K.M, 1, none⟩ (.slice (some ⟨b, o, none⟩) 0 0)) ⟨_, ve, HH2.out.2.2.2.2.1.take HH.out.1 HH2.out.2.2.2.2.2.1 _ ⟨_, 0, rfl, Nat.le_refl _, Nat.zero_le _, .inl rfl⟩, HH2.out.2.2.2.2.2.2.1⟩)
        go_wp2_with fail
        refine HC.out.mono ?_
        rintro e w2 ⟨rfl, r2, hk2, ha2⟩
        have HA2 := Lib.hid (And.intro hk2 ha2)
        clear hk2 ha2
        go_wp2_with fail
        go_ret
        obtain ⟨hk2, ha2⟩ := HA2.out
        obtain ⟨ha1, hkr, hs1, hR, hm, hL1, he, hcells⟩ := HH2.out
        exact Ran.go (val := intV) (by rw [← hR]; rfl) (hkr.trans ((Kr.onlyM ((Only.refl K.M w1).setCell (p := ⟨K.M, 1, none⟩) rfl _)).trans hk2)) (HFX.out x (List.mem_cons_self ..)) ha2
      · have HCC := Lib.hid (show l.length ≤ c - 1 ∧ c - 1 ≤ maxLen by omega)
        have HC := Lib.hid (note_any K HH.out.1 { s1 with left := l } r1 true x false (by
          obtain ⟨hk, hR, ⟨sv0, ve0, hm0, -⟩, hL⟩ := HH.out
          have := hm0.few
          obtain ⟨-, -, hs1, -⟩ := HH2.out
          rw [hs1]
          show s.evs.length < s.steps + 1
          omega) (w1.setCell ⟨K.M, 1, none⟩ (.slice (some ⟨b, o + 1, none⟩) l.length (c - 1))) ⟨_, ve, HH2.out.2.2.2.2.1.take HH.out.1 HH2.out.2.2.2.2.2.1 _ ⟨_, c - 1, rfl, HCC.out.1, HCC.out.2, .inr ⟨b, o + 1, rfl, hbH, fun i hi => by have := HH2.out.2.2.2.2.2.2.2 (i + 1) (by simpa using hi); rw [show o + 1 + i = o + (i + 1) by omega]; simpa using this⟩⟩, HH2.out.2.2.2.2.2.2.1⟩)
        go_wp2_with fail
        refine HC.out.mono ?_
        rintro e w2 ⟨rfl, r2, hk2, ha2⟩
        have HA2 := Lib.hid (And.intro hk2 ha2)
        clear hk2 ha2
        go_wp2_with fail
        go_ret
        obtain ⟨hk2, ha2⟩ := HA2.out
        obtain ⟨ha1, hkr, hs1, hR, hm, hL1, he, hcells⟩ := HH2.out
        exact Ran.go (val := intV) (by rw [← hR]; rfl) (hkr.trans ((Kr.onlyM ((Only.refl K.M w1).setCell (p := ⟨K.M, 1, none⟩) rfl _)).trans hk2)) (HFX.out x (List.mem_cons_self ..)) ha2
    · exact ⟨rfl, Ran.stop (by rw [← HH.out.2.1, hr1]; rfl) hkr h1⟩
end Go.Proofs.Ytbhbmoppipohjaa
