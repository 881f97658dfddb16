/-
  Layer 9's own trial (known): proved is that it answers true, and turns nothing that lay.
-/
import Derived.Test.YtjpopelbdhgidaaGreatDoorQCfgR
import Derived.Test.YtjpopelbdhgidaaGreatDoorQThru
/-
  Lower: proved is that it tells the plain graph of every program, or the error.
-/
namespace Go.Proofs.YtjpopelbdhgidaaGreatDoor
open Go Go.RowKit Go.Maps

def lvD (ds : List Nd) : Lv := ⟨plW ds, (varsL ds).length⟩
/-- The plain graph of a program, and its error. -/
def lowD (ds ss : List Nd) : Lw := lowP (lvD ds) ss
def cfgF (ds ss : List Nd) : Int := if (wellP ds ss).2 ≠ 0 then (wellP ds ss).2 else outF (varsL ds).length (lowD ds ss).tmp (lowD ds ss).pts (lowD ds ss).eds.length
def zeroG : Value := .agg #[.slice none 0 0, .int .i64 0, .slice none 0 0, .int .i64 0, .int .i64 0, .slice none 0 0]
/-- A graph in memory: its rows are its own, from a block on. -/
def CfgIn (w : World) (lo : Nat) (VN : List ByteArray) (AN : List Nd) (s : Lw) (u : Value) : Prop := ∃ vv va ve, u = .agg #[vv, .int .i64 s.tmp, va, .int .i64 s.pts, .int .i64 s.ext, ve] ∧ w.ownsRow lo 9 1 vv VN.length (cellsT VN) ∧ w.ownsRow lo 96 2 va AN.length (cellsD AN) ∧ w.ownsRow lo 40 10 ve s.eds.length (cellsE s.eds)
def LowTo (w : World) (ds ss : List Nd) : Ending → World → Prop := fun e w' => ∃ u, e = .returned (.tuple #[u, .int .i64 (cfgF ds ss)]) ∧ Below w.heap.size w w' ∧ (cfgF ds ss = 0 → CfgIn w' w.heap.size (varsL ds) (arrsL ds) (lowD ds ss) u) ∧ (cfgF ds ss ≠ 0 → u = zeroG)
theorem ownsRow_kl {K : Le} {r r' : Option Nat} {w w' : World} {base : Nat} {e : TypeId} {size n : Nat} {v : Value} {xs : List Value} (h : w.ownsRow base e size v n xs) (hk : Kl K r r' w w') (hM : ∀ g, v.ownBlock = some g → g ≠ K.M ∧ r ≠ some g) : w'.ownsRow base e size v n xs := by
  refine ⟨h.1, ?_⟩
  rcases h.2 with hn | ⟨g, cap, cur, rfl, hb, hgg, rest⟩
  · exact .inl hn
  · refine .inr ⟨g, cap, cur, rfl, hb, ?_, rest⟩
    rw [hk.block g (Array.getElem?_eq_some_iff.1 hgg).1 (hM g rfl).1 (hM g rfl).2]
    exact hgg
theorem ownsRow_lower {w : World} {base base' : Nat} {e : TypeId} {size n : Nat} {v : Value} {xs : List Value} (h : w.ownsRow base e size v n xs) (hb : base' ≤ base) : w.ownsRow base' e size v n xs := by
  refine ⟨h.1, ?_⟩
  rcases h.2 with hn | ⟨g, cap, cur, rfl, h1, rest⟩
  · exact .inl hn
  · exact .inr ⟨g, cap, cur, rfl, Nat.le_trans hb h1, rest⟩
theorem ownsRow_form {w : World} {base : Nat} {e : TypeId} {size n : Nat} {v : Value} {xs : List Value} (h : w.ownsRow base e size v n xs) : ∃ a c, v = .slice a n c := by
  rcases h.2 with ⟨rfl, rfl⟩ | ⟨g, cap, cur, rfl, -⟩
  · exact ⟨none, 0, rfl⟩
  · exact ⟨_, _, rfl⟩
def gput6 (w : World) (Y : Nat) (v0 v1 v2 v3 v4 v5 : Value) : World := (((((w.setCell ⟨Y, 0, none⟩ v0).setCell ⟨Y, 1, none⟩ v1).setCell ⟨Y, 2, none⟩ v2).setCell ⟨Y, 3, none⟩ v3).setCell ⟨Y, 4, none⟩ v4).setCell ⟨Y, 5, none⟩ v5
theorem gput6_blk {w : World} {Y : Nat} {a0 a1 a2 a3 a4 a5 : Value} {t : TypeId} (h : Blk w Y #[a0, a1, a2, a3, a4, a5] t) (v0 v1 v2 v3 v4 v5 : Value) : Blk (gput6 w Y v0 v1 v2 v3 v4 v5) Y #[v0, v1, v2, v3, v4, v5] t := by
  have h0 : Blk (w.setCell ⟨Y, 0, none⟩ v0) Y #[v0, a1, a2, a3, a4, a5] t := h.set 0 v0
  have h1 : Blk ((w.setCell ⟨Y, 0, none⟩ v0).setCell ⟨Y, 1, none⟩ v1) Y #[v0, v1, a2, a3, a4, a5] t := h0.set 1 v1
  have h2 : Blk (((w.setCell ⟨Y, 0, none⟩ v0).setCell ⟨Y, 1, none⟩ v1).setCell ⟨Y, 2, none⟩ v2) Y #[v0, v1, v2, a3, a4, a5] t := h1.set 2 v2
  have h3 : Blk ((((w.setCell ⟨Y, 0, none⟩ v0).setCell ⟨Y, 1, none⟩ v1).setCell ⟨Y, 2, none⟩ v2).setCell ⟨Y, 3, none⟩ v3) Y #[v0, v1, v2, v3, a4, a5] t := h2.set 3 v3
  have h4 : Blk (((((w.setCell ⟨Y, 0, none⟩ v0).setCell ⟨Y, 1, none⟩ v1).setCell ⟨Y, 2, none⟩ v2).setCell ⟨Y, 3, none⟩ v3).setCell ⟨Y, 4, none⟩ v4) Y #[v0, v1, v2, v3, v4, a5] t := h3.set 4 v4
  have h5 : Blk ((((((w.setCell ⟨Y, 0, none⟩ v0).setCell ⟨Y, 1, none⟩ v1).setCell ⟨Y, 2, none⟩ v2).setCell ⟨Y, 3, none⟩ v3).setCell ⟨Y, 4, none⟩ v4).setCell ⟨Y, 5, none⟩ v5) Y #[v0, v1, v2, v3, v4, v5] t := h4.set 5 v5
  exact h5
theorem gput6_only (w : World) (Y : Nat) (v0 v1 v2 v3 v4 v5 : Value) : Only Y w (gput6 w Y v0 v1 v2 v3 v4 v5) := ((((((Only.refl Y w).setCell (p := ⟨Y, 0, none⟩) rfl _).setCell (p := ⟨Y, 1, none⟩) rfl _).setCell (p := ⟨Y, 2, none⟩) rfl _).setCell (p := ⟨Y, 3, none⟩) rfl _).setCell (p := ⟨Y, 4, none⟩) rfl _).setCell (p := ⟨Y, 5, none⟩) rfl _
set_option maxRecDepth 100000 in
set_option maxHeartbeats 8000000 in
theorem Lower_any (ds ss : List Nd) (v0 v1 : Value) (w : World) (hd : SlIn w .D ds v0) (hs : SlIn w .S ss v1) (htab : TabK w) :
    Calls Tryz.prog 7 #[.agg #[v0, v1]] w (LowTo w ds ss) := by
  have hvars := fun w2 (hb : Below w.heap.size w w2) => wvars_any ds ss v0 v1 w2 (hd.keep (keeps_below hb)) (hs.keep (keeps_below hb))
  have harrs := fun w2 (hb : Below w.heap.size w w2) => warrs_any ds ss v0 v1 w2 (hd.keep (keeps_below hb)) (hs.keep (keeps_below hb))
  have hv0 : ∃ a c, v0 = .slice a ds.length c := by obtain ⟨a, c, h, -⟩ := hd; exact ⟨a, c, h⟩
  have hv1 : ∃ a c, v1 = .slice a ss.length c := by obtain ⟨a, c, h, -⟩ := hs; exact ⟨a, c, h⟩
  obtain ⟨a0, c0, rfl⟩ := hv0
  obtain ⟨a1, c1, rfl⟩ := hv1
  obtain ⟨X, hX⟩ : ∃ X, w.heap.size = X := ⟨_, rfl⟩
  obtain ⟨W1, hW1⟩ : ∃ W1, w.alloc (.cells #[.slice a0 ds.length c0, .slice a1 ss.length c1] 25) = W1 := ⟨_, rfl⟩
  have hx1 : Blk W1 X #[.slice a0 ds.length c0, .slice a1 ss.length c1] 25 := by rw [← hW1, ← hX]; exact Blk.new w _ _
  have hb1 : Below w.heap.size w W1 := by rw [← hW1]; exact (Below.refl _ w).alloc (Nat.le_refl _) _
  have hs1 : W1.heap.size = X + 1 := by rw [← hW1, World.size_alloc, hX]
  obtain ⟨R, hR⟩ : ∃ R, W1.heap.size = R := ⟨_, rfl⟩
  obtain ⟨W2, hW2⟩ : ∃ W2, W1.alloc (.cells #[.slice none 0 0, .int .i64 0, .slice none 0 0, .int .i64 0, .int .i64 0, .slice none 0 0] 30) = W2 := ⟨_, rfl⟩
  have hx2 : Blk W2 X #[.slice a0 ds.length c0, .slice a1 ss.length c1] 25 := by rw [← hW2]; exact hx1.alloc _
  have hr2 : Blk W2 R #[.slice none 0 0, .int .i64 0, .slice none 0 0, .int .i64 0, .int .i64 0, .slice none 0 0] 30 := by rw [← hW2, ← hR]; exact Blk.new W1 _ _
  have hb2 : Below w.heap.size w W2 := by rw [← hW2]; exact hb1.alloc hb1.size _
  have hXR : X + 1 = R := by rw [← hR, hs1]
  have x0 : W2.cell? ⟨X, 0, none⟩ = some (.slice a0 ds.length c0) := hx2.cell 0
  have x1 : W2.cell? ⟨X, 1, none⟩ = some (.slice a1 ss.length c1) := hx2.cell 1
  have HV := Lib.hid (hvars W2 hb2)
  have HA := Lib.hid (fun w3 (hb : Below W2.heap.size W2 w3) => harrs w3 (hb2.trans (hb.mono hb2.size)))
  have H2 := Lib.hid (And.intro hx2 (And.intro hr2 hb2))
  have HIN := Lib.hid (And.intro hd (And.intro hs htab))
  have HE := Lib.hid (And.intro hW1 (And.intro hX (And.intro hW2 hXR)))
  clear hvars harrs hx1 hb1 hx2 hr2 hb2 hd hs hX hR hW1 hW2 hXR hs1 htab
  obtain ⟨F, hF⟩ : ∃ f, cfgF ds ss = f := ⟨_, rfl⟩
  unfold LowTo
  rw [hF]
  unfold cfgF at hF
  obtain ⟨WE, hWE⟩ : ∃ e, (wellP ds ss).2 = e := ⟨_, rfl⟩
  rw [hWE] at hF
  simp only [hWE] at HV HA
  by_cases hz : WE = 0
  · subst hz
    simp only [if_true] at HV HA
    simp only [ne_eq, not_true_eq_false, if_false] at hF
    obtain ⟨hd1, hd2, hd3⟩ := wellP_ok hWE
    have hnv := vars_few hd2
    have hna := arrs_few hd2
    have hnms := nms_sz (fit_list HIN.out.1) (noD_list HIN.out.2.1) hd1
    have hn0 : ∀ x ∈ varsL ds, x.size ≤ maxLen := by
      intro x hx
      obtain ⟨y, hy, -, rfl⟩ := varsL_mem hx
      have := hnms.1 y hy
      rw [dNm_own (ty_of (fit_list HIN.out.1) y hy)]
      unfold maxLen
      omega
    have hn1 : ∀ x ∈ arrsL ds, (dNm x).size ≤ maxLen := by
      intro y hy
      have hyd := (arrsL_mem hy).1
      have := hnms.1 y hyd
      rw [dNm_own (ty_of (fit_list HIN.out.1) y hyd)]
      unfold maxLen
      omega
    have hfm := prog_fm (fit_list HIN.out.2.1) hWE
    have HND := Lib.hid (And.intro hn0 (And.intro hn1 (And.intro hnv (And.intro hna hfm))))
    have HF := Lib.hid hF
    clear hd1 hd2 hd3 hnms hn0 hn1 hnv hna hWE hfm hF
    go_enter Tryz.func7, Tryz.ntmps7
    go_upto_region 1 with fail
    rw [HE.out.1, HE.out.2.1, HE.out.2.2.1, HE.out.2.2.2]
    go_upto_region 3 with (first
      | (go_at_call 27; (with_reducible refine HV.out.mono ?_); rintro e w3 ⟨v8, rfl, ho8, hb3⟩; have q0 : w3.cell? ⟨X, 0, none⟩ = some (.slice a0 ds.length c0) := (H2.out.1.next hb3).cell 0; have q1 : w3.cell? ⟨X, 1, none⟩ = some (.slice a1 ss.length c1) := (H2.out.1.next hb3).cell 1; have HAC := Lib.hid (HA.out w3 hb3); have HB3 := Lib.hid hb3; have HO8 := Lib.hid ho8; clear hb3 ho8 x0 x1)
      | (go_at_call 28; (with_reducible refine HAC.out.mono ?_); rintro e w4 ⟨v10, rfl, ho10, hb4⟩; have HB4 := Lib.hid (HB3.out.trans (hb4.mono HB3.out.size)); have HO10 := Lib.hid (ownsRow_lower ho10 HB3.out.size); have HO9 := Lib.hid (ownsRow_below HO8.out hb4); clear hb4 ho10 q0 q1) | fail)
    have HNL := Lib.hid (newl_any (varsL ds) (arrsL ds) v8 v10 w4 _ _ HO9.out HO10.out HND.out.2.2.1 HND.out.2.2.2.1 HND.out.1 HND.out.2.1)
    have x4 := (H2.out.1.next HB4.out).cell
    go_upto_region 6 with (first | (go_at_call 29; (with_reducible refine HNL.out.mono ?_); rintro e w5 ⟨K, hk, hH0, hpl, hnv, hvv, hva, rfl, hb5, h5⟩; have x5 := (H2.out.1.next HB4.out).next hb5 |>.cell; have HK := Lib.hid (And.intro hk (And.intro hH0 (And.intro hpl (And.intro hnv (And.intro hvv (And.intro hva (And.intro hb5 h5))))))); clear hk hH0 hpl hnv hvv hva hb5 h5 x4) | fail)
    have hw4 : Below w.heap.size w w4 := H2.out.2.2.trans (HB4.out.mono H2.out.2.2.size)
    have hE : K.E = lvD ds := by
      unfold lvD plW
      rw [← HK.out.2.2.1, ← HK.out.2.2.2.1]
    have htab4 : TabK w4 := tab_next HIN.out.2.2 hw4
    have HP := Lib.hid (program_any K HK.out.1 w4 (by rw [HK.out.2.1]; exact Nat.le_refl _) htab4 ss HND.out.2.2.2.2.1 HND.out.2.2.2.2.2 _ w5 (HIN.out.2.1.keep (keeps_below hw4)) HK.out.2.2.2.2.2.2.1 none HK.out.2.2.2.2.2.2.2)
    rw [hE] at HP
    have HW4 := Lib.hid (And.intro hw4 hE)
    clear hw4 hE htab4
    go_upto_region 7 with (first | (go_at_call 30; (with_reducible refine HP.out.mono ?_); rintro e w6 ⟨rfl, r6, hk6, h6⟩; have H6 := Lib.hid (And.intro hk6 h6); clear hk6 h6 x5) | fail)
    obtain ⟨ve, hm, he⟩ := H6.out.2
    obtain ⟨av, cv, hvv⟩ := ownsRow_form HO9.out
    obtain ⟨aa, ca, hva⟩ := ownsRow_form HO10.out
    obtain ⟨ae, ce, rfl⟩ := ownsRow_form hm.eds
    obtain ⟨S, hS⟩ : ∃ S, lowP (lvD ds) ss = S := ⟨_, rfl⟩
    have hSD : lowD ds ss = S := hS
    rw [hS] at hm
    have c1 : w6.cell? ⟨K.M, 1, none⟩ = some (.slice av (varsL ds).length cv) := by rw [← hvv, ← HK.out.2.2.2.2.1]; exact hm.mach.cell 1
    have c2 : w6.cell? ⟨K.M, 2, none⟩ = some (.int .i64 S.tmp) := hm.mach.cell 2
    have c3 : w6.cell? ⟨K.M, 3, none⟩ = some (.slice aa (arrsL ds).length ca) := by rw [← hva, ← HK.out.2.2.2.2.2.1]; exact hm.mach.cell 3
    have c4 : w6.cell? ⟨K.M, 4, none⟩ = some (.int .i64 S.pts) := hm.mach.cell 4
    have c5 : w6.cell? ⟨K.M, 5, none⟩ = some (.int .i64 S.ext) := hm.mach.cell 5
    have c6 : w6.cell? ⟨K.M, 6, none⟩ = some (.slice ae S.eds.length ce) := hm.mach.cell 6
    have hMlt := hm.mach.lt
    have hM6 := hm.mach
    have hre : w6.ownsRow K.B1 40 10 (.slice ae S.eds.length ce) S.eds.length (cellsE S.eds) := hm.eds
    have hvr : w6.ownsRow W2.heap.size 9 1 (.slice av (varsL ds).length cv) (varsL ds).length (cellsT (varsL ds)) := by
      rw [← hvv]
      refine ownsRow_kl (ownsRow_below HO9.out HK.out.2.2.2.2.2.2.1) H6.out.1 (fun g hg => ⟨fun e => ?_, by simp⟩)
      have h1 := (HO9.out.lt g hg).2
      have h2 := HK.out.1.m0
      rw [HK.out.2.1] at h2
      omega
    have har : w6.ownsRow W2.heap.size 96 2 (.slice aa (arrsL ds).length ca) (arrsL ds).length (cellsD (arrsL ds)) := by
      rw [← hva]
      refine ownsRow_kl (ownsRow_below HO10.out HK.out.2.2.2.2.2.2.1) H6.out.1 (fun g hg => ⟨fun e => ?_, by simp⟩)
      have h1 := (HO10.out.lt g hg).2
      have h2 := HK.out.1.m0
      rw [HK.out.2.1] at h2
      omega
    have hb46 : Below w4.heap.size w4 w6 := HK.out.2.2.2.2.2.2.1.trans (by have := H6.out.1.old HK.out.1 HK.out.2.2.2.2.2.2.2; rw [HK.out.2.1] at this; exact this)
    have hr6 := (H2.out.2.1.next HB4.out).next hb46
    have hRlt : R < W2.heap.size := H2.out.2.1.lt
    have hb6 : Below w.heap.size w w6 := HW4.out.1.trans (hb46.mono HW4.out.1.size)
    have hBB : W2.heap.size ≤ K.B1 := by have h1 := HK.out.1.b0; rw [HK.out.2.1] at h1; have := HB4.out.size; omega
    have hnv64 : (varsL ds).length ≤ 9223372036854775807 := by have := HND.out.2.2.1; omega
    have HOG := Lib.hid (fun w => outgrown_any av aa ae (varsL ds).length cv (arrsL ds).length ca S.eds.length ce hnv64 S.tmp S.pts S.ext w)
    have H7 := Lib.hid (And.intro hre (And.intro hvr (And.intro har (And.intro hr6 (And.intro hRlt (And.intro hb6 (And.intro hBB (And.intro hSD hM6))))))))
    have hF := HF.out
    rw [hSD] at hF
    rw [hF] at HOG
    have HF2 := Lib.hid hF
    clear hm he hre hvr har hr6 hRlt hb6 hBB hSD hb46 hvv hva hS hnv64 hF HF HP
    by_cases hFz : F = 0
    · subst hFz
      go_upto_region 10 with (first | (go_at_call 31; (with_reducible refine (HOG.out _).mono ?_); rintro e w7 ⟨rfl, hb7⟩; have d1 := keeps_below hb7 _ _ _ c1; have d2 := keeps_below hb7 _ _ _ c2; have d3 := keeps_below hb7 _ _ _ c3; have d4 := keeps_below hb7 _ _ _ c4; have d5 := keeps_below hb7 _ _ _ c5; have d6 := keeps_below hb7 _ _ _ c6; have HB7 := Lib.hid hb7; have r0 := (H7.out.2.2.2.1.next hb7).cell; have r1 := (H7.out.2.2.2.1.next hb7).free; clear hb7 c1 c2 c3 c4 c5 c6) | fail)
      go_wp2_with fail
      have hbl := gput6_blk (H7.out.2.2.2.1.next HB7.out) (.slice av (varsL ds).length cv) (.int .i64 S.tmp) (.slice aa (arrsL ds).length ca) (.int .i64 S.pts) (.int .i64 S.ext) (.slice ae S.eds.length ce)
      have ho := gput6_only w7 R (.slice av (varsL ds).length cv) (.int .i64 S.tmp) (.slice aa (arrsL ds).length ca) (.int .i64 S.pts) (.int .i64 S.ext) (.slice ae S.eds.length ce)
      have hwR : w.heap.size ≤ R := by have h1 := HE.out.2.1; have h2 := HE.out.2.2.2; omega
      refine bodyPost_ret (res_row_tmp rfl _ _ R _ _ _ _ rfl hbl rfl rfl (by kernel_rfl)) rfl ?_
      obtain ⟨hre, hvr, har, hr6, hRlt, hb6, hBB, hSD, -⟩ := H7.out
      have hw2 : w.heap.size ≤ W2.heap.size := H2.out.2.2.size
      refine ⟨_, rfl, (hb6.trans (HB7.out.mono hb6.size)).trans (ho.old hwR (Nat.le_trans hb6.size HB7.out.size)), ?_⟩
      rw [hSD]
      exact ⟨_, _, _, rfl, ownsRow_lower (ownsRow_only (ownsRow_below hvr HB7.out) ho hRlt) hw2, ownsRow_lower (ownsRow_only (ownsRow_below har HB7.out) ho hRlt) hw2, ownsRow_lower (ownsRow_only (ownsRow_below hre HB7.out) ho (by omega)) (by omega)⟩
    · have t1 : (F == 0) = false := by simpa using hFz
      have t2 : (F != 0) = true := by simpa using hFz
      have HFZ := Lib.hid hFz
      clear hFz
      go_upto_region 9 with (first | (go_at_call 31; (with_reducible refine (HOG.out _).mono ?_); rintro e w7 ⟨rfl, hb7⟩; have HB7 := Lib.hid hb7; have r0 := (H7.out.2.2.2.1.next hb7).cell; have r1 := (H7.out.2.2.2.1.next hb7).free; clear hb7 c1 c2 c3 c4 c5 c6) | fail)
      go_wp2_with fail
      have hbl := gput6_blk (H7.out.2.2.2.1.next HB7.out) (.slice none 0 0) (.int .i64 0) (.slice none 0 0) (.int .i64 0) (.int .i64 0) (.slice none 0 0)
      have ho := gput6_only w7 R (.slice none 0 0) (.int .i64 0) (.slice none 0 0) (.int .i64 0) (.int .i64 0) (.slice none 0 0)
      have hwR : w.heap.size ≤ R := by have h1 := HE.out.2.1; have h2 := HE.out.2.2.2; omega
      refine bodyPost_ret (res_row_tmp rfl _ _ R _ _ _ _ rfl hbl rfl rfl (by kernel_rfl)) rfl ?_
      obtain ⟨hre, hvr, har, hr6, hRlt, hb6, hBB, hSD, -⟩ := H7.out
      exact ⟨_, rfl, (hb6.trans (HB7.out.mono hb6.size)).trans (ho.old hwR (Nat.le_trans hb6.size HB7.out.size)), fun h => absurd h HFZ.out, fun _ => rfl⟩
  · rw [if_pos hz] at hF
    subst hF
    simp only [if_neg hz] at HV HA
    have t1 : (WE == 0) = false := by simpa using hz
    have t2 : (WE != 0) = true := by simpa using hz
    have HZ := Lib.hid hz
    clear hz hWE
    go_enter Tryz.func7, Tryz.ntmps7
    go_upto_region 1 with fail
    rw [HE.out.1, HE.out.2.1, HE.out.2.2.1, HE.out.2.2.2]
    go_upto_region 3 with (first
      | (go_at_call 27; (with_reducible refine HV.out.mono ?_); rintro e w3 ⟨v8, rfl, ho8, hb3⟩; have q0 : w3.cell? ⟨X, 0, none⟩ = some (.slice a0 ds.length c0) := (H2.out.1.next hb3).cell 0; have q1 : w3.cell? ⟨X, 1, none⟩ = some (.slice a1 ss.length c1) := (H2.out.1.next hb3).cell 1; have HAC := Lib.hid (HA.out w3 hb3); have HB3 := Lib.hid hb3; clear hb3 ho8 x0 x1)
      | (go_at_call 28; (with_reducible refine HAC.out.mono ?_); rintro e w4 ⟨v10, rfl, ho10, hb4⟩; have HB4 := Lib.hid (HB3.out.trans (hb4.mono HB3.out.size)); clear hb4 ho10 q0 q1) | fail)
    have r0 := (H2.out.2.1.next HB4.out).cell
    have r1 := (H2.out.2.1.next HB4.out).free
    go_wp2_with fail
    have hbl := gput6_blk (H2.out.2.1.next HB4.out) (.slice none 0 0) (.int .i64 0) (.slice none 0 0) (.int .i64 0) (.int .i64 0) (.slice none 0 0)
    have ho := gput6_only w4 R (.slice none 0 0) (.int .i64 0) (.slice none 0 0) (.int .i64 0) (.int .i64 0) (.slice none 0 0)
    have hwR : w.heap.size ≤ R := by have h1 := HE.out.2.1; have h2 := HE.out.2.2.2; omega
    refine bodyPost_ret (res_row_tmp rfl _ _ R _ _ _ _ rfl hbl rfl rfl (by kernel_rfl)) rfl ?_
    have hb4 : Below w.heap.size w w4 := H2.out.2.2.trans (HB4.out.mono H2.out.2.2.size)
    exact ⟨_, rfl, hb4.trans (ho.old hwR hb4.size), fun h => absurd h HZ.out, fun _ => rfl⟩
end Go.Proofs.YtjpopelbdhgidaaGreatDoor

/-
  The statements' own program (gnomonlaw3's one): proved is which tree it is, in memory.
-/
namespace Go.Proofs.YtjpopelbdhgidaaGreatDoor
open Go Go.RowKit

/-- Items whose cells follow one another are a row. -/
theorem RowIn.cells {w : World} {ty : Ty} : ∀ (l : List Nd) (vss : List (List Value)) (b o : Nat), l.length = vss.length → (∀ (i : Nat) (h : i < l.length) (h' : i < vss.length), (l[i]).ty = ty ∧ NdIn w l[i] vss[i]) → (∀ j u, vss.flatten[j]? = some u → w.cell? ⟨b, o + j, none⟩ = some u) → RowIn w ty l b o
  | [], _, _, _, _, _, _ => by unfold RowIn; trivial
  | x :: r, [], _, _, hl, _, _ => by simp at hl
  | x :: r, vs :: vr, b, o, hl, hn, hc => by
    obtain ⟨h1, h2⟩ := hn 0 (by simp) (by simp)
    simp only [List.getElem_cons_zero] at h1 h2
    have hlen := h2.len
    rw [h1] at hlen
    unfold RowIn
    refine ⟨⟨h1, vs, fun j u hj => hc j u ?_, h2⟩, RowIn.cells r vr b (o + ty.size) (by simpa using hl) (fun i h h' => ?_) (fun j u hj => ?_)⟩
    · rw [List.flatten_cons, List.getElem?_append_left (List.getElem?_eq_some_iff.1 hj).1]
      exact hj
    · have := hn (i + 1) (by simpa using h) (by simpa using h')
      simpa using this
    · have := hc (ty.size + j) u (by
        rw [List.flatten_cons, List.getElem?_append_right (by omega), hlen, Nat.add_sub_cancel_left]
        exact hj)
      rwa [← Nat.add_assoc] at this
theorem slIn_blk {w : World} {ty : Ty} {l : List Nd} {vss : List (List Value)} {b : Nat} {t : TypeId} (hB : Blk w b vss.flatten.toArray t) (hl : l.length = vss.length) (hm : l.length ≤ maxLen) (hn : ∀ (i : Nat) (h : i < l.length) (h' : i < vss.length), (l[i]).ty = ty ∧ NdIn w l[i] vss[i]) : SlIn w ty l (.slice (some ⟨b, 0, none⟩) l.length l.length) :=
  ⟨_, _, rfl, Nat.le_refl _, hm, .inr ⟨b, 0, rfl, RowIn.cells l vss b 0 hl hn (fun j u hj => by
    rw [Nat.zero_add]
    have := hB.cell j
    simpa [hj] using this)⟩⟩
theorem Blk.at {w : World} {cs : Array Value} {t : TypeId} {b : Nat} (hb : b = w.heap.size) : Blk (w.alloc (.cells cs t)) b cs t := hb ▸ Blk.new w cs t
theorem nodes1 {w : World} {x : Nd} {vs : List Value} {ty : Ty} (h1 : x.ty = ty) (h2 : NdIn w x vs) : ∀ (i : Nat) (_ : i < [x].length) (_ : i < [vs].length), ([x][i]).ty = ty ∧ NdIn w [x][i] [vs][i]
  | 0, _, _ => ⟨h1, h2⟩
end Go.Proofs.YtjpopelbdhgidaaGreatDoor

/-
  Layer 9's own trial (known): proved is that it answers true, and turns nothing that lay.
-/
namespace Go.Proofs.YtjpopelbdhgidaaGreatDoor
open Go Go.RowKit Go.Maps

def skN : Nd := .mk .S 7 0 ⟨#[]⟩ [] [] [] []
theorem kn9F : cfgF [] [skN] = 0 := by decide +kernel
theorem kn9D : lowD [] [skN] = ⟨2, 0, 1, [edgeE 0 1 1]⟩ := by kernel_rfl
theorem lit_ok {n : Int} (h0 : 0 ≤ n) (h1 : n ≤ 2147483647) : i64ok n := by
  unfold i64ok
  simp only [Lit.wf, Bool.and_eq_true, decide_eq_true_eq]
  have e1 : IntKind.i64.min = -9223372036854775808 := by decide
  have e2 : IntKind.i64.max = 9223372036854775807 := by decide
  omega
theorem skN_in (w : World) : NdIn w skN [.int .i64 7, .string ⟨#[]⟩, .slice none 0 0, .slice none 0 0, .slice none 0 0, .slice none 0 0] := by
  unfold skN NdIn
  exact ⟨rfl, lit_ok (by decide) (by decide), ok0, by decide, .slice none 0 0, .slice none 0 0, .slice none 0 0, .slice none 0 0, rfl, sl0 w .E, sl0 w .C, sl0 w .S, sl0 w .S⟩
theorem len_one {x : Nd} : [x].length ≤ maxLen := by show 1 ≤ maxLen; unfold maxLen; omega
theorem tab_below {w w' : World} (h : TabK w) (hb : Below w.heap.size w w') : TabK w' := fun i hi => keeps_below hb _ _ _ (h i hi)
set_option maxRecDepth 100000 in
set_option maxHeartbeats 4000000 in
theorem known9_any (w : World) (htab : TabK w) : Calls Tryz.prog 6 #[] w (fun e w' => e = .returned (.bool true) ∧ Below w.heap.size w w') := by
  obtain ⟨W, hW⟩ : ∃ W, w.alloc (.cells #[.int .i64 7, .string ⟨#[]⟩, .slice none 0 0, .slice none 0 0, .slice none 0 0, .slice none 0 0] 72) = W := ⟨_, rfl⟩
  have hbw : Below w.heap.size w W := by rw [← hW]; exact (Below.refl _ w).alloc (Nat.le_refl _) _
  have b5 : Blk W w.heap.size [[.int .i64 7, .string ⟨#[]⟩, .slice none 0 0, .slice none 0 0, .slice none 0 0, .slice none 0 0]].flatten.toArray 72 := by rw [← hW]; exact Blk.new w _ _
  obtain ⟨X, hX⟩ : ∃ X, w.heap.size = X := ⟨_, rfl⟩
  have hs : SlIn W .S [skN] (.slice (some ⟨w.heap.size, 0, none⟩) 1 1) := slIn_blk (vss := [_]) b5 rfl len_one (nodes1 rfl (skN_in W))
  rw [hX] at hs
  have hd : SlIn W .D [] (.slice none 0 0) := ⟨none, 0, rfl, Nat.le_refl _, Nat.zero_le _, .inl rfl⟩
  have HC := Lib.hid (Lower_any [] [skN] _ _ W hd hs (tab_below htab hbw))
  have HB := Lib.hid hbw
  have HE := Lib.hid (And.intro hW hX)
  clear b5 hs hd hW hbw hX htab
  go_enter Tryz.func6, Tryz.ntmps6
  go_wp2_with fail
  rw [HE.out.1, HE.out.2]
  refine HC.out.mono ?_
  rintro e w2 ⟨u, rfl, hb2, hout, -⟩
  have hO := hout kn9F
  rw [kn9D] at hO
  rw [kn9F]
  obtain ⟨vv, va, ve, rfl, hv, ha, hee⟩ := hO
  obtain ⟨av, cv, rfl⟩ := ownsRow_form hv
  obtain ⟨aa, ca, rfl⟩ := ownsRow_form ha
  obtain ⟨ae, ce, rfl⟩ := ownsRow_form hee
  have hB2 := HB.out.trans (hb2.mono HB.out.size)
  obtain ⟨g, rfl⟩ : ∃ g, ae = some ⟨g, 0, none⟩ := by
    rcases hee.2 with ⟨h, -⟩ | ⟨g, cap, cur, h, -⟩
    · cases h
    · exact ⟨g, by cases h; rfl⟩
  have hcell : ∀ j u, (cellsE [edgeE 0 1 1])[j]? = some u → w2.cell? ((⟨g, 0, none⟩ : Addr).add j) = some u := hee.cells (g := g) rfl
  simp only [add_none, Nat.zero_add] at hcell
  have hlt := (hee.lt g rfl).2
  have HB2 := Lib.hid hB2
  obtain ⟨W3, hW3⟩ : ∃ W3, w2.alloc (.cells #[.slice av 0 cv, .int .i64 0, .slice aa 0 ca, .int .i64 2, .int .i64 1, .slice (some ⟨g, 0, none⟩) 1 ce] 30) = W3 := ⟨_, rfl⟩
  have up : ∀ j u, (cellsE [edgeE 0 1 1])[j]? = some u → (w2.alloc (.cells #[.slice av 0 cv, .int .i64 0, .slice aa 0 ca, .int .i64 2, .int .i64 1, .slice (some ⟨g, 0, none⟩) 1 ce] 30)).cell? ⟨g, j, none⟩ = some u := fun j u h => keeps_below ((Below.refl _ w2).alloc (Nat.le_refl _) _) _ _ _ (hcell j u h)
  have e0 := up 0 _ rfl
  have e1 := up 1 _ rfl
  have e2 := up 2 _ rfl
  have e3 := up 3 _ rfl
  have e4 := up 4 _ rfl
  have e5 := up 5 _ rfl
  have e6 := up 6 _ rfl
  have e7 := up 7 _ rfl
  have e8 := up 8 _ rfl
  have e9 := up 9 _ rfl
  simp only [edgeE] at e0 e1 e2 e3 e4 e5 e6 e7 e8 e9
  clear hcell up hb2 hout hv ha hee hB2 hW3 hlt
  simp only [List.length_cons, List.length_nil, Nat.zero_add, varsL, arrsL, List.filter_nil, List.map_nil]
  go_wp2_with fail
  go_ret
  exact ⟨rfl, HB2.out.alloc HB2.out.size _⟩
end Go.Proofs.YtjpopelbdhgidaaGreatDoor
