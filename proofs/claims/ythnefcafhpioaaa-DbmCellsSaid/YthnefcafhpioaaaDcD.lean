/-
  The document's Copy.
-/
import Derived.Test.YthnefcafhpioaaaDcC
namespace Go.Proofs.Ythnefcafhpioaaa
open Go Go.RowKit Go.Shelf

/-- What has come of memory in Copy's region: b6: the numbers are copied; b8: the answer is laid. -/
def CpJ (W1 : World) (X : Nat) (n : Int) (em : Bool) (L : Nat) (m : List Int) (b6 b8 : Bool) (R : Value) (w' : World) : Prop :=
  (b6 = false ∧ b8 = false ∧ w' = W1.drew) ∨ (b6 = true ∧ b8 = false ∧ ∃ av cap, R = .slice av L cap ∧ MOwn (X + 2) w' m av cap ∧ Below (X + 2) W1 w') ∨
  (b6 = true ∧ b8 = true ∧ ∃ av cap w7, R = .slice av L cap ∧ MOwn (X + 2) w7 m av cap ∧ Below (X + 2) W1 w7 ∧ w' = ((w7.setCell ⟨X + 1, 0, none⟩ (.int .i64 n)).setCell ⟨X + 1, 1, none⟩ (.bool em)).setCell ⟨X + 1, 2, none⟩ (.slice av L cap))
theorem wait_abs {b : Bool} (h : b = false) (h2 : b = true) : False := by rw [h] at h2; cases h2
theorem cp_first {W1 w' : World} {X L : Nat} {n : Int} {em : Bool} {m : List Int} {b6 b8 : Bool} {R : Value} (h : CpJ W1 X n em L m b6 b8 R w') (h6 : b6 = false) : w' = W1.drew := by
  rcases h with ⟨-, -, h⟩ | ⟨h, -⟩ | ⟨h, -⟩
  · exact h
  · rw [h6] at h; cases h
  · rw [h6] at h; cases h
theorem cp_second {W1 w' : World} {X L : Nat} {n : Int} {em : Bool} {m : List Int} {b6 b8 : Bool} {R : Value} (h : CpJ W1 X n em L m b6 b8 R w') (h6 : b6 = true) (h8 : b8 = false) : ∃ av cap, R = .slice av L cap ∧ MOwn (X + 2) w' m av cap ∧ Below (X + 2) W1 w' := by
  rcases h with ⟨h, -⟩ | ⟨-, -, h⟩ | ⟨-, h, -⟩
  · rw [h6] at h; cases h
  · exact h
  · rw [h8] at h; cases h
theorem cp_last {W1 w' : World} {X L : Nat} {n : Int} {em : Bool} {m : List Int} {b6 b8 : Bool} {R : Value} (h : CpJ W1 X n em L m b6 b8 R w') (h8 : b8 = true) : ∃ av cap w7, R = .slice av L cap ∧ MOwn (X + 2) w7 m av cap ∧ Below (X + 2) W1 w7 ∧ w' = ((w7.setCell ⟨X + 1, 0, none⟩ (.int .i64 n)).setCell ⟨X + 1, 1, none⟩ (.bool em)).setCell ⟨X + 1, 2, none⟩ (.slice av L cap) := by
  rcases h with ⟨-, h, -⟩ | ⟨-, h, -⟩ | ⟨-, -, h⟩
  · rw [h8] at h; cases h
  · rw [h8] at h; cases h
  · exact h
theorem cp_cell {W1 w' : World} {X L : Nat} {n : Int} {em : Bool} {m : List Int} {b6 b8 : Bool} {R : Value} {cs : Array Value} {t : TypeId} (h : CpJ W1 X n em L m b6 b8 R w') (h8 : b8 = false) (hx : Blk W1 X cs t) (_hs : W1.heap.size = X + 2) (k : Nat) : w'.cell? ⟨X, k, none⟩ = cs[k]? := by
  rcases h with ⟨-, -, rfl⟩ | ⟨-, -, av, cap, -, -, hb⟩ | ⟨-, h, -⟩
  · exact hx.cell k
  · exact (hx.below hb (by omega)).cell k
  · rw [h8] at h; cases h
theorem cp_y {W1 w' : World} {X : Nat} {cs : Array Value} {t : TypeId} (hy : Blk W1 (X + 1) cs t) (_hs : W1.heap.size = X + 2) (hb : Below (X + 2) W1 w') : Blk w' (X + 1) cs t := hy.below hb (by omega)
theorem cp_keep {W1 w' : World} {X L : Nat} {n : Int} {em : Bool} {m : List Int} {l : Array Bool} {R : Value} {i : Nat} (h : CpJ W1 X n em L m (l.getD 6 false) (l.getD 8 false) R w') (h6 : i ≠ 6) (h8 : i ≠ 8) : CpJ W1 X n em L m ((l.setIfInBounds i true).getD 6 false) ((l.setIfInBounds i true).getD 8 false) R w' := by
  rw [getD_set_ne false h6, getD_set_ne false h8]; exact h
theorem cp_up {W1 w' : World} {X L : Nat} {n : Int} {em : Bool} {m : List Int} {l : Array Bool} {R : Value} {k : Nat} (hl : l.size = k) (h8 : l.getD 8 false = false) (hk : 6 < k) (h : ∃ av cap, R = .slice av L cap ∧ MOwn (X + 2) w' m av cap ∧ Below (X + 2) W1 w') : CpJ W1 X n em L m ((l.setIfInBounds 6 true).getD 6 false) ((l.setIfInBounds 6 true).getD 8 false) R w' :=
  .inr (.inl ⟨up_self (by omega), by rw [getD_set_ne false (by decide)]; exact h8, h⟩)
theorem cp_done {W1 w' : World} {X L : Nat} {n : Int} {em : Bool} {m : List Int} {l : Array Bool} {R : Value} (hl : l.size = 9) (h6 : l.getD 6 false = true) (h : ∃ av cap w7, R = .slice av L cap ∧ MOwn (X + 2) w7 m av cap ∧ Below (X + 2) W1 w7 ∧ w' = ((w7.setCell ⟨X + 1, 0, none⟩ (.int .i64 n)).setCell ⟨X + 1, 1, none⟩ (.bool em)).setCell ⟨X + 1, 2, none⟩ (.slice av L cap)) : CpJ W1 X n em L m ((l.setIfInBounds 8 true).getD 6 false) ((l.setIfInBounds 8 true).getD 8 false) R w' :=
  .inr (.inr ⟨by rw [getD_set_ne false (by decide)]; exact h6, up_self (by omega), h⟩)
theorem cp_news {W1 w' : World} {m : List Int} {b ob : Nat} (hw : w' = W1.drew) (hc : ∀ i (h : i < m.length), W1.cell? ⟨b, ob + i, none⟩ = some (.int .i64 m[i])) : ∀ j u, (cvI m)[j]? = some u → w'.cell? ((⟨b, ob, none⟩ : Addr).add j) = some u := fun j u hu => by
  have hj : j < m.length := by
    rcases Nat.lt_or_ge j m.length with h' | h'
    · exact h'
    · rw [List.getElem?_eq_none (by rw [cvI_len]; exact h')] at hu; cases hu
  rw [hw, add_at, show W1.drew.cell? ⟨b, ob + j, none⟩ = W1.cell? ⟨b, ob + j, none⟩ from rfl, hc j hj]
  rw [cvI_at m j hj] at hu
  exact hu
theorem step_app_none0 {w : World} {ops : Array Oper} {o : Oper} {a : Act} {K : Act → World → Prop} {Q : Exit → Act → World → Prop} {E : Prop} (hgd : o.guard = none) (s x : Operand)
    (ho : o.op = .call { callee := .builtin .append, args := #[s, x], argTypes := #[22, 22] }) (hs : a.eval s = .slice none 0 0) (a0 : Option Addr) (c0 : Nat) (hx : a.eval x = .slice a0 0 c0) (h : K (a.put o.dst (.slice none 0 0)) w) :
    if Region.wanted o (yielded ops a.tmps) = true then Oper.wp Try.prog o a w K Q else E := by
  have hw : Region.wanted o (yielded ops a.tmps) = true := by simp [Region.wanted, hgd]
  rw [if_pos hw]
  have hr := app_i64 a0 c0 o.type w
  unfold Oper.wp execOp
  simp only [ho, resolve, invoke, builtin, Sem.run_bind, Sem.run_pure, Result.andThen_ok, List.map_toArray, List.map_cons, List.map_nil, hs, hx, hr]
  exact h
set_option maxRecDepth 100000 in
set_option maxHeartbeats 8000000 in
theorem rcopy_any (n : Int) (em : Bool) (m : List Int) (a : Option Addr) (c : Nat) (w : World) (hx : MAt w m a) (hl : m.length ≤ 16384) :
    Calls Try.prog 49 #[.agg #[.int .i64 n, .bool em, .slice a m.length c]] w fun e w' => ∃ a' c', e = .returned (.agg #[.int .i64 n, .bool em, .slice a' m.length c']) ∧ MOwn w.heap.size w' m a' c' ∧ Below w.heap.size w w' := by
  obtain ⟨i0, hi0, hz0, hz1, hz2⟩ := info_parts info_i64
  have HI := Lib.hid (And.intro hi0 (And.intro hz0 (And.intro hz1 hz2)))
  obtain ⟨X, hX⟩ : ∃ X, w.heap.size = X := ⟨_, rfl⟩
  obtain ⟨L, hL⟩ : ∃ L, m.length = L := ⟨_, rfl⟩
  rw [hL]
  obtain ⟨W1, hW1⟩ : ∃ W, (w.alloc (.cells #[.int .i64 n, .bool em, .slice a L c] 24)).alloc (.cells #[.int .i64 0, .bool false, .slice none 0 0] 24) = W := ⟨_, rfl⟩
  have hx1 : Blk W1 X #[.int .i64 n, .bool em, .slice a L c] 24 := by rw [← hW1, ← hX]; exact (Blk.new w _ _).alloc _
  have hy1 : Blk W1 (X + 1) #[.int .i64 0, .bool false, .slice none 0 0] 24 := by
    have h := Blk.new (w.alloc (.cells #[.int .i64 n, .bool em, .slice a L c] 24)) #[.int .i64 0, .bool false, .slice none 0 0] 24
    rw [World.size_alloc, hX] at h
    rw [← hW1]; exact h
  have hb1 : Below X w W1 := by rw [← hW1, ← hX]; exact ((Below.refl _ w).alloc (Nat.le_refl _) _).alloc (by simp) _
  have hs1 : W1.heap.size = X + 2 := by rw [← hW1, ← hX]; simp
  have HM := Lib.hid (hx.next (by rw [hX]; exact hb1) : MAt W1 m a)
  have HW := Lib.hid (And.intro hX hW1)
  have HL := Lib.hid hL
  have HSM := Lib.hid (show L ≤ 16384 by omega)
  have HB1 := Lib.hid hb1
  clear hX hW1 hb1 hx hL hl hi0 hz0 hz1 hz2
  go_enter Try.func49, Try.ntmps49
  go_upto_region 1 with fail
  simp only [HW.out.1]
  rw [HW.out.2]
  refine wp_region_any (by kernel_rfl) ?_
  refine wpAny_mem3 [some 3, some 4, some 5, some 6, some 7, some 8, some 9, some 10, none] (fun R => valsAt [.pointer (some ⟨X, 0, none⟩), .int .i64 n, .pointer (some ⟨X, 1, none⟩), .bool em, .pointer (some ⟨X, 2, none⟩), .slice a L c, R, .agg #[.int .i64 n, .bool em, R], undef]) (fun l R w' => CpJ W1 X n em L m (l.getD 6 false) (l.getD 8 false) R w') 6 undef rfl ?hvs (by kernel_rfl) (by kernel_rfl) (by kernel_rfl) ?hs ?he ?hj
  case hvs =>
    intro R R' j hj hwait
    rcases j with _ | _ | _ | _ | _ | _ | _ | _ | j
    · rfl
    · rfl
    · rfl
    · rfl
    · rfl
    · rfl
    · exact absurd rfl hj
    · exact (wait_abs (hwait _ rfl) (by kernel_rfl)).elim
    · rfl
  case hj => exact .inl ⟨rfl, rfl, rfl⟩
  case hs =>
    intro qi qo ho hi lz Rz fr0 hl hl0 hup hv hx hcl w' hJ
    have HH := Lib.hid (And.intro hl hJ)
    have hi : qi < 9 := (Array.getElem?_eq_some_iff.1 ho).1
    have hcase : qi = 0 ∨ qi = 1 ∨ qi = 2 ∨ qi = 3 ∨ qi = 4 ∨ qi = 5 ∨ qi = 6 ∨ qi = 7 ∨ qi = 8 := by omega
    clear hi hl hJ
    rcases hcase with rfl | rfl | rfl | rfl | rfl | rfl | rfl | rfl | rfl
    · obtain rfl := Option.some.inj ho.symm
      clear ho
      have x1 : fr0.tmps[(1 : Nat)]? = some (.pointer (some ⟨X, 0, none⟩)) := hx 1 (not_up (by decide))
      have h8 : lz.getD 8 false = false := st_notyet hcl hl0 (j := 8) rfl (by kernel_rfl)
      have c0 := cp_cell HH.out.2 h8 hx1 hs1 0
      have c1 := cp_cell HH.out.2 h8 hx1 hs1 1
      have c2 := cp_cell HH.out.2 h8 hx1 hs1 2
      clear hv hx hcl hl0 hup
      refine wpOp_step rfl (fun K hK => ?_)
      go_simp
      exact hK _ _ ⟨Rz, fun _ => rfl, rfl, cp_keep HH.out.2 (by decide) (by decide)⟩
    · obtain rfl := Option.some.inj ho.symm
      clear ho
      have d0 : fr0.tmps[(3 : Nat)]? = some (.pointer (some ⟨X, 0, none⟩)) := hv ⟨0, .data⟩ (by simp) rfl _ rfl
      have h8 : lz.getD 8 false = false := st_notyet hcl hl0 (j := 8) rfl (by kernel_rfl)
      have c0 := cp_cell HH.out.2 h8 hx1 hs1 0
      have c1 := cp_cell HH.out.2 h8 hx1 hs1 1
      have c2 := cp_cell HH.out.2 h8 hx1 hs1 2
      clear hv hx hcl hl0 hup
      refine wpOp_step rfl (fun K hK => ?_)
      go_simp
      exact hK _ _ ⟨Rz, fun _ => rfl, rfl, cp_keep HH.out.2 (by decide) (by decide)⟩
    · obtain rfl := Option.some.inj ho.symm
      clear ho
      have x1 : fr0.tmps[(1 : Nat)]? = some (.pointer (some ⟨X, 0, none⟩)) := hx 1 (not_up (by decide))
      have h8 : lz.getD 8 false = false := st_notyet hcl hl0 (j := 8) rfl (by kernel_rfl)
      have c0 := cp_cell HH.out.2 h8 hx1 hs1 0
      have c1 := cp_cell HH.out.2 h8 hx1 hs1 1
      have c2 := cp_cell HH.out.2 h8 hx1 hs1 2
      clear hv hx hcl hl0 hup
      refine wpOp_step rfl (fun K hK => ?_)
      go_simp
      exact hK _ _ ⟨Rz, fun _ => rfl, rfl, cp_keep HH.out.2 (by decide) (by decide)⟩
    · obtain rfl := Option.some.inj ho.symm
      clear ho
      have d2 : fr0.tmps[(5 : Nat)]? = some (.pointer (some ⟨X, 1, none⟩)) := hv ⟨2, .data⟩ (by simp) rfl _ rfl
      have h8 : lz.getD 8 false = false := st_notyet hcl hl0 (j := 8) rfl (by kernel_rfl)
      have c0 := cp_cell HH.out.2 h8 hx1 hs1 0
      have c1 := cp_cell HH.out.2 h8 hx1 hs1 1
      have c2 := cp_cell HH.out.2 h8 hx1 hs1 2
      clear hv hx hcl hl0 hup
      refine wpOp_step rfl (fun K hK => ?_)
      go_simp
      exact hK _ _ ⟨Rz, fun _ => rfl, rfl, cp_keep HH.out.2 (by decide) (by decide)⟩
    · obtain rfl := Option.some.inj ho.symm
      clear ho
      have x1 : fr0.tmps[(1 : Nat)]? = some (.pointer (some ⟨X, 0, none⟩)) := hx 1 (not_up (by decide))
      have h8 : lz.getD 8 false = false := st_notyet hcl hl0 (j := 8) rfl (by kernel_rfl)
      have c0 := cp_cell HH.out.2 h8 hx1 hs1 0
      have c1 := cp_cell HH.out.2 h8 hx1 hs1 1
      have c2 := cp_cell HH.out.2 h8 hx1 hs1 2
      clear hv hx hcl hl0 hup
      refine wpOp_step rfl (fun K hK => ?_)
      go_simp
      exact hK _ _ ⟨Rz, fun _ => rfl, rfl, cp_keep HH.out.2 (by decide) (by decide)⟩
    · obtain rfl := Option.some.inj ho.symm
      clear ho
      have d4 : fr0.tmps[(7 : Nat)]? = some (.pointer (some ⟨X, 2, none⟩)) := hv ⟨4, .data⟩ (by simp) rfl _ rfl
      have h8 : lz.getD 8 false = false := st_notyet hcl hl0 (j := 8) rfl (by kernel_rfl)
      have c0 := cp_cell HH.out.2 h8 hx1 hs1 0
      have c1 := cp_cell HH.out.2 h8 hx1 hs1 1
      have c2 := cp_cell HH.out.2 h8 hx1 hs1 2
      clear hv hx hcl hl0 hup
      refine wpOp_step rfl (fun K hK => ?_)
      go_simp
      exact hK _ _ ⟨Rz, fun _ => rfl, rfl, cp_keep HH.out.2 (by decide) (by decide)⟩
    · obtain rfl := Option.some.inj ho.symm
      clear ho
      have d5 : fr0.tmps[(8 : Nat)]? = some (.slice a L c) := hv ⟨5, .data⟩ (by simp) rfl _ rfl
      have h8 : lz.getD 8 false = false := st_notyet hcl hl0 (j := 8) rfl (by kernel_rfl)
      have h6 : lz.getD 6 false = false := up_not hl0
      have hw' := Lib.hid (cp_first HH.out.2 h6)
      clear hv hx hcl hl0 hup
      by_cases h0 : L = 0
      · subst h0
        have hr := fun ty => app_i64 a c ty w'
        refine wpOp_step rfl (fun K hK => ?_)
        refine step_app_none0 rfl _ (.tmp 8) rfl rfl a c (by rw [show fr0.eval (.tmp 8) = fr0.tmps.getD 8 undef from rfl, Array.getD_eq_getD_getElem?, d5]; rfl) ?_
        exact hK _ _ ⟨.slice none 0 0, fun h => absurd rfl h, rfl, cp_up HH.out.1 h8 (by decide) ⟨none, 0, rfl, ⟨by rw [HL.out]; exact Nat.le_refl _, Nat.zero_le _, .inl HL.out⟩, by rw [hw'.out]; exact (Below.refl (X + 2) W1).drew⟩⟩
      · obtain ⟨b, ob, rfl, hc⟩ := HM.out.resolve_left (by rw [HL.out]; exact h0)
        refine wpOp_step rfl (fun K hK => ?_)
        refine step_append_lies _ rfl _ (.tmp 8) 22 rfl (X + 2) 2 i0 _ 1 8 Try.underlying22 HI.out.1 HI.out.2.1 HI.out.2.2.1 HI.out.2.2.2 rfl (by decide) (.slice none 0 0) 0 [] rfl (World.ownsRow_nil _ _ _ _) ⟨b, ob, none⟩ L c (cvI m) (by rw [show fr0.eval (.tmp 8) = fr0.tmps.getD 8 undef from rfl, Array.getD_eq_getD_getElem?, d5]; rfl) (by rw [cvI_len, HL.out]; omega) (cp_news hw'.out hc) (cvI_one _) (by omega) (by unfold maxLen; have := HSM.out; omega) (by have := HSM.out; omega) (by rw [hw'.out]; show X + 2 ≤ W1.heap.size; omega) (X + 2) (by rw [hw'.out]; exact hs1) ?_
        intro g cap w5 hown5 hgrow hat hlt5
        have hb5 : Below (X + 2) W1 w5 := by
          have h := co_below hgrow
          rw [hw'.out] at h
          exact ((Below.refl (X + 2) W1).drew).trans (h.mono (by show X + 2 ≤ W1.heap.size; omega))
        simp only [Nat.zero_add, List.nil_append] at hown5
        rw [← HL.out] at hown5
        obtain ⟨a', c', he, hmo⟩ := own_mown hown5
        cases he
        have hnn : 0 + L = L := Nat.zero_add L
        exact hK _ _ ⟨.slice (some ⟨g, 0, none⟩) (0 + L) cap, fun h => absurd rfl h, rfl, cp_up HH.out.1 h8 (by decide) ⟨some ⟨g, 0, none⟩, cap, by rw [hnn], hmo, hb5⟩⟩
    · obtain rfl := Option.some.inj ho.symm
      clear ho
      have d1 : fr0.tmps[(4 : Nat)]? = some (.int .i64 n) := hv ⟨1, .data⟩ (by simp) rfl _ rfl
      have d3 : fr0.tmps[(6 : Nat)]? = some (.bool em) := hv ⟨3, .data⟩ (by simp) rfl _ rfl
      have d6 : fr0.tmps[(9 : Nat)]? = some (Rz) := hv ⟨6, .data⟩ (by simp) rfl _ rfl
      have h8 : lz.getD 8 false = false := st_notyet hcl hl0 (j := 8) rfl (by kernel_rfl)
      have h6 : lz.getD 6 false = true := hup ⟨6, .data⟩ (by simp) rfl
      obtain ⟨av, cap, hR, hmo, hbl⟩ := cp_second HH.out.2 h6 h8
      subst hR
      clear hv hx hcl hl0 hup
      clear hmo hbl
      refine wpOp_step rfl (fun K hK => ?_)
      go_simp
      exact hK _ _ ⟨.slice av L cap, fun _ => rfl, rfl, cp_keep HH.out.2 (by decide) (by decide)⟩
    · obtain rfl := Option.some.inj ho.symm
      clear ho
      have d7 : fr0.tmps[(10 : Nat)]? = some (.agg #[.int .i64 n, .bool em, Rz]) := hv ⟨7, .data⟩ (by simp) rfl _ rfl
      have x2 : fr0.tmps[(2 : Nat)]? = some (.pointer (some ⟨(X + 1), 0, none⟩)) := hx 2 (not_up (by decide))
      have h8 : lz.getD 8 false = false := up_not hl0
      have h7 : lz.getD 7 false = true := hup ⟨7, .data⟩ (by simp) rfl
      have h6 : lz.getD 6 false = true := hcl 7 _ rfl h7 ⟨6, .data⟩ (by simp) rfl
      obtain ⟨av, cap, hR, hmo, hbl⟩ := cp_second HH.out.2 h6 h8
      subst hR
      clear hv hx hcl hl0 hup
      have hyw := cp_y hy1 hs1 hbl
      have q3 := hyw.free 0
      have q4 := hyw.free 1
      have q5 := hyw.free 2
      have q0 := hyw.cell 0
      have q1 := hyw.cell 1
      have q2 := hyw.cell 2
      have HB := Lib.hid (And.intro hmo hbl)
      clear hmo hbl hyw
      refine wpOp_step rfl (fun K hK => ?_)
      go_simp
      exact hK _ _ ⟨.slice av L cap, fun _ => rfl, rfl, cp_done HH.out.1 h6 ⟨av, cap, _, rfl, HB.out.1, HB.out.2, rfl⟩⟩
  case he =>
    intro lz Rz w' hall hJ
    simp only [putM, valsAt, Nat.reduceAdd, Nat.zero_add, List.getD_cons_zero, List.getD_cons_succ, Act.put, List.setIfInBounds_toArray, List.set_cons_succ, List.set_cons_zero]
    obtain ⟨av, cap, w7, hR, hmo, hbl, hw'⟩ := cp_last hJ (hall 8 (by decide))
    subst hR
    rw [hw']
    have hyw := cp_y hy1 hs1 hbl
    have HB := Lib.hid (And.intro hyw (And.intro hmo hbl))
    clear hw' hJ hall hmo hbl hyw
    go_wp2_with fail
    refine bodyPost_ret (results_cell_row rfl _ _ (X + 1) _ #[.int .i64 n, .bool em, .slice av L cap] _ _ rfl (set3_blk HB.out.1) rfl rfl (by kernel_rfl)) rfl ?_
    refine ⟨av, cap, rfl, ?_, ?_⟩
    · rw [HW.out.1]; exact (HB.out.2.1.set3 (by omega)).lower (by omega)
    · rw [HW.out.1]; exact set3_below (HB1.out.trans (HB.out.2.2.mono (by omega))) (by omega)
end Go.Proofs.Ythnefcafhpioaaa
