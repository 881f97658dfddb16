/-
  The places of an octagon as an iterator that turns nothing; the iterator that Cells hands back, likewise.
-/
import Derived.Test.YthnefcafhpioaaaSeqN
import Derived.Test.YthnefcafhpioaaaDfA
namespace Go.Proofs.Ythnefcafhpioaaa
open Go Go.RowKit Go.Shelf

set_option maxRecDepth 100000 in
set_option maxHeartbeats 4000000 in
theorem places1_seqN (N b : Nat) (hN : N ≤ 64) (w : World) : SeqN 0 Try.prog 66 #[.pointer (some ⟨b, 0, none⟩)] encP (allP (2 * N)) (NAt b N) w := fun l J Jx W hW hJ hJx hK hY h0 => by
  have HJ := Lib.hid hJ; clear hJ
  have HJx := Lib.hid hJx; clear hJx
  have HY := Lib.hid hY; clear hY
  have HK := Lib.hid hK
  have h00 : W.cell? ⟨b, 0, none⟩ = some (.int .i64 N) := hK _ _ h0
  clear hK hW
  obtain ⟨Z, hZ⟩ : ∃ Z, W.heap.size = Z := ⟨_, rfl⟩
  have HZ := Lib.hid hZ
  clear hZ
  have hw2 : wrap64 (2 * (N : Int)) = ((2 * N : Nat) : Int) := by rw [IntWalk.wrap64_in _ (by omega)]; omega
  obtain ⟨n, hn⟩ : ∃ n, 2 * N = n := ⟨_, rfl⟩
  have hn128 : n ≤ 128 := by omega
  rw [hn] at hw2 HY ⊢
  refine (callsIn_wide (n := 3)).1 ?_
  refine callsIn_of_wp Try.func66 rfl trivial ?_ rfl
  simp only [Try.ntmps66, List.size_toArray, List.length_cons, List.length_nil, Nat.reduceAdd, Nat.reduceSub, Array.replicate_succ, Array.replicate_zero, List.push_toArray, List.append_toArray, List.nil_append, List.cons_append]
  gi_wp2
  gi_loopw [7] (fun x wr => ∃ i : Nat, x = .int .i64 i ∧ i ≤ n ∧ J (preP n i 0) wr ∧ Z ≤ wr.heap.size) (fun x _ => n - (intOf x).toNat)
  case atStart => exact ⟨0, rfl, by omega, h0, by rw [HZ.out]; exact Nat.le_refl _⟩
  case round =>
    obtain ⟨i, rfl, hi, hj, hz⟩ := hrel
    have HZZ := Lib.hid hz
    clear hz
    by_cases hlt : i < n
    · have cw : wr.cell? ⟨b, 0, none⟩ = some (.int .i64 N) := HK.out _ _ hj
      have k1 : ((i : Int) < 2 * (N : Int)) := by omega
      gi_wp2
      gi_loopw [12] (fun x wr => ∃ j : Nat, x = .int .i64 j ∧ j ≤ n ∧ J (preP n i j) wr ∧ Z ≤ wr.heap.size) (fun x _ => n - (intOf x).toNat)
      case atStart => exact ⟨0, rfl, by omega, hj, HZZ.out⟩
      case round =>
        clear cw hj
        obtain ⟨j, rfl, hj, hJ, hz⟩ := hrel
        clear HZZ
        have HZZ := Lib.hid hz
        clear hz
        by_cases hjt : j < n
        · have k2 : ((j : Int) < 2 * (N : Int)) := by omega
          obtain ⟨fn, tmps, assign, body, hy, hR⟩ := HY.out _ (i, j) _ hJ (by rw [preP_j]; exact preP_pre hlt (by omega)) (by rw [HZ.out]; exact HZZ.out)
          dsimp only [encP] at hy
          gi_wp2
          refine hR.mono ?_
          clear hy hR
          rw [preP_j]
          rintro e W3 (⟨rfl, hj3, ha3⟩ | ⟨rfl, hjx3, ha3⟩)
          · gi_wp2
            go_roundw
            case rel => exact ⟨j + 1, by go_num, by omega, hj3, Nat.le_trans HZZ.out ha3.size⟩
            case measure => simp [intOf]; omega
          · gi_wp2
            refine bodyPost_ret (results_none rfl _ _ _) rfl ?_
            exact ⟨⟨_, rfl⟩, .inr ⟨_, by rw [← preP_j]; rw [preP_j]; exact preP_pre hlt (by omega), hjx3⟩⟩
        · have k2 : 2 * (N : Int) ≤ (j : Int) := by omega
          obtain rfl : j = n := by omega
          rw [preP_i] at hJ
          gi_wp2
          go_roundw
          case rel => exact ⟨i + 1, by go_num, by omega, hJ, HZZ.out⟩
          case measure => simp [intOf]; omega
    · have k1 : 2 * (N : Int) ≤ (i : Int) := by omega
      obtain rfl : i = n := by omega
      rw [preP_all] at hj
      gi_wp2
      go_end0
      exact ⟨⟨_, rfl⟩, .inl hj⟩
/-- What holds between the iterator's rounds stays where only its own blocks turn. -/
theorem CeI.nb {J : List ((Nat × Nat) × Int) → World → Prop} {n N : Nat} {m : List Int} {B0 l Z S : Nat} {pre : List (Nat × Nat)} {A B : World} (h : CeI J n N m B0 (B0 + 1) l pre A) (hJ : ∀ pre A B, J pre A → Nb Z (Z + 4) A B → J pre B) (hZ : Z = B0) (hS : S = B0 + 2) (hb : Nb S (S + 2 + 0) A B) : CeI J n N m B0 (B0 + 1) l pre B := ⟨hJ _ _ _ h.j (hb.widen (by omega) (by omega)), hb.blk h.b0 (.inl (by omega)), hb.blk h.bv (.inl (by omega))⟩
attribute [local go_sem] Oper.semAt_some
set_option maxRecDepth 100000 in
set_option maxHeartbeats 16000000 in
theorem cells2_seqN (N X Y : Nat) (hN : N ≤ 64) (m : List Int) (a : Option Addr) (L c : Nat) (hlen : m.length = 2 * N * (2 * N)) (hL : m.length = L) (w : World) : SeqN 4 Try.prog 57 #[.pointer (some ⟨X, 0, none⟩), .pointer (some ⟨Y, 0, none⟩)] encC (celL (2 * N) m (allP (2 * N))) (CAt X Y N m a L c) w := fun l J Jx W hW hJ hJx hK hY h0 => by
  have HJS := Lib.hid hJ; clear hJ
  have HJx := Lib.hid hJx; clear hJx
  have HY := Lib.hid hY; clear hY
  have HK := Lib.hid hK; clear hK
  clear hW
  obtain ⟨B0, hB0⟩ : ∃ B, W.heap.size = B := ⟨_, rfl⟩
  obtain ⟨W1, hW1⟩ : ∃ W1, W.alloc (.cells #[.func (.yield l) #[] #[]] 82) = W1 := ⟨_, rfl⟩
  have hb1 : Below B0 W W1 := by rw [← hW1, ← hB0]; exact (Below.refl _ W).alloc (Nat.le_refl _) _
  have hs1 : W1.heap.size = B0 + 1 := by rw [← hW1, ← hB0]; simp
  have hx1 : Blk W1 B0 #[.func (.yield l) #[] #[]] 82 := by rw [← hW1, ← hB0]; exact Blk.new W _ _
  have hj1 : J [] W1 := HJS.out _ _ _ h0 (Nb.of hb1 hB0.symm (Nat.le_refl _))
  have u0 : W1.cell? ⟨X, 0, none⟩ = some (.int .i64 N) := (HK.out _ _ hj1).1
  have HW := Lib.hid (And.intro hB0 hW1)
  have HB := Lib.hid (And.intro hx1 (And.intro hj1 hs1))
  clear hB0 hW1 hb1 hs1 hx1 hj1 h0
  have HZ := Lib.hid (And.intro hN (And.intro hlen hL))
  clear hlen hL
  refine calls_of_wp_marks Try.func57 rfl ?_
  simp only [Try.ntmps57, List.size_toArray, List.length_cons, List.length_nil, Nat.reduceAdd, Nat.reduceSub, Array.replicate_succ, Array.replicate_zero, List.push_toArray, List.append_toArray, List.nil_append, List.cons_append]
  go_upto_region 1 with fail
  rw [HW.out.2]
  simp only [HW.out.1]
  go_wp2_with (go_at_call 51; ((with_reducible refine (places_any N _).mono ?_); rintro e w' ⟨rfl, rfl⟩))
  obtain ⟨W0, hW0⟩ : ∃ W0, W1.alloc (.cells #[.int .i64 N] 3) = W0 := ⟨_, rfl⟩
  have hb0 : Below (B0 + 1) W1 W0 := by rw [← hW0, ← HB.out.2.2]; exact (Below.refl _ W1).alloc (Nat.le_refl _) _
  have hz0 : W0.heap.size = B0 + 2 := by rw [← hW0, World.size_alloc, HB.out.2.2]
  have hn0 : Blk W0 (B0 + 1) #[.int .i64 N] 3 := by rw [← hW0, ← HB.out.2.2]; exact Blk.new W1 _ _
  have hI0 : CeI J (2 * N) N m B0 (B0 + 1) l [] W0 := ⟨HJS.out _ _ _ HB.out.2.1 (Nb.of hb0 HB.out.2.2.symm (by have := HW.out.1; have := HB.out.2.2; omega)), HB.out.1.below hb0 (by omega), hn0⟩
  rw [HB.out.2.2, hW0]
  clear hW0 hb0 hn0 u0 HB
  have HZ0 := Lib.hid hz0
  have hWB := HW.out.1
  refine wp_rangeFunc_oneN (own := 0) (gf := 66) (lb := #[.pointer (some ⟨B0 + 1, 0, none⟩)]) rfl (enters_of Try.func66 (by kernel_rfl) rfl)
    (places1_seqN N (B0 + 1) hN W0) (Below.refl _ _) (fun _ => rfl)
    (fun pre A => CeI J (2 * N) N m B0 (B0 + 1) l pre A) (fun c pre A => c = .ret ∧ Jx (celL (2 * N) m pre) A)
    (fun pre A B h hb => h.nb HJS.out hWB hz0 hb) (fun c pre A B h hb => ⟨h.1, HJx.out _ _ _ h.2 (hb.widen (by omega) (by omega))⟩)
    (fun pre A h => h.bv.cell 0) hI0 ?round ?done ?stop
  case round =>
    intro lp pre x A hI hpre hle hl2
    obtain ⟨i, j⟩ := x
    obtain ⟨hi, hj⟩ := allP_lt (hpre.subset (by simp : (i, j) ∈ pre ++ [(i, j)]))
    simp only at hi hj
    dsimp only [encP]
    gi_wp2
    refine ⟨Above.refl _ _, fun r o' hr => ?_⟩
    have hI2 := hI.nb (Z := W.heap.size) (S := W0.heap.size) HJS.out hWB hz0 (Nb.put (l := lp) (.loop o') (by omega) (by omega) (by omega))
    obtain ⟨A2, hA2⟩ : ∃ A2, A.putObj lp (.loop o') = A2 := ⟨_, rfl⟩
    have hA2s : W0.heap.size + 2 ≤ A2.heap.size := by rw [← hA2]; simpa using hle
    rw [hA2] at hI2 ⊢
    clear hA2 hr hI hle hl2 hI0
    obtain ⟨k0, k2, hmA⟩ := HK.out _ _ hI2.j
    have hT0 := cell_lt hi hj
    obtain ⟨b, ob, rfl, -⟩ := mat_at hmA (i := i * (2 * N) + j) (by rw [HZ.out.2.1]; exact hT0)
    have cT := gM_at hmA HZ.out.2.1 hi hj
    have HIX := Lib.hid (fun w => index_any N i j hN hi hj w)
    have HFI := Lib.hid (fun w => first_any i j (by omega) (by omega) w)
    have tl : (((i * (2 * N) + j : Nat)) : Int) < (L : Int) := by have h1 := HZ.out.2.1; have h2 := HZ.out.2.2; omega
    obtain ⟨T, hT⟩ : ∃ T, i * (2 * N) + j = T := ⟨_, rfl⟩
    rw [hT] at HIX cT tl
    obtain ⟨C, hC⟩ : ∃ C, gM (2 * N) m i j = C := ⟨_, rfl⟩
    rw [hC] at cT
    obtain ⟨⟨F1, F2⟩, hF⟩ : ∃ z, fstP i j = z := ⟨_, rfl⟩
    rw [hF] at HFI
    simp only at HFI
    have HL : Hid (X < A2.heap.size ∧ Y < A2.heap.size ∧ b < A2.heap.size) := Lib.hid ⟨World.block_lt_of_cell? A2 _ k0, World.block_lt_of_cell? A2 _ k2, World.block_lt_of_cell? A2 _ cT⟩
    have HX := Lib.hid (And.intro k0 k2)
    have HT := Lib.hid cT
    have HI2 := Lib.hid hI2
    have HS2 := Lib.hid hA2s
    have HCF := Lib.hid (And.intro hC (And.intro hF hpre))
    clear k0 k2 hmA cT hT0 hT hi hj hI2 hA2s hC hF hpre hz0 hWB hN
    (try gi_wp2)
    refine wp_region_round (by kernel_rfl) (by kernel_rfl) ?lo ?_
    case lo => rintro ⟨_, _, h⟩; exact h
    refine wpAny_mem3 [some 12, some 13, some 14, some 15, some 16, some 17, some 18, some 19, some 20, some 21, some 6, none, some 7] (fun R => valsAt [.int .i64 (i : Int), .int .i64 (j : Int), .agg #[.int .i64 i, .int .i64 j], .slice (some ⟨b, ob, none⟩) L c, .int .i64 (N : Int), .int .i64 (i : Int), .int .i64 (j : Int), .int .i64 (T : Int), .pointer (some ⟨b, ob + T, none⟩), .int .i64 (C : Int), R, undef, .int .i64 (C : Int)]) (fun l R w' => AlJ A2 (.int .i64 i) (.int .i64 j) (l.getD 10 false) (l.getD 11 false) R w') 10 undef rfl ?hvs (by kernel_rfl) (by kernel_rfl) (by kernel_rfl) ?hs ?he ?hj
    case hvs =>
      intro R R' j hj hwait
      rcases j with _ | _ | _ | _ | _ | _ | _ | _ | _ | _ | _ | _ | _ | j
      · rfl
      · rfl
      · rfl
      · rfl
      · rfl
      · rfl
      · rfl
      · rfl
      · rfl
      · rfl
      · exact absurd rfl hj
      · rfl
      · rfl
      · rfl
    case hj => exact ⟨(Below.refl _ _).drew, fun h => by cases h⟩
    case hs =>
      intro qi qo ho hi lz Rz fr0 hl hl0 hup hv hx hcl w' hJ
      have HH := Lib.hid (And.intro hl hJ)
      clear hl hJ
      have hi : qi < 13 := (Array.getElem?_eq_some_iff.1 ho).1
      have hcase : qi = 0 ∨ qi = 1 ∨ qi = 2 ∨ qi = 3 ∨ qi = 4 ∨ qi = 5 ∨ qi = 6 ∨ qi = 7 ∨ qi = 8 ∨ qi = 9 ∨ qi = 10 ∨ qi = 11 ∨ qi = 12 := by omega
      clear hi
      rcases hcase with rfl | rfl | rfl | rfl | rfl | rfl | rfl | rfl | rfl | rfl | rfl | rfl | rfl
      · obtain rfl := Option.some.inj ho.symm
        clear ho
        have x4 : fr0.tmps[(4 : Nat)]? = some (.int .i64 (i : Int)) := hx 4 (not_up (by decide))
        have c0 : w'.cell? ⟨X, 0, none⟩ = some (.int .i64 N) := (HH.out.2.1.cell (p := ⟨X, 0, none⟩) HL.out.1).trans HX.out.1
        have c2 : w'.cell? ⟨Y, 0, none⟩ = some (.slice (some ⟨b, ob, none⟩) L c) := (HH.out.2.1.cell (p := ⟨Y, 0, none⟩) HL.out.2.1).trans HX.out.2
        have cT : w'.cell? ⟨b, ob + T, none⟩ = some (.int .i64 C) := (HH.out.2.1.cell (p := ⟨b, ob + T, none⟩) HL.out.2.2).trans HT.out
        clear hv hx hcl hl0 hup
        refine wpOp_step rfl (fun K hK => ?_)
        go_simp
        exact hK _ _ ⟨Rz, fun _ => rfl, rfl, al_keep HH.out.2 (by decide) (by decide)⟩
      · obtain rfl := Option.some.inj ho.symm
        clear ho
        have x5 : fr0.tmps[(5 : Nat)]? = some (.int .i64 (j : Int)) := hx 5 (not_up (by decide))
        have c0 : w'.cell? ⟨X, 0, none⟩ = some (.int .i64 N) := (HH.out.2.1.cell (p := ⟨X, 0, none⟩) HL.out.1).trans HX.out.1
        have c2 : w'.cell? ⟨Y, 0, none⟩ = some (.slice (some ⟨b, ob, none⟩) L c) := (HH.out.2.1.cell (p := ⟨Y, 0, none⟩) HL.out.2.1).trans HX.out.2
        have cT : w'.cell? ⟨b, ob + T, none⟩ = some (.int .i64 C) := (HH.out.2.1.cell (p := ⟨b, ob + T, none⟩) HL.out.2.2).trans HT.out
        clear hv hx hcl hl0 hup
        refine wpOp_step rfl (fun K hK => ?_)
        go_simp
        exact hK _ _ ⟨Rz, fun _ => rfl, rfl, al_keep HH.out.2 (by decide) (by decide)⟩
      · obtain rfl := Option.some.inj ho.symm
        clear ho
        have d0 : fr0.tmps[(12 : Nat)]? = some (.int .i64 (i : Int)) := hv ⟨0, .data⟩ (by simp) rfl _ rfl
        have d1 : fr0.tmps[(13 : Nat)]? = some (.int .i64 (j : Int)) := hv ⟨1, .data⟩ (by simp) rfl _ rfl
        have c0 : w'.cell? ⟨X, 0, none⟩ = some (.int .i64 N) := (HH.out.2.1.cell (p := ⟨X, 0, none⟩) HL.out.1).trans HX.out.1
        have c2 : w'.cell? ⟨Y, 0, none⟩ = some (.slice (some ⟨b, ob, none⟩) L c) := (HH.out.2.1.cell (p := ⟨Y, 0, none⟩) HL.out.2.1).trans HX.out.2
        have cT : w'.cell? ⟨b, ob + T, none⟩ = some (.int .i64 C) := (HH.out.2.1.cell (p := ⟨b, ob + T, none⟩) HL.out.2.2).trans HT.out
        clear hv hx hcl hl0 hup
        refine wpOp_step rfl (fun K hK => ?_)
        go_simp
        exact hK _ _ ⟨Rz, fun _ => rfl, rfl, al_keep HH.out.2 (by decide) (by decide)⟩
      · obtain rfl := Option.some.inj ho.symm
        clear ho
        have x2 : fr0.tmps[(2 : Nat)]? = some (.pointer (some ⟨Y, 0, none⟩)) := hx 2 (not_up (by decide))
        have c0 : w'.cell? ⟨X, 0, none⟩ = some (.int .i64 N) := (HH.out.2.1.cell (p := ⟨X, 0, none⟩) HL.out.1).trans HX.out.1
        have c2 : w'.cell? ⟨Y, 0, none⟩ = some (.slice (some ⟨b, ob, none⟩) L c) := (HH.out.2.1.cell (p := ⟨Y, 0, none⟩) HL.out.2.1).trans HX.out.2
        have cT : w'.cell? ⟨b, ob + T, none⟩ = some (.int .i64 C) := (HH.out.2.1.cell (p := ⟨b, ob + T, none⟩) HL.out.2.2).trans HT.out
        clear hv hx hcl hl0 hup
        refine wpOp_step rfl (fun K hK => ?_)
        go_simp
        exact hK _ _ ⟨Rz, fun _ => rfl, rfl, al_keep HH.out.2 (by decide) (by decide)⟩
      · obtain rfl := Option.some.inj ho.symm
        clear ho
        have x1 : fr0.tmps[(1 : Nat)]? = some (.pointer (some ⟨X, 0, none⟩)) := hx 1 (not_up (by decide))
        have c0 : w'.cell? ⟨X, 0, none⟩ = some (.int .i64 N) := (HH.out.2.1.cell (p := ⟨X, 0, none⟩) HL.out.1).trans HX.out.1
        have c2 : w'.cell? ⟨Y, 0, none⟩ = some (.slice (some ⟨b, ob, none⟩) L c) := (HH.out.2.1.cell (p := ⟨Y, 0, none⟩) HL.out.2.1).trans HX.out.2
        have cT : w'.cell? ⟨b, ob + T, none⟩ = some (.int .i64 C) := (HH.out.2.1.cell (p := ⟨b, ob + T, none⟩) HL.out.2.2).trans HT.out
        clear hv hx hcl hl0 hup
        refine wpOp_step rfl (fun K hK => ?_)
        go_simp
        exact hK _ _ ⟨Rz, fun _ => rfl, rfl, al_keep HH.out.2 (by decide) (by decide)⟩
      · obtain rfl := Option.some.inj ho.symm
        clear ho
        have x4 : fr0.tmps[(4 : Nat)]? = some (.int .i64 (i : Int)) := hx 4 (not_up (by decide))
        have c0 : w'.cell? ⟨X, 0, none⟩ = some (.int .i64 N) := (HH.out.2.1.cell (p := ⟨X, 0, none⟩) HL.out.1).trans HX.out.1
        have c2 : w'.cell? ⟨Y, 0, none⟩ = some (.slice (some ⟨b, ob, none⟩) L c) := (HH.out.2.1.cell (p := ⟨Y, 0, none⟩) HL.out.2.1).trans HX.out.2
        have cT : w'.cell? ⟨b, ob + T, none⟩ = some (.int .i64 C) := (HH.out.2.1.cell (p := ⟨b, ob + T, none⟩) HL.out.2.2).trans HT.out
        clear hv hx hcl hl0 hup
        refine wpOp_step rfl (fun K hK => ?_)
        go_simp
        exact hK _ _ ⟨Rz, fun _ => rfl, rfl, al_keep HH.out.2 (by decide) (by decide)⟩
      · obtain rfl := Option.some.inj ho.symm
        clear ho
        have x5 : fr0.tmps[(5 : Nat)]? = some (.int .i64 (j : Int)) := hx 5 (not_up (by decide))
        have c0 : w'.cell? ⟨X, 0, none⟩ = some (.int .i64 N) := (HH.out.2.1.cell (p := ⟨X, 0, none⟩) HL.out.1).trans HX.out.1
        have c2 : w'.cell? ⟨Y, 0, none⟩ = some (.slice (some ⟨b, ob, none⟩) L c) := (HH.out.2.1.cell (p := ⟨Y, 0, none⟩) HL.out.2.1).trans HX.out.2
        have cT : w'.cell? ⟨b, ob + T, none⟩ = some (.int .i64 C) := (HH.out.2.1.cell (p := ⟨b, ob + T, none⟩) HL.out.2.2).trans HT.out
        clear hv hx hcl hl0 hup
        refine wpOp_step rfl (fun K hK => ?_)
        go_simp
        exact hK _ _ ⟨Rz, fun _ => rfl, rfl, al_keep HH.out.2 (by decide) (by decide)⟩
      · obtain rfl := Option.some.inj ho.symm
        clear ho
        have d4 : fr0.tmps[(16 : Nat)]? = some (.int .i64 (N : Int)) := hv ⟨4, .data⟩ (by simp) rfl _ rfl
        have d5 : fr0.tmps[(17 : Nat)]? = some (.int .i64 (i : Int)) := hv ⟨5, .data⟩ (by simp) rfl _ rfl
        have d6 : fr0.tmps[(18 : Nat)]? = some (.int .i64 (j : Int)) := hv ⟨6, .data⟩ (by simp) rfl _ rfl
        have c0 : w'.cell? ⟨X, 0, none⟩ = some (.int .i64 N) := (HH.out.2.1.cell (p := ⟨X, 0, none⟩) HL.out.1).trans HX.out.1
        have c2 : w'.cell? ⟨Y, 0, none⟩ = some (.slice (some ⟨b, ob, none⟩) L c) := (HH.out.2.1.cell (p := ⟨Y, 0, none⟩) HL.out.2.1).trans HX.out.2
        have cT : w'.cell? ⟨b, ob + T, none⟩ = some (.int .i64 C) := (HH.out.2.1.cell (p := ⟨b, ob + T, none⟩) HL.out.2.2).trans HT.out
        clear hv hx hcl hl0 hup
        refine wpOp_step rfl (fun K hK => ?_)
        go_simp
        go_at_call 42
        refine (HIX.out _).mono ?_
        rintro e w2 ⟨rfl, rfl⟩
        exact hK _ _ ⟨Rz, fun _ => rfl, rfl, al_keep HH.out.2 (by decide) (by decide)⟩
      · obtain rfl := Option.some.inj ho.symm
        clear ho
        have d3 : fr0.tmps[(15 : Nat)]? = some (.slice (some ⟨b, ob, none⟩) L c) := hv ⟨3, .data⟩ (by simp) rfl _ rfl
        have d7 : fr0.tmps[(19 : Nat)]? = some (.int .i64 (T : Int)) := hv ⟨7, .data⟩ (by simp) rfl _ rfl
        have c0 : w'.cell? ⟨X, 0, none⟩ = some (.int .i64 N) := (HH.out.2.1.cell (p := ⟨X, 0, none⟩) HL.out.1).trans HX.out.1
        have c2 : w'.cell? ⟨Y, 0, none⟩ = some (.slice (some ⟨b, ob, none⟩) L c) := (HH.out.2.1.cell (p := ⟨Y, 0, none⟩) HL.out.2.1).trans HX.out.2
        have cT : w'.cell? ⟨b, ob + T, none⟩ = some (.int .i64 C) := (HH.out.2.1.cell (p := ⟨b, ob + T, none⟩) HL.out.2.2).trans HT.out
        clear hv hx hcl hl0 hup
        refine wpOp_step rfl (fun K hK => ?_)
        go_simp
        exact hK _ _ ⟨Rz, fun _ => rfl, rfl, al_keep HH.out.2 (by decide) (by decide)⟩
      · obtain rfl := Option.some.inj ho.symm
        clear ho
        have d8 : fr0.tmps[(20 : Nat)]? = some (.pointer (some ⟨b, ob + T, none⟩)) := hv ⟨8, .data⟩ (by simp) rfl _ rfl
        have c0 : w'.cell? ⟨X, 0, none⟩ = some (.int .i64 N) := (HH.out.2.1.cell (p := ⟨X, 0, none⟩) HL.out.1).trans HX.out.1
        have c2 : w'.cell? ⟨Y, 0, none⟩ = some (.slice (some ⟨b, ob, none⟩) L c) := (HH.out.2.1.cell (p := ⟨Y, 0, none⟩) HL.out.2.1).trans HX.out.2
        have cT : w'.cell? ⟨b, ob + T, none⟩ = some (.int .i64 C) := (HH.out.2.1.cell (p := ⟨b, ob + T, none⟩) HL.out.2.2).trans HT.out
        clear hv hx hcl hl0 hup
        refine wpOp_step rfl (fun K hK => ?_)
        go_simp
        exact hK _ _ ⟨Rz, fun _ => rfl, rfl, al_keep HH.out.2 (by decide) (by decide)⟩
      · obtain rfl := Option.some.inj ho.symm
        clear ho
        have hn : lz.getD 11 false = false := st_notyet hcl hl0 (j := 11) rfl (by kernel_rfl)
        clear hv hx hcl hup
        refine wpOp_step rfl (fun K hK => ?_)
        go_simp
        exact hK _ _ ⟨_, fun h => absurd rfl h, rfl, al_new HH.out.2 ((getD_set_ne false (by decide)).trans hn)⟩
      · obtain rfl := Option.some.inj ho.symm
        clear ho
        have d10 : fr0.tmps[(6 : Nat)]? = some (Rz) := hv ⟨10, .data⟩ (by simp) rfl _ rfl
        have d2 : fr0.tmps[(14 : Nat)]? = some (.agg #[.int .i64 i, .int .i64 j]) := hv ⟨2, .data⟩ (by simp) rfl _ rfl
        have h10 : lz.getD 10 false = true := hup ⟨10, .data⟩ (by simp) rfl
        obtain ⟨g, p1, p2, hR, hgA, hBg, -⟩ := HH.out.2.2 h10
        subst hR
        have z0 := hBg.cell 0
        have z1 := hBg.cell 1
        have g0 := hBg.free 0
        have g1 := hBg.free 1
        have HBG := Lib.hid (And.intro hgA hBg)
        clear hgA hBg hv hx hcl hup hl0 h10
        refine wpOp_step rfl (fun K hK => ?_)
        go_simp
        exact hK _ _ ⟨_, fun _ => rfl, rfl, al_store HH.out.2.1 HBG.out.1 HBG.out.2⟩
      · obtain rfl := Option.some.inj ho.symm
        clear ho
        have d9 : fr0.tmps[(21 : Nat)]? = some (.int .i64 (C : Int)) := hv ⟨9, .data⟩ (by simp) rfl _ rfl
        have c0 : w'.cell? ⟨X, 0, none⟩ = some (.int .i64 N) := (HH.out.2.1.cell (p := ⟨X, 0, none⟩) HL.out.1).trans HX.out.1
        have c2 : w'.cell? ⟨Y, 0, none⟩ = some (.slice (some ⟨b, ob, none⟩) L c) := (HH.out.2.1.cell (p := ⟨Y, 0, none⟩) HL.out.2.1).trans HX.out.2
        have cT : w'.cell? ⟨b, ob + T, none⟩ = some (.int .i64 C) := (HH.out.2.1.cell (p := ⟨b, ob + T, none⟩) HL.out.2.2).trans HT.out
        clear hv hx hcl hl0 hup
        refine wpOp_step rfl (fun K hK => ?_)
        go_simp
        exact hK _ _ ⟨Rz, fun _ => rfl, rfl, al_keep HH.out.2 (by decide) (by decide)⟩
    case he =>
      intro lz Rz w' hall hJ
      simp only [putM, valsAt, Nat.reduceAdd, Nat.zero_add, List.getD_cons_zero, List.getD_cons_succ, Act.put, List.setIfInBounds_toArray, List.set_cons_succ, List.set_cons_zero]
      obtain ⟨hb4, hx4⟩ := hJ
      obtain ⟨g, p1, p2, hR, hgA, hBg, hxy⟩ := hx4 (hall 10 (by decide))
      obtain ⟨rfl, rfl⟩ := hxy (hall 11 (by decide))
      subst hR
      obtain ⟨A4, hA4⟩ : ∃ A4, A4 = w' := ⟨_, rfl⟩
      rw [← hA4] at hb4 hBg ⊢
      have h40 := HI2.out.b0.below hb4 HI2.out.b0.lt
      have HG : Hid (g < A4.heap.size ∧ A4.cell? ⟨g, 0, none⟩ = some (.int .i64 i) ∧ A4.cell? ⟨g, 1, none⟩ = some (.int .i64 j) ∧ B0 < A4.heap.size ∧ A4.cell? ⟨B0, 0, none⟩ = some (.func (.yield l) #[] #[])) := Lib.hid ⟨hBg.lt, hBg.cell 0, hBg.cell 1, h40.lt, h40.cell 0⟩
      have HB4 := Lib.hid hb4
      clear hA4 hx4 hxy hgA hBg hb4 h40 hall HT HX HL HIX tl
      have HNX : Hid (∀ w'', celB (2 * N) m (i, j) = false → Below A4.heap.size A4 w'' → Above W0.heap.size A2 w'' ∧ CeI J (2 * N) N m B0 (B0 + 1) l (pre ++ [(i, j)]) w'') := Lib.hid fun w'' hno hb => by
        have hb2 : Below A2.heap.size A2 w'' := HB4.out.trans (hb.mono HB4.out.size)
        have h1 := HI2.out.nb HJS.out HW.out.1 HZ0.out (Nb.of hb2 rfl (by have := HS2.out; omega))
        exact ⟨(Above.refl _ A2).below hb2, by rw [celL_no hno]; exact h1.j, h1.b0, h1.bv⟩
      by_cases kA : C = inf
      · have HNO : Hid (celB (2 * N) m (i, j) = false) := Lib.hid (by unfold celB; simp [HCF.out.1, kA])
        have k1 : (C != 9223372036854775807) = false := by simp [kA]
        clear kA
        gi_wp2
        refine wp_region_round (by kernel_rfl) (by kernel_rfl) ?lo ?_
        case lo => rintro ⟨_, _, h⟩; exact h
        refine wpAny_vals [22, 23, 24, 25, 26, 27, 28, 29, 30, 31, 32, 33, 34, 35, 36, 37, 38, 39, 40, 41, 42] [.int .i64 (C : Int), .bool false, .bool false, undef, undef, undef, .bool false, .bool false, undef, undef, undef, undef, undef, .bool false, .bool false, undef, undef, undef, undef, undef, .bool false] (fun w' => Below A4.heap.size A4 w') rfl (by kernel_rfl) (by decide) (by kernel_rfl) ?hs ?he ?hj
        case hj => exact (Below.refl _ _).drew
        case hs =>
          intro qi qo ho fr0 hv hx w' hJ
          have hi : qi < 21 := (Array.getElem?_eq_some_iff.1 ho).1
          have c0 : w'.cell? ⟨g, 0, none⟩ = some (.int .i64 i) := (hJ.cell (p := ⟨g, 0, none⟩) HG.out.1).trans HG.out.2.1
          have c1 : w'.cell? ⟨g, 1, none⟩ = some (.int .i64 j) := (hJ.cell (p := ⟨g, 1, none⟩) HG.out.1).trans HG.out.2.2.1
          have c3 : w'.cell? ⟨B0, 0, none⟩ = some (.func (.yield l) #[] #[]) := (hJ.cell (p := ⟨B0, 0, none⟩) HG.out.2.2.2.1).trans HG.out.2.2.2.2
          have HJ := Lib.hid hJ
          clear hJ
          have hcase : qi = 0 ∨ qi = 1 ∨ qi = 2 ∨ qi = 3 ∨ qi = 4 ∨ qi = 5 ∨ qi = 6 ∨ qi = 7 ∨ qi = 8 ∨ qi = 9 ∨ qi = 10 ∨ qi = 11 ∨ qi = 12 ∨ qi = 13 ∨ qi = 14 ∨ qi = 15 ∨ qi = 16 ∨ qi = 17 ∨ qi = 18 ∨ qi = 19 ∨ qi = 20 := by omega
          clear hi
          rcases hcase with rfl | rfl | rfl | rfl | rfl | rfl | rfl | rfl | rfl | rfl | rfl | rfl | rfl | rfl | rfl | rfl | rfl | rfl | rfl | rfl | rfl
          · obtain rfl := Option.some.inj ho.symm
            clear ho
            have x7 : fr0.tmps[(7 : Nat)]? = some (.int .i64 (C : Int)) := hx 7 (by decide)
            clear hv hx
            refine wpOp_step rfl (fun K hK => ?_)
            go_simp
            exact hK _ _ ⟨rfl, HJ.out⟩
          · obtain rfl := Option.some.inj ho.symm
            clear ho
            have d0 : fr0.tmps[(22 : Nat)]? = some (.int .i64 (C : Int)) := hv ⟨0, .data⟩ (by simp) rfl
            clear hv hx
            refine wpOp_step rfl (fun K hK => ?_)
            go_simp
            exact hK _ _ ⟨rfl, HJ.out⟩
          · obtain rfl := Option.some.inj ho.symm
            clear ho
            have d1 : fr0.tmps[(23 : Nat)]? = some (.bool false) := hv ⟨1, .data⟩ (by simp) rfl
            clear hv hx
            refine wpOp_step rfl (fun K hK => ?_)
            go_simp
            exact hK _ _ ⟨rfl, HJ.out⟩
          · obtain rfl := Option.some.inj ho.symm
            clear ho
            have d2 : fr0.tmps[(24 : Nat)]? = some (.bool false) := hv ⟨2, .guard⟩ (by simp) rfl
            have x4 : fr0.tmps[(4 : Nat)]? = some (.int .i64 (i : Int)) := hx 4 (by decide)
            clear hv hx
            refine wpOp_step rfl (fun K hK => ?_)
            go_simp
            exact hK _ _ ⟨rfl, HJ.out⟩
          · obtain rfl := Option.some.inj ho.symm
            clear ho
            have d2 : fr0.tmps[(24 : Nat)]? = some (.bool false) := hv ⟨2, .guard⟩ (by simp) rfl
            have x5 : fr0.tmps[(5 : Nat)]? = some (.int .i64 (j : Int)) := hx 5 (by decide)
            clear hv hx
            refine wpOp_step rfl (fun K hK => ?_)
            go_simp
            exact hK _ _ ⟨rfl, HJ.out⟩
          · obtain rfl := Option.some.inj ho.symm
            clear ho
            have d3 : fr0.tmps[(25 : Nat)]? = some (undef) := hv ⟨3, .data⟩ (by simp) rfl
            have d4 : fr0.tmps[(26 : Nat)]? = some (undef) := hv ⟨4, .data⟩ (by simp) rfl
            have d2 : fr0.tmps[(24 : Nat)]? = some (.bool false) := hv ⟨2, .guard⟩ (by simp) rfl
            clear hv hx
            refine wpOp_step rfl (fun K hK => ?_)
            go_simp
            exact hK _ _ ⟨rfl, HJ.out⟩
          · obtain rfl := Option.some.inj ho.symm
            clear ho
            have d2 : fr0.tmps[(24 : Nat)]? = some (.bool false) := hv ⟨2, .data⟩ (by simp) rfl
            have d5 : fr0.tmps[(27 : Nat)]? = some (undef) := hv ⟨5, .data⟩ (by simp) rfl
            clear hv hx
            refine wpOp_step rfl (fun K hK => ?_)
            go_simp
            exact hK _ _ ⟨rfl, HJ.out⟩
          · obtain rfl := Option.some.inj ho.symm
            clear ho
            have d6 : fr0.tmps[(28 : Nat)]? = some (.bool false) := hv ⟨6, .data⟩ (by simp) rfl
            clear hv hx
            refine wpOp_step rfl (fun K hK => ?_)
            go_simp
            exact hK _ _ ⟨rfl, HJ.out⟩
          · obtain rfl := Option.some.inj ho.symm
            clear ho
            have d7 : fr0.tmps[(29 : Nat)]? = some (.bool false) := hv ⟨7, .guard⟩ (by simp) rfl
            have x6 : fr0.tmps[(6 : Nat)]? = some (.pointer (some ⟨g, 0, none⟩)) := hx 6 (by decide)
            clear hv hx
            refine wpOp_step rfl (fun K hK => ?_)
            go_simp
            exact hK _ _ ⟨rfl, HJ.out⟩
          · obtain rfl := Option.some.inj ho.symm
            clear ho
            have d7 : fr0.tmps[(29 : Nat)]? = some (.bool false) := hv ⟨7, .guard⟩ (by simp) rfl
            have x4 : fr0.tmps[(4 : Nat)]? = some (.int .i64 (i : Int)) := hx 4 (by decide)
            clear hv hx
            refine wpOp_step rfl (fun K hK => ?_)
            go_simp
            exact hK _ _ ⟨rfl, HJ.out⟩
          · obtain rfl := Option.some.inj ho.symm
            clear ho
            have d7 : fr0.tmps[(29 : Nat)]? = some (.bool false) := hv ⟨7, .guard⟩ (by simp) rfl
            have x5 : fr0.tmps[(5 : Nat)]? = some (.int .i64 (j : Int)) := hx 5 (by decide)
            clear hv hx
            refine wpOp_step rfl (fun K hK => ?_)
            go_simp
            exact hK _ _ ⟨rfl, HJ.out⟩
          · obtain rfl := Option.some.inj ho.symm
            clear ho
            have d9 : fr0.tmps[(31 : Nat)]? = some (undef) := hv ⟨9, .data⟩ (by simp) rfl
            have d10 : fr0.tmps[(32 : Nat)]? = some (undef) := hv ⟨10, .data⟩ (by simp) rfl
            have d7 : fr0.tmps[(29 : Nat)]? = some (.bool false) := hv ⟨7, .guard⟩ (by simp) rfl
            clear hv hx
            refine wpOp_step rfl (fun K hK => ?_)
            go_simp
            exact hK _ _ ⟨rfl, HJ.out⟩
          · obtain rfl := Option.some.inj ho.symm
            clear ho
            have d8 : fr0.tmps[(30 : Nat)]? = some (undef) := hv ⟨8, .data⟩ (by simp) rfl
            have d11 : fr0.tmps[(33 : Nat)]? = some (undef) := hv ⟨11, .data⟩ (by simp) rfl
            have d7 : fr0.tmps[(29 : Nat)]? = some (.bool false) := hv ⟨7, .guard⟩ (by simp) rfl
            clear hv hx
            refine wpOp_step rfl (fun K hK => ?_)
            go_simp
            exact hK _ _ ⟨rfl, HJ.out⟩
          · obtain rfl := Option.some.inj ho.symm
            clear ho
            have d7 : fr0.tmps[(29 : Nat)]? = some (.bool false) := hv ⟨7, .data⟩ (by simp) rfl
            have d12 : fr0.tmps[(34 : Nat)]? = some (undef) := hv ⟨12, .data⟩ (by simp) rfl
            clear hv hx
            refine wpOp_step rfl (fun K hK => ?_)
            go_simp
            exact hK _ _ ⟨rfl, HJ.out⟩
          · obtain rfl := Option.some.inj ho.symm
            clear ho
            have d13 : fr0.tmps[(35 : Nat)]? = some (.bool false) := hv ⟨13, .data⟩ (by simp) rfl
            clear hv hx
            refine wpOp_step rfl (fun K hK => ?_)
            go_simp
            exact hK _ _ ⟨rfl, HJ.out⟩
          · obtain rfl := Option.some.inj ho.symm
            clear ho
            have d14 : fr0.tmps[(36 : Nat)]? = some (.bool false) := hv ⟨14, .guard⟩ (by simp) rfl
            have x3 : fr0.tmps[(3 : Nat)]? = some (.pointer (some ⟨B0, 0, none⟩)) := hx 3 (by decide)
            clear hv hx
            refine wpOp_step rfl (fun K hK => ?_)
            go_simp
            exact hK _ _ ⟨rfl, HJ.out⟩
          · obtain rfl := Option.some.inj ho.symm
            clear ho
            have d14 : fr0.tmps[(36 : Nat)]? = some (.bool false) := hv ⟨14, .guard⟩ (by simp) rfl
            have x6 : fr0.tmps[(6 : Nat)]? = some (.pointer (some ⟨g, 0, none⟩)) := hx 6 (by decide)
            clear hv hx
            refine wpOp_step rfl (fun K hK => ?_)
            go_simp
            exact hK _ _ ⟨rfl, HJ.out⟩
          · obtain rfl := Option.some.inj ho.symm
            clear ho
            have d14 : fr0.tmps[(36 : Nat)]? = some (.bool false) := hv ⟨14, .guard⟩ (by simp) rfl
            have x7 : fr0.tmps[(7 : Nat)]? = some (.int .i64 (C : Int)) := hx 7 (by decide)
            clear hv hx
            refine wpOp_step rfl (fun K hK => ?_)
            go_simp
            exact hK _ _ ⟨rfl, HJ.out⟩
          · obtain rfl := Option.some.inj ho.symm
            clear ho
            have d15 : fr0.tmps[(37 : Nat)]? = some (undef) := hv ⟨15, .data⟩ (by simp) rfl
            have d16 : fr0.tmps[(38 : Nat)]? = some (undef) := hv ⟨16, .data⟩ (by simp) rfl
            have d17 : fr0.tmps[(39 : Nat)]? = some (undef) := hv ⟨17, .data⟩ (by simp) rfl
            have d14 : fr0.tmps[(36 : Nat)]? = some (.bool false) := hv ⟨14, .guard⟩ (by simp) rfl
            clear hv hx
            refine wpOp_step rfl (fun K hK => ?_)
            go_simp
            exact hK _ _ ⟨rfl, HJ.out⟩
          · obtain rfl := Option.some.inj ho.symm
            clear ho
            have d18 : fr0.tmps[(40 : Nat)]? = some (undef) := hv ⟨18, .data⟩ (by simp) rfl
            have d14 : fr0.tmps[(36 : Nat)]? = some (.bool false) := hv ⟨14, .guard⟩ (by simp) rfl
            clear hv hx
            refine wpOp_step rfl (fun K hK => ?_)
            go_simp
            exact hK _ _ ⟨rfl, HJ.out⟩
          · obtain rfl := Option.some.inj ho.symm
            clear ho
            have d14 : fr0.tmps[(36 : Nat)]? = some (.bool false) := hv ⟨14, .data⟩ (by simp) rfl
            have d19 : fr0.tmps[(41 : Nat)]? = some (undef) := hv ⟨19, .data⟩ (by simp) rfl
            clear hv hx
            refine wpOp_step rfl (fun K hK => ?_)
            go_simp
            exact hK _ _ ⟨rfl, HJ.out⟩
        case he =>
          intro w' hJ
          simp only [putF, valsAt, Nat.reduceAdd, Nat.zero_add, List.getD_cons_zero, List.getD_cons_succ, Act.put, List.setIfInBounds_toArray, List.set_cons_succ, List.set_cons_zero]
          gi_wp2
          exact HNX.out _ HNO.out hJ
      · have k1 : (C != 9223372036854775807) = true := by simpa using kA
        by_cases kB : i = j
        · have HNO : Hid (celB (2 * N) m (i, j) = false) := Lib.hid (by unfold celB; simp [kB])
          have k2 : ((i : Int) != (j : Int)) = false := by simp [kB]
          clear kA kB
          gi_wp2
          refine wp_region_round (by kernel_rfl) (by kernel_rfl) ?lo ?_
          case lo => rintro ⟨_, _, h⟩; exact h
          refine wpAny_vals [22, 23, 24, 25, 26, 27, 28, 29, 30, 31, 32, 33, 34, 35, 36, 37, 38, 39, 40, 41, 42] [.int .i64 (C : Int), .bool true, .bool true, .int .i64 (i : Int), .int .i64 (j : Int), .bool false, .bool false, .bool false, undef, undef, undef, undef, undef, .bool false, .bool false, undef, undef, undef, undef, undef, .bool false] (fun w' => Below A4.heap.size A4 w') rfl (by kernel_rfl) (by decide) (by kernel_rfl) ?hs ?he ?hj
          case hj => exact (Below.refl _ _).drew
          case hs =>
            intro qi qo ho fr0 hv hx w' hJ
            have hi : qi < 21 := (Array.getElem?_eq_some_iff.1 ho).1
            have c0 : w'.cell? ⟨g, 0, none⟩ = some (.int .i64 i) := (hJ.cell (p := ⟨g, 0, none⟩) HG.out.1).trans HG.out.2.1
            have c1 : w'.cell? ⟨g, 1, none⟩ = some (.int .i64 j) := (hJ.cell (p := ⟨g, 1, none⟩) HG.out.1).trans HG.out.2.2.1
            have c3 : w'.cell? ⟨B0, 0, none⟩ = some (.func (.yield l) #[] #[]) := (hJ.cell (p := ⟨B0, 0, none⟩) HG.out.2.2.2.1).trans HG.out.2.2.2.2
            have HJ := Lib.hid hJ
            clear hJ
            have hcase : qi = 0 ∨ qi = 1 ∨ qi = 2 ∨ qi = 3 ∨ qi = 4 ∨ qi = 5 ∨ qi = 6 ∨ qi = 7 ∨ qi = 8 ∨ qi = 9 ∨ qi = 10 ∨ qi = 11 ∨ qi = 12 ∨ qi = 13 ∨ qi = 14 ∨ qi = 15 ∨ qi = 16 ∨ qi = 17 ∨ qi = 18 ∨ qi = 19 ∨ qi = 20 := by omega
            clear hi
            rcases hcase with rfl | rfl | rfl | rfl | rfl | rfl | rfl | rfl | rfl | rfl | rfl | rfl | rfl | rfl | rfl | rfl | rfl | rfl | rfl | rfl | rfl
            · obtain rfl := Option.some.inj ho.symm
              clear ho
              have x7 : fr0.tmps[(7 : Nat)]? = some (.int .i64 (C : Int)) := hx 7 (by decide)
              clear hv hx
              refine wpOp_step rfl (fun K hK => ?_)
              go_simp
              exact hK _ _ ⟨rfl, HJ.out⟩
            · obtain rfl := Option.some.inj ho.symm
              clear ho
              have d0 : fr0.tmps[(22 : Nat)]? = some (.int .i64 (C : Int)) := hv ⟨0, .data⟩ (by simp) rfl
              clear hv hx
              refine wpOp_step rfl (fun K hK => ?_)
              go_simp
              exact hK _ _ ⟨rfl, HJ.out⟩
            · obtain rfl := Option.some.inj ho.symm
              clear ho
              have d1 : fr0.tmps[(23 : Nat)]? = some (.bool true) := hv ⟨1, .data⟩ (by simp) rfl
              clear hv hx
              refine wpOp_step rfl (fun K hK => ?_)
              go_simp
              exact hK _ _ ⟨rfl, HJ.out⟩
            · obtain rfl := Option.some.inj ho.symm
              clear ho
              have d2 : fr0.tmps[(24 : Nat)]? = some (.bool true) := hv ⟨2, .guard⟩ (by simp) rfl
              have x4 : fr0.tmps[(4 : Nat)]? = some (.int .i64 (i : Int)) := hx 4 (by decide)
              clear hv hx
              refine wpOp_step rfl (fun K hK => ?_)
              go_simp
              exact hK _ _ ⟨rfl, HJ.out⟩
            · obtain rfl := Option.some.inj ho.symm
              clear ho
              have d2 : fr0.tmps[(24 : Nat)]? = some (.bool true) := hv ⟨2, .guard⟩ (by simp) rfl
              have x5 : fr0.tmps[(5 : Nat)]? = some (.int .i64 (j : Int)) := hx 5 (by decide)
              clear hv hx
              refine wpOp_step rfl (fun K hK => ?_)
              go_simp
              exact hK _ _ ⟨rfl, HJ.out⟩
            · obtain rfl := Option.some.inj ho.symm
              clear ho
              have d3 : fr0.tmps[(25 : Nat)]? = some (.int .i64 (i : Int)) := hv ⟨3, .data⟩ (by simp) rfl
              have d4 : fr0.tmps[(26 : Nat)]? = some (.int .i64 (j : Int)) := hv ⟨4, .data⟩ (by simp) rfl
              have d2 : fr0.tmps[(24 : Nat)]? = some (.bool true) := hv ⟨2, .guard⟩ (by simp) rfl
              clear hv hx
              refine wpOp_step rfl (fun K hK => ?_)
              go_simp
              exact hK _ _ ⟨rfl, HJ.out⟩
            · obtain rfl := Option.some.inj ho.symm
              clear ho
              have d2 : fr0.tmps[(24 : Nat)]? = some (.bool true) := hv ⟨2, .data⟩ (by simp) rfl
              have d5 : fr0.tmps[(27 : Nat)]? = some (.bool false) := hv ⟨5, .data⟩ (by simp) rfl
              clear hv hx
              refine wpOp_step rfl (fun K hK => ?_)
              go_simp
              exact hK _ _ ⟨rfl, HJ.out⟩
            · obtain rfl := Option.some.inj ho.symm
              clear ho
              have d6 : fr0.tmps[(28 : Nat)]? = some (.bool false) := hv ⟨6, .data⟩ (by simp) rfl
              clear hv hx
              refine wpOp_step rfl (fun K hK => ?_)
              go_simp
              exact hK _ _ ⟨rfl, HJ.out⟩
            · obtain rfl := Option.some.inj ho.symm
              clear ho
              have d7 : fr0.tmps[(29 : Nat)]? = some (.bool false) := hv ⟨7, .guard⟩ (by simp) rfl
              have x6 : fr0.tmps[(6 : Nat)]? = some (.pointer (some ⟨g, 0, none⟩)) := hx 6 (by decide)
              clear hv hx
              refine wpOp_step rfl (fun K hK => ?_)
              go_simp
              exact hK _ _ ⟨rfl, HJ.out⟩
            · obtain rfl := Option.some.inj ho.symm
              clear ho
              have d7 : fr0.tmps[(29 : Nat)]? = some (.bool false) := hv ⟨7, .guard⟩ (by simp) rfl
              have x4 : fr0.tmps[(4 : Nat)]? = some (.int .i64 (i : Int)) := hx 4 (by decide)
              clear hv hx
              refine wpOp_step rfl (fun K hK => ?_)
              go_simp
              exact hK _ _ ⟨rfl, HJ.out⟩
            · obtain rfl := Option.some.inj ho.symm
              clear ho
              have d7 : fr0.tmps[(29 : Nat)]? = some (.bool false) := hv ⟨7, .guard⟩ (by simp) rfl
              have x5 : fr0.tmps[(5 : Nat)]? = some (.int .i64 (j : Int)) := hx 5 (by decide)
              clear hv hx
              refine wpOp_step rfl (fun K hK => ?_)
              go_simp
              exact hK _ _ ⟨rfl, HJ.out⟩
            · obtain rfl := Option.some.inj ho.symm
              clear ho
              have d9 : fr0.tmps[(31 : Nat)]? = some (undef) := hv ⟨9, .data⟩ (by simp) rfl
              have d10 : fr0.tmps[(32 : Nat)]? = some (undef) := hv ⟨10, .data⟩ (by simp) rfl
              have d7 : fr0.tmps[(29 : Nat)]? = some (.bool false) := hv ⟨7, .guard⟩ (by simp) rfl
              clear hv hx
              refine wpOp_step rfl (fun K hK => ?_)
              go_simp
              exact hK _ _ ⟨rfl, HJ.out⟩
            · obtain rfl := Option.some.inj ho.symm
              clear ho
              have d8 : fr0.tmps[(30 : Nat)]? = some (undef) := hv ⟨8, .data⟩ (by simp) rfl
              have d11 : fr0.tmps[(33 : Nat)]? = some (undef) := hv ⟨11, .data⟩ (by simp) rfl
              have d7 : fr0.tmps[(29 : Nat)]? = some (.bool false) := hv ⟨7, .guard⟩ (by simp) rfl
              clear hv hx
              refine wpOp_step rfl (fun K hK => ?_)
              go_simp
              exact hK _ _ ⟨rfl, HJ.out⟩
            · obtain rfl := Option.some.inj ho.symm
              clear ho
              have d7 : fr0.tmps[(29 : Nat)]? = some (.bool false) := hv ⟨7, .data⟩ (by simp) rfl
              have d12 : fr0.tmps[(34 : Nat)]? = some (undef) := hv ⟨12, .data⟩ (by simp) rfl
              clear hv hx
              refine wpOp_step rfl (fun K hK => ?_)
              go_simp
              exact hK _ _ ⟨rfl, HJ.out⟩
            · obtain rfl := Option.some.inj ho.symm
              clear ho
              have d13 : fr0.tmps[(35 : Nat)]? = some (.bool false) := hv ⟨13, .data⟩ (by simp) rfl
              clear hv hx
              refine wpOp_step rfl (fun K hK => ?_)
              go_simp
              exact hK _ _ ⟨rfl, HJ.out⟩
            · obtain rfl := Option.some.inj ho.symm
              clear ho
              have d14 : fr0.tmps[(36 : Nat)]? = some (.bool false) := hv ⟨14, .guard⟩ (by simp) rfl
              have x3 : fr0.tmps[(3 : Nat)]? = some (.pointer (some ⟨B0, 0, none⟩)) := hx 3 (by decide)
              clear hv hx
              refine wpOp_step rfl (fun K hK => ?_)
              go_simp
              exact hK _ _ ⟨rfl, HJ.out⟩
            · obtain rfl := Option.some.inj ho.symm
              clear ho
              have d14 : fr0.tmps[(36 : Nat)]? = some (.bool false) := hv ⟨14, .guard⟩ (by simp) rfl
              have x6 : fr0.tmps[(6 : Nat)]? = some (.pointer (some ⟨g, 0, none⟩)) := hx 6 (by decide)
              clear hv hx
              refine wpOp_step rfl (fun K hK => ?_)
              go_simp
              exact hK _ _ ⟨rfl, HJ.out⟩
            · obtain rfl := Option.some.inj ho.symm
              clear ho
              have d14 : fr0.tmps[(36 : Nat)]? = some (.bool false) := hv ⟨14, .guard⟩ (by simp) rfl
              have x7 : fr0.tmps[(7 : Nat)]? = some (.int .i64 (C : Int)) := hx 7 (by decide)
              clear hv hx
              refine wpOp_step rfl (fun K hK => ?_)
              go_simp
              exact hK _ _ ⟨rfl, HJ.out⟩
            · obtain rfl := Option.some.inj ho.symm
              clear ho
              have d15 : fr0.tmps[(37 : Nat)]? = some (undef) := hv ⟨15, .data⟩ (by simp) rfl
              have d16 : fr0.tmps[(38 : Nat)]? = some (undef) := hv ⟨16, .data⟩ (by simp) rfl
              have d17 : fr0.tmps[(39 : Nat)]? = some (undef) := hv ⟨17, .data⟩ (by simp) rfl
              have d14 : fr0.tmps[(36 : Nat)]? = some (.bool false) := hv ⟨14, .guard⟩ (by simp) rfl
              clear hv hx
              refine wpOp_step rfl (fun K hK => ?_)
              go_simp
              exact hK _ _ ⟨rfl, HJ.out⟩
            · obtain rfl := Option.some.inj ho.symm
              clear ho
              have d18 : fr0.tmps[(40 : Nat)]? = some (undef) := hv ⟨18, .data⟩ (by simp) rfl
              have d14 : fr0.tmps[(36 : Nat)]? = some (.bool false) := hv ⟨14, .guard⟩ (by simp) rfl
              clear hv hx
              refine wpOp_step rfl (fun K hK => ?_)
              go_simp
              exact hK _ _ ⟨rfl, HJ.out⟩
            · obtain rfl := Option.some.inj ho.symm
              clear ho
              have d14 : fr0.tmps[(36 : Nat)]? = some (.bool false) := hv ⟨14, .data⟩ (by simp) rfl
              have d19 : fr0.tmps[(41 : Nat)]? = some (undef) := hv ⟨19, .data⟩ (by simp) rfl
              clear hv hx
              refine wpOp_step rfl (fun K hK => ?_)
              go_simp
              exact hK _ _ ⟨rfl, HJ.out⟩
          case he =>
            intro w' hJ
            simp only [putF, valsAt, Nat.reduceAdd, Nat.zero_add, List.getD_cons_zero, List.getD_cons_succ, Act.put, List.setIfInBounds_toArray, List.set_cons_succ, List.set_cons_zero]
            gi_wp2
            exact HNX.out _ HNO.out hJ
        · have k2 : ((i : Int) != (j : Int)) = true := by simp; omega
          by_cases kC : F1 = i ∧ F2 = j
          · obtain ⟨rfl, rfl⟩ := kC
            have HYS : Hid (celB (2 * N) m (F1, F2) = true) := Lib.hid (by unfold celB; simp [HCF.out.1, HCF.out.2.1, kA, kB])
            have hcl := celL_yes (l := pre) HYS.out
            have hpq := celL_pre (n := 2 * N) (m := m) HCF.out.2.2
            rw [hcl] at hpq
            simp only [HCF.out.1] at hcl hpq
            have HCL := Lib.hid hcl
            have HYY : Hid (∀ w'', Below A4.heap.size A4 w'' → YieldAt Fence.wide 2 Try.prog l (encC ((F1, F2), C)) w'' fun e W' => (e = .returned (.bool true) ∧ J (celL (2 * N) m pre ++ [((F1, F2), C)]) W' ∧ Above W.heap.size w'' W') ∨ (e = .returned (.bool false) ∧ Jx (celL (2 * N) m pre ++ [((F1, F2), C)]) W' ∧ Above W.heap.size w'' W')) := Lib.hid fun w'' hb => by
              have hb2 : Below A2.heap.size A2 w'' := HB4.out.trans (hb.mono HB4.out.size)
              have h1 := HI2.out.nb HJS.out HW.out.1 HZ0.out (Nb.of hb2 rfl (by have := HS2.out; omega))
              exact HY.out _ _ _ h1.j hpq (by have := hb2.size; have := HS2.out; have := HZ0.out; have := HW.out.1; omega)
            clear kA kB hcl hpq
            have heq : ∀ w, (Op.equalIn 10000 54 (.agg #[.int .i64 F1, .int .i64 F2]) (.agg #[.int .i64 F1, .int .i64 F2])).run Try.prog w = .ok true w := fun w => by rw [eq_pair]; simp
            gi_wp2
            refine wpIn_region_any (by kernel_rfl) ?_
            refine wpAnyIn_mem3 [some 22, some 23, some 24, some 25, some 26, some 27, some 28, some 29, some 30, some 31, some 32, some 33, some 34, some 35, some 36, some 37, some 38, some 39, some 40, some 41, some 42] (fun R => valsAt [.int .i64 (C : Int), .bool true, .bool true, .int .i64 (F1 : Int), .int .i64 (F2 : Int), .bool true, .bool true, .bool true, .agg #[.int .i64 (F1 : Int), .int .i64 (F2 : Int)], .int .i64 (F1 : Int), .int .i64 (F2 : Int), .agg #[.int .i64 (F1 : Nat), .int .i64 (F2 : Nat)], .bool true, .bool true, .bool true, .func (.yield l) #[] #[], .agg #[.int .i64 (F1 : Int), .int .i64 (F2 : Int)], .int .i64 (C : Int), R, notV R, notV R]) (fun l R w' => (l.getD 18 false = false ∧ Below A4.heap.size A4 w') ∨ (l.getD 18 false = true ∧ YdJ J Jx W.heap.size A4 (celL (2 * N) m pre ++ [((F1, F2), C)]) R w')) 18 40 undef rfl ?hvs (by kernel_rfl) (by kernel_rfl) (by kernel_rfl) ?hs ?he ?hj
            case hvs =>
              intro R R' j hj hwait
              rcases j with _ | _ | _ | _ | _ | _ | _ | _ | _ | _ | _ | _ | _ | _ | _ | _ | _ | _ | _ | _ | _ | j
              · rfl
              · rfl
              · rfl
              · rfl
              · rfl
              · rfl
              · rfl
              · rfl
              · rfl
              · rfl
              · rfl
              · rfl
              · rfl
              · rfl
              · rfl
              · rfl
              · rfl
              · rfl
              · exact absurd rfl hj
              · exact bt_absurd hwait (by kernel_rfl)
              · exact bt_absurd hwait (by kernel_rfl)
              · rfl
            case hj => exact .inl ⟨rfl, (Below.refl _ _).drew⟩
            case hs =>
              intro qi qo ho hi lz Rz fr0 hl hl0 hup hv hx hcl w' hJ
              have HH := Lib.hid (And.intro hl hJ)
              clear hl hJ
              have hi : qi < 21 := (Array.getElem?_eq_some_iff.1 ho).1
              have hcase : qi = 0 ∨ qi = 1 ∨ qi = 2 ∨ qi = 3 ∨ qi = 4 ∨ qi = 5 ∨ qi = 6 ∨ qi = 7 ∨ qi = 8 ∨ qi = 9 ∨ qi = 10 ∨ qi = 11 ∨ qi = 12 ∨ qi = 13 ∨ qi = 14 ∨ qi = 15 ∨ qi = 16 ∨ qi = 17 ∨ qi = 18 ∨ qi = 19 ∨ qi = 20 := by omega
              clear hi
              rcases hcase with rfl | rfl | rfl | rfl | rfl | rfl | rfl | rfl | rfl | rfl | rfl | rfl | rfl | rfl | rfl | rfl | rfl | rfl | rfl | rfl | rfl
              · obtain rfl := Option.some.inj ho.symm
                clear ho
                have x7 : fr0.tmps[(7 : Nat)]? = some (.int .i64 (C : Int)) := hx 7 (not_up (by decide))
                have hn : lz.getD 18 false = false := not_behind hcl hl0 40 18 (by kernel_rfl)
                have hJ := stb_first HH.out.2 hn
                have c0 : w'.cell? ⟨g, 0, none⟩ = some (.int .i64 (F1 : Int)) := (hJ.cell (p := ⟨g, 0, none⟩) HG.out.1).trans HG.out.2.1
                have c1 : w'.cell? ⟨g, 1, none⟩ = some (.int .i64 (F2 : Int)) := (hJ.cell (p := ⟨g, 1, none⟩) HG.out.1).trans HG.out.2.2.1
                have c3 : w'.cell? ⟨B0, 0, none⟩ = some (.func (.yield l) #[] #[]) := (hJ.cell (p := ⟨B0, 0, none⟩) HG.out.2.2.2.1).trans HG.out.2.2.2.2
                have HJ := Lib.hid hJ
                clear hJ hv hx hcl hl0 hup
                refine wpOp_round (by rintro ⟨_, _, h⟩; exact h) (fun o ho c => noDefer_at (by kernel_rfl) _ o ho c) ?_
                refine wpOp_step rfl (fun K hK => ?_)
                go_simp
                exact hK _ _ ⟨Rz, fun _ => rfl, rfl, .inl ⟨(getD_set_ne false (by decide)).trans hn, HJ.out⟩⟩
              · obtain rfl := Option.some.inj ho.symm
                clear ho
                have d0 : fr0.tmps[(22 : Nat)]? = some (.int .i64 (C : Int)) := hv ⟨0, .data⟩ (by simp) rfl _ rfl
                have hn : lz.getD 18 false = false := not_behind hcl hl0 40 18 (by kernel_rfl)
                have hJ := stb_first HH.out.2 hn
                have c0 : w'.cell? ⟨g, 0, none⟩ = some (.int .i64 (F1 : Int)) := (hJ.cell (p := ⟨g, 0, none⟩) HG.out.1).trans HG.out.2.1
                have c1 : w'.cell? ⟨g, 1, none⟩ = some (.int .i64 (F2 : Int)) := (hJ.cell (p := ⟨g, 1, none⟩) HG.out.1).trans HG.out.2.2.1
                have c3 : w'.cell? ⟨B0, 0, none⟩ = some (.func (.yield l) #[] #[]) := (hJ.cell (p := ⟨B0, 0, none⟩) HG.out.2.2.2.1).trans HG.out.2.2.2.2
                have HJ := Lib.hid hJ
                clear hJ hv hx hcl hl0 hup
                refine wpOp_round (by rintro ⟨_, _, h⟩; exact h) (fun o ho c => noDefer_at (by kernel_rfl) _ o ho c) ?_
                refine wpOp_step rfl (fun K hK => ?_)
                go_simp
                exact hK _ _ ⟨Rz, fun _ => rfl, rfl, .inl ⟨(getD_set_ne false (by decide)).trans hn, HJ.out⟩⟩
              · obtain rfl := Option.some.inj ho.symm
                clear ho
                have d1 : fr0.tmps[(23 : Nat)]? = some (.bool true) := hv ⟨1, .data⟩ (by simp) rfl _ rfl
                have hn : lz.getD 18 false = false := not_behind hcl hl0 40 18 (by kernel_rfl)
                have hJ := stb_first HH.out.2 hn
                have c0 : w'.cell? ⟨g, 0, none⟩ = some (.int .i64 (F1 : Int)) := (hJ.cell (p := ⟨g, 0, none⟩) HG.out.1).trans HG.out.2.1
                have c1 : w'.cell? ⟨g, 1, none⟩ = some (.int .i64 (F2 : Int)) := (hJ.cell (p := ⟨g, 1, none⟩) HG.out.1).trans HG.out.2.2.1
                have c3 : w'.cell? ⟨B0, 0, none⟩ = some (.func (.yield l) #[] #[]) := (hJ.cell (p := ⟨B0, 0, none⟩) HG.out.2.2.2.1).trans HG.out.2.2.2.2
                have HJ := Lib.hid hJ
                clear hJ hv hx hcl hl0 hup
                refine wpOp_round (by rintro ⟨_, _, h⟩; exact h) (fun o ho c => noDefer_at (by kernel_rfl) _ o ho c) ?_
                refine wpOp_step rfl (fun K hK => ?_)
                go_simp
                exact hK _ _ ⟨Rz, fun _ => rfl, rfl, .inl ⟨(getD_set_ne false (by decide)).trans hn, HJ.out⟩⟩
              · obtain rfl := Option.some.inj ho.symm
                clear ho
                have d2 : fr0.tmps[(24 : Nat)]? = some (.bool true) := hv ⟨2, .guard⟩ (by simp) rfl _ rfl
                have x4 : fr0.tmps[(4 : Nat)]? = some (.int .i64 (F1 : Int)) := hx 4 (not_up (by decide))
                have hn : lz.getD 18 false = false := not_behind hcl hl0 40 18 (by kernel_rfl)
                have hJ := stb_first HH.out.2 hn
                have c0 : w'.cell? ⟨g, 0, none⟩ = some (.int .i64 (F1 : Int)) := (hJ.cell (p := ⟨g, 0, none⟩) HG.out.1).trans HG.out.2.1
                have c1 : w'.cell? ⟨g, 1, none⟩ = some (.int .i64 (F2 : Int)) := (hJ.cell (p := ⟨g, 1, none⟩) HG.out.1).trans HG.out.2.2.1
                have c3 : w'.cell? ⟨B0, 0, none⟩ = some (.func (.yield l) #[] #[]) := (hJ.cell (p := ⟨B0, 0, none⟩) HG.out.2.2.2.1).trans HG.out.2.2.2.2
                have HJ := Lib.hid hJ
                clear hJ hv hx hcl hl0 hup
                refine wpOp_round (by rintro ⟨_, _, h⟩; exact h) (fun o ho c => noDefer_at (by kernel_rfl) _ o ho c) ?_
                refine wpOp_step rfl (fun K hK => ?_)
                go_simp
                exact hK _ _ ⟨Rz, fun _ => rfl, rfl, .inl ⟨(getD_set_ne false (by decide)).trans hn, HJ.out⟩⟩
              · obtain rfl := Option.some.inj ho.symm
                clear ho
                have d2 : fr0.tmps[(24 : Nat)]? = some (.bool true) := hv ⟨2, .guard⟩ (by simp) rfl _ rfl
                have x5 : fr0.tmps[(5 : Nat)]? = some (.int .i64 (F2 : Int)) := hx 5 (not_up (by decide))
                have hn : lz.getD 18 false = false := not_behind hcl hl0 40 18 (by kernel_rfl)
                have hJ := stb_first HH.out.2 hn
                have c0 : w'.cell? ⟨g, 0, none⟩ = some (.int .i64 (F1 : Int)) := (hJ.cell (p := ⟨g, 0, none⟩) HG.out.1).trans HG.out.2.1
                have c1 : w'.cell? ⟨g, 1, none⟩ = some (.int .i64 (F2 : Int)) := (hJ.cell (p := ⟨g, 1, none⟩) HG.out.1).trans HG.out.2.2.1
                have c3 : w'.cell? ⟨B0, 0, none⟩ = some (.func (.yield l) #[] #[]) := (hJ.cell (p := ⟨B0, 0, none⟩) HG.out.2.2.2.1).trans HG.out.2.2.2.2
                have HJ := Lib.hid hJ
                clear hJ hv hx hcl hl0 hup
                refine wpOp_round (by rintro ⟨_, _, h⟩; exact h) (fun o ho c => noDefer_at (by kernel_rfl) _ o ho c) ?_
                refine wpOp_step rfl (fun K hK => ?_)
                go_simp
                exact hK _ _ ⟨Rz, fun _ => rfl, rfl, .inl ⟨(getD_set_ne false (by decide)).trans hn, HJ.out⟩⟩
              · obtain rfl := Option.some.inj ho.symm
                clear ho
                have d3 : fr0.tmps[(25 : Nat)]? = some (.int .i64 (F1 : Int)) := hv ⟨3, .data⟩ (by simp) rfl _ rfl
                have d4 : fr0.tmps[(26 : Nat)]? = some (.int .i64 (F2 : Int)) := hv ⟨4, .data⟩ (by simp) rfl _ rfl
                have d2 : fr0.tmps[(24 : Nat)]? = some (.bool true) := hv ⟨2, .guard⟩ (by simp) rfl _ rfl
                have hn : lz.getD 18 false = false := not_behind hcl hl0 40 18 (by kernel_rfl)
                have hJ := stb_first HH.out.2 hn
                have c0 : w'.cell? ⟨g, 0, none⟩ = some (.int .i64 (F1 : Int)) := (hJ.cell (p := ⟨g, 0, none⟩) HG.out.1).trans HG.out.2.1
                have c1 : w'.cell? ⟨g, 1, none⟩ = some (.int .i64 (F2 : Int)) := (hJ.cell (p := ⟨g, 1, none⟩) HG.out.1).trans HG.out.2.2.1
                have c3 : w'.cell? ⟨B0, 0, none⟩ = some (.func (.yield l) #[] #[]) := (hJ.cell (p := ⟨B0, 0, none⟩) HG.out.2.2.2.1).trans HG.out.2.2.2.2
                have HJ := Lib.hid hJ
                clear hJ hv hx hcl hl0 hup
                refine wpOp_round (by rintro ⟨_, _, h⟩; exact h) (fun o ho c => noDefer_at (by kernel_rfl) _ o ho c) ?_
                refine wpOp_step rfl (fun K hK => ?_)
                go_simp
                exact hK _ _ ⟨Rz, fun _ => rfl, rfl, .inl ⟨(getD_set_ne false (by decide)).trans hn, HJ.out⟩⟩
              · obtain rfl := Option.some.inj ho.symm
                clear ho
                have d2 : fr0.tmps[(24 : Nat)]? = some (.bool true) := hv ⟨2, .data⟩ (by simp) rfl _ rfl
                have d5 : fr0.tmps[(27 : Nat)]? = some (.bool true) := hv ⟨5, .data⟩ (by simp) rfl _ rfl
                have hn : lz.getD 18 false = false := not_behind hcl hl0 40 18 (by kernel_rfl)
                have hJ := stb_first HH.out.2 hn
                have c0 : w'.cell? ⟨g, 0, none⟩ = some (.int .i64 (F1 : Int)) := (hJ.cell (p := ⟨g, 0, none⟩) HG.out.1).trans HG.out.2.1
                have c1 : w'.cell? ⟨g, 1, none⟩ = some (.int .i64 (F2 : Int)) := (hJ.cell (p := ⟨g, 1, none⟩) HG.out.1).trans HG.out.2.2.1
                have c3 : w'.cell? ⟨B0, 0, none⟩ = some (.func (.yield l) #[] #[]) := (hJ.cell (p := ⟨B0, 0, none⟩) HG.out.2.2.2.1).trans HG.out.2.2.2.2
                have HJ := Lib.hid hJ
                clear hJ hv hx hcl hl0 hup
                refine wpOp_round (by rintro ⟨_, _, h⟩; exact h) (fun o ho c => noDefer_at (by kernel_rfl) _ o ho c) ?_
                refine wpOp_step rfl (fun K hK => ?_)
                go_simp
                exact hK _ _ ⟨Rz, fun _ => rfl, rfl, .inl ⟨(getD_set_ne false (by decide)).trans hn, HJ.out⟩⟩
              · obtain rfl := Option.some.inj ho.symm
                clear ho
                have d6 : fr0.tmps[(28 : Nat)]? = some (.bool true) := hv ⟨6, .data⟩ (by simp) rfl _ rfl
                have hn : lz.getD 18 false = false := not_behind hcl hl0 40 18 (by kernel_rfl)
                have hJ := stb_first HH.out.2 hn
                have c0 : w'.cell? ⟨g, 0, none⟩ = some (.int .i64 (F1 : Int)) := (hJ.cell (p := ⟨g, 0, none⟩) HG.out.1).trans HG.out.2.1
                have c1 : w'.cell? ⟨g, 1, none⟩ = some (.int .i64 (F2 : Int)) := (hJ.cell (p := ⟨g, 1, none⟩) HG.out.1).trans HG.out.2.2.1
                have c3 : w'.cell? ⟨B0, 0, none⟩ = some (.func (.yield l) #[] #[]) := (hJ.cell (p := ⟨B0, 0, none⟩) HG.out.2.2.2.1).trans HG.out.2.2.2.2
                have HJ := Lib.hid hJ
                clear hJ hv hx hcl hl0 hup
                refine wpOp_round (by rintro ⟨_, _, h⟩; exact h) (fun o ho c => noDefer_at (by kernel_rfl) _ o ho c) ?_
                refine wpOp_step rfl (fun K hK => ?_)
                go_simp
                exact hK _ _ ⟨Rz, fun _ => rfl, rfl, .inl ⟨(getD_set_ne false (by decide)).trans hn, HJ.out⟩⟩
              · obtain rfl := Option.some.inj ho.symm
                clear ho
                have d7 : fr0.tmps[(29 : Nat)]? = some (.bool true) := hv ⟨7, .guard⟩ (by simp) rfl _ rfl
                have x6 : fr0.tmps[(6 : Nat)]? = some (.pointer (some ⟨g, 0, none⟩)) := hx 6 (not_up (by decide))
                have hn : lz.getD 18 false = false := not_behind hcl hl0 40 18 (by kernel_rfl)
                have hJ := stb_first HH.out.2 hn
                have c0 : w'.cell? ⟨g, 0, none⟩ = some (.int .i64 (F1 : Int)) := (hJ.cell (p := ⟨g, 0, none⟩) HG.out.1).trans HG.out.2.1
                have c1 : w'.cell? ⟨g, 1, none⟩ = some (.int .i64 (F2 : Int)) := (hJ.cell (p := ⟨g, 1, none⟩) HG.out.1).trans HG.out.2.2.1
                have c3 : w'.cell? ⟨B0, 0, none⟩ = some (.func (.yield l) #[] #[]) := (hJ.cell (p := ⟨B0, 0, none⟩) HG.out.2.2.2.1).trans HG.out.2.2.2.2
                have HJ := Lib.hid hJ
                clear hJ hv hx hcl hl0 hup
                refine wpOp_round (by rintro ⟨_, _, h⟩; exact h) (fun o ho c => noDefer_at (by kernel_rfl) _ o ho c) ?_
                refine wpOp_step rfl (fun K hK => ?_)
                go_simp
                exact hK _ _ ⟨Rz, fun _ => rfl, rfl, .inl ⟨(getD_set_ne false (by decide)).trans hn, HJ.out⟩⟩
              · obtain rfl := Option.some.inj ho.symm
                clear ho
                have d7 : fr0.tmps[(29 : Nat)]? = some (.bool true) := hv ⟨7, .guard⟩ (by simp) rfl _ rfl
                have x4 : fr0.tmps[(4 : Nat)]? = some (.int .i64 (F1 : Int)) := hx 4 (not_up (by decide))
                have hn : lz.getD 18 false = false := not_behind hcl hl0 40 18 (by kernel_rfl)
                have hJ := stb_first HH.out.2 hn
                have c0 : w'.cell? ⟨g, 0, none⟩ = some (.int .i64 (F1 : Int)) := (hJ.cell (p := ⟨g, 0, none⟩) HG.out.1).trans HG.out.2.1
                have c1 : w'.cell? ⟨g, 1, none⟩ = some (.int .i64 (F2 : Int)) := (hJ.cell (p := ⟨g, 1, none⟩) HG.out.1).trans HG.out.2.2.1
                have c3 : w'.cell? ⟨B0, 0, none⟩ = some (.func (.yield l) #[] #[]) := (hJ.cell (p := ⟨B0, 0, none⟩) HG.out.2.2.2.1).trans HG.out.2.2.2.2
                have HJ := Lib.hid hJ
                clear hJ hv hx hcl hl0 hup
                refine wpOp_round (by rintro ⟨_, _, h⟩; exact h) (fun o ho c => noDefer_at (by kernel_rfl) _ o ho c) ?_
                refine wpOp_step rfl (fun K hK => ?_)
                go_simp
                exact hK _ _ ⟨Rz, fun _ => rfl, rfl, .inl ⟨(getD_set_ne false (by decide)).trans hn, HJ.out⟩⟩
              · obtain rfl := Option.some.inj ho.symm
                clear ho
                have d7 : fr0.tmps[(29 : Nat)]? = some (.bool true) := hv ⟨7, .guard⟩ (by simp) rfl _ rfl
                have x5 : fr0.tmps[(5 : Nat)]? = some (.int .i64 (F2 : Int)) := hx 5 (not_up (by decide))
                have hn : lz.getD 18 false = false := not_behind hcl hl0 40 18 (by kernel_rfl)
                have hJ := stb_first HH.out.2 hn
                have c0 : w'.cell? ⟨g, 0, none⟩ = some (.int .i64 (F1 : Int)) := (hJ.cell (p := ⟨g, 0, none⟩) HG.out.1).trans HG.out.2.1
                have c1 : w'.cell? ⟨g, 1, none⟩ = some (.int .i64 (F2 : Int)) := (hJ.cell (p := ⟨g, 1, none⟩) HG.out.1).trans HG.out.2.2.1
                have c3 : w'.cell? ⟨B0, 0, none⟩ = some (.func (.yield l) #[] #[]) := (hJ.cell (p := ⟨B0, 0, none⟩) HG.out.2.2.2.1).trans HG.out.2.2.2.2
                have HJ := Lib.hid hJ
                clear hJ hv hx hcl hl0 hup
                refine wpOp_round (by rintro ⟨_, _, h⟩; exact h) (fun o ho c => noDefer_at (by kernel_rfl) _ o ho c) ?_
                refine wpOp_step rfl (fun K hK => ?_)
                go_simp
                exact hK _ _ ⟨Rz, fun _ => rfl, rfl, .inl ⟨(getD_set_ne false (by decide)).trans hn, HJ.out⟩⟩
              · obtain rfl := Option.some.inj ho.symm
                clear ho
                have d9 : fr0.tmps[(31 : Nat)]? = some (.int .i64 (F1 : Int)) := hv ⟨9, .data⟩ (by simp) rfl _ rfl
                have d10 : fr0.tmps[(32 : Nat)]? = some (.int .i64 (F2 : Int)) := hv ⟨10, .data⟩ (by simp) rfl _ rfl
                have d7 : fr0.tmps[(29 : Nat)]? = some (.bool true) := hv ⟨7, .guard⟩ (by simp) rfl _ rfl
                have hn : lz.getD 18 false = false := not_behind hcl hl0 40 18 (by kernel_rfl)
                have hJ := stb_first HH.out.2 hn
                have c0 : w'.cell? ⟨g, 0, none⟩ = some (.int .i64 (F1 : Int)) := (hJ.cell (p := ⟨g, 0, none⟩) HG.out.1).trans HG.out.2.1
                have c1 : w'.cell? ⟨g, 1, none⟩ = some (.int .i64 (F2 : Int)) := (hJ.cell (p := ⟨g, 1, none⟩) HG.out.1).trans HG.out.2.2.1
                have c3 : w'.cell? ⟨B0, 0, none⟩ = some (.func (.yield l) #[] #[]) := (hJ.cell (p := ⟨B0, 0, none⟩) HG.out.2.2.2.1).trans HG.out.2.2.2.2
                have HJ := Lib.hid hJ
                clear hJ hv hx hcl hl0 hup
                refine wpOp_round (by rintro ⟨_, _, h⟩; exact h) (fun o ho c => noDefer_at (by kernel_rfl) _ o ho c) ?_
                refine wpOp_step rfl (fun K hK => ?_)
                go_simp
                go_at_call 58
                refine (HFI.out _).mono ?_
                rintro e w2 ⟨rfl, hb2⟩
                exact hK _ _ ⟨Rz, fun _ => rfl, rfl, .inl ⟨(getD_set_ne false (by decide)).trans hn, HJ.out.trans (hb2.mono HJ.out.size)⟩⟩
              · obtain rfl := Option.some.inj ho.symm
                clear ho
                have d8 : fr0.tmps[(30 : Nat)]? = some (.agg #[.int .i64 (F1 : Int), .int .i64 (F2 : Int)]) := hv ⟨8, .data⟩ (by simp) rfl _ rfl
                have d11 : fr0.tmps[(33 : Nat)]? = some (.agg #[.int .i64 (F1 : Nat), .int .i64 (F2 : Nat)]) := hv ⟨11, .data⟩ (by simp) rfl _ rfl
                have d7 : fr0.tmps[(29 : Nat)]? = some (.bool true) := hv ⟨7, .guard⟩ (by simp) rfl _ rfl
                have hn : lz.getD 18 false = false := not_behind hcl hl0 40 18 (by kernel_rfl)
                have hJ := stb_first HH.out.2 hn
                have c0 : w'.cell? ⟨g, 0, none⟩ = some (.int .i64 (F1 : Int)) := (hJ.cell (p := ⟨g, 0, none⟩) HG.out.1).trans HG.out.2.1
                have c1 : w'.cell? ⟨g, 1, none⟩ = some (.int .i64 (F2 : Int)) := (hJ.cell (p := ⟨g, 1, none⟩) HG.out.1).trans HG.out.2.2.1
                have c3 : w'.cell? ⟨B0, 0, none⟩ = some (.func (.yield l) #[] #[]) := (hJ.cell (p := ⟨B0, 0, none⟩) HG.out.2.2.2.1).trans HG.out.2.2.2.2
                have HJ := Lib.hid hJ
                clear hJ hv hx hcl hl0 hup
                refine wpOp_round (by rintro ⟨_, _, h⟩; exact h) (fun o ho c => noDefer_at (by kernel_rfl) _ o ho c) ?_
                refine wpOp_step rfl (fun K hK => ?_)
                go_simp
                exact hK _ _ ⟨Rz, fun _ => rfl, rfl, .inl ⟨(getD_set_ne false (by decide)).trans hn, HJ.out⟩⟩
              · obtain rfl := Option.some.inj ho.symm
                clear ho
                have d7 : fr0.tmps[(29 : Nat)]? = some (.bool true) := hv ⟨7, .data⟩ (by simp) rfl _ rfl
                have d12 : fr0.tmps[(34 : Nat)]? = some (.bool true) := hv ⟨12, .data⟩ (by simp) rfl _ rfl
                have hn : lz.getD 18 false = false := not_behind hcl hl0 40 18 (by kernel_rfl)
                have hJ := stb_first HH.out.2 hn
                have c0 : w'.cell? ⟨g, 0, none⟩ = some (.int .i64 (F1 : Int)) := (hJ.cell (p := ⟨g, 0, none⟩) HG.out.1).trans HG.out.2.1
                have c1 : w'.cell? ⟨g, 1, none⟩ = some (.int .i64 (F2 : Int)) := (hJ.cell (p := ⟨g, 1, none⟩) HG.out.1).trans HG.out.2.2.1
                have c3 : w'.cell? ⟨B0, 0, none⟩ = some (.func (.yield l) #[] #[]) := (hJ.cell (p := ⟨B0, 0, none⟩) HG.out.2.2.2.1).trans HG.out.2.2.2.2
                have HJ := Lib.hid hJ
                clear hJ hv hx hcl hl0 hup
                refine wpOp_round (by rintro ⟨_, _, h⟩; exact h) (fun o ho c => noDefer_at (by kernel_rfl) _ o ho c) ?_
                refine wpOp_step rfl (fun K hK => ?_)
                go_simp
                exact hK _ _ ⟨Rz, fun _ => rfl, rfl, .inl ⟨(getD_set_ne false (by decide)).trans hn, HJ.out⟩⟩
              · obtain rfl := Option.some.inj ho.symm
                clear ho
                have d13 : fr0.tmps[(35 : Nat)]? = some (.bool true) := hv ⟨13, .data⟩ (by simp) rfl _ rfl
                have hn : lz.getD 18 false = false := not_behind hcl hl0 40 18 (by kernel_rfl)
                have hJ := stb_first HH.out.2 hn
                have c0 : w'.cell? ⟨g, 0, none⟩ = some (.int .i64 (F1 : Int)) := (hJ.cell (p := ⟨g, 0, none⟩) HG.out.1).trans HG.out.2.1
                have c1 : w'.cell? ⟨g, 1, none⟩ = some (.int .i64 (F2 : Int)) := (hJ.cell (p := ⟨g, 1, none⟩) HG.out.1).trans HG.out.2.2.1
                have c3 : w'.cell? ⟨B0, 0, none⟩ = some (.func (.yield l) #[] #[]) := (hJ.cell (p := ⟨B0, 0, none⟩) HG.out.2.2.2.1).trans HG.out.2.2.2.2
                have HJ := Lib.hid hJ
                clear hJ hv hx hcl hl0 hup
                refine wpOp_round (by rintro ⟨_, _, h⟩; exact h) (fun o ho c => noDefer_at (by kernel_rfl) _ o ho c) ?_
                refine wpOp_step rfl (fun K hK => ?_)
                go_simp
                exact hK _ _ ⟨Rz, fun _ => rfl, rfl, .inl ⟨(getD_set_ne false (by decide)).trans hn, HJ.out⟩⟩
              · obtain rfl := Option.some.inj ho.symm
                clear ho
                have d14 : fr0.tmps[(36 : Nat)]? = some (.bool true) := hv ⟨14, .guard⟩ (by simp) rfl _ rfl
                have x3 : fr0.tmps[(3 : Nat)]? = some (.pointer (some ⟨B0, 0, none⟩)) := hx 3 (not_up (by decide))
                have hn : lz.getD 18 false = false := not_behind hcl hl0 40 18 (by kernel_rfl)
                have hJ := stb_first HH.out.2 hn
                have c0 : w'.cell? ⟨g, 0, none⟩ = some (.int .i64 (F1 : Int)) := (hJ.cell (p := ⟨g, 0, none⟩) HG.out.1).trans HG.out.2.1
                have c1 : w'.cell? ⟨g, 1, none⟩ = some (.int .i64 (F2 : Int)) := (hJ.cell (p := ⟨g, 1, none⟩) HG.out.1).trans HG.out.2.2.1
                have c3 : w'.cell? ⟨B0, 0, none⟩ = some (.func (.yield l) #[] #[]) := (hJ.cell (p := ⟨B0, 0, none⟩) HG.out.2.2.2.1).trans HG.out.2.2.2.2
                have HJ := Lib.hid hJ
                clear hJ hv hx hcl hl0 hup
                refine wpOp_round (by rintro ⟨_, _, h⟩; exact h) (fun o ho c => noDefer_at (by kernel_rfl) _ o ho c) ?_
                refine wpOp_step rfl (fun K hK => ?_)
                go_simp
                exact hK _ _ ⟨Rz, fun _ => rfl, rfl, .inl ⟨(getD_set_ne false (by decide)).trans hn, HJ.out⟩⟩
              · obtain rfl := Option.some.inj ho.symm
                clear ho
                have d14 : fr0.tmps[(36 : Nat)]? = some (.bool true) := hv ⟨14, .guard⟩ (by simp) rfl _ rfl
                have x6 : fr0.tmps[(6 : Nat)]? = some (.pointer (some ⟨g, 0, none⟩)) := hx 6 (not_up (by decide))
                have hn : lz.getD 18 false = false := not_behind hcl hl0 40 18 (by kernel_rfl)
                have hJ := stb_first HH.out.2 hn
                have c0 : w'.cell? ⟨g, 0, none⟩ = some (.int .i64 (F1 : Int)) := (hJ.cell (p := ⟨g, 0, none⟩) HG.out.1).trans HG.out.2.1
                have c1 : w'.cell? ⟨g, 1, none⟩ = some (.int .i64 (F2 : Int)) := (hJ.cell (p := ⟨g, 1, none⟩) HG.out.1).trans HG.out.2.2.1
                have c3 : w'.cell? ⟨B0, 0, none⟩ = some (.func (.yield l) #[] #[]) := (hJ.cell (p := ⟨B0, 0, none⟩) HG.out.2.2.2.1).trans HG.out.2.2.2.2
                have HJ := Lib.hid hJ
                clear hJ hv hx hcl hl0 hup
                refine wpOp_round (by rintro ⟨_, _, h⟩; exact h) (fun o ho c => noDefer_at (by kernel_rfl) _ o ho c) ?_
                refine wpOp_step rfl (fun K hK => ?_)
                go_simp
                exact hK _ _ ⟨Rz, fun _ => rfl, rfl, .inl ⟨(getD_set_ne false (by decide)).trans hn, HJ.out⟩⟩
              · obtain rfl := Option.some.inj ho.symm
                clear ho
                have d14 : fr0.tmps[(36 : Nat)]? = some (.bool true) := hv ⟨14, .guard⟩ (by simp) rfl _ rfl
                have x7 : fr0.tmps[(7 : Nat)]? = some (.int .i64 (C : Int)) := hx 7 (not_up (by decide))
                have hn : lz.getD 18 false = false := not_behind hcl hl0 40 18 (by kernel_rfl)
                have hJ := stb_first HH.out.2 hn
                have c0 : w'.cell? ⟨g, 0, none⟩ = some (.int .i64 (F1 : Int)) := (hJ.cell (p := ⟨g, 0, none⟩) HG.out.1).trans HG.out.2.1
                have c1 : w'.cell? ⟨g, 1, none⟩ = some (.int .i64 (F2 : Int)) := (hJ.cell (p := ⟨g, 1, none⟩) HG.out.1).trans HG.out.2.2.1
                have c3 : w'.cell? ⟨B0, 0, none⟩ = some (.func (.yield l) #[] #[]) := (hJ.cell (p := ⟨B0, 0, none⟩) HG.out.2.2.2.1).trans HG.out.2.2.2.2
                have HJ := Lib.hid hJ
                clear hJ hv hx hcl hl0 hup
                refine wpOp_round (by rintro ⟨_, _, h⟩; exact h) (fun o ho c => noDefer_at (by kernel_rfl) _ o ho c) ?_
                refine wpOp_step rfl (fun K hK => ?_)
                go_simp
                exact hK _ _ ⟨Rz, fun _ => rfl, rfl, .inl ⟨(getD_set_ne false (by decide)).trans hn, HJ.out⟩⟩
              · obtain rfl := Option.some.inj ho.symm
                clear ho
                have d15 : fr0.tmps[(37 : Nat)]? = some (.func (.yield l) #[] #[]) := hv ⟨15, .data⟩ (by simp) rfl _ rfl
                have d16 : fr0.tmps[(38 : Nat)]? = some (.agg #[.int .i64 (F1 : Int), .int .i64 (F2 : Int)]) := hv ⟨16, .data⟩ (by simp) rfl _ rfl
                have d17 : fr0.tmps[(39 : Nat)]? = some (.int .i64 (C : Int)) := hv ⟨17, .data⟩ (by simp) rfl _ rfl
                have d14 : fr0.tmps[(36 : Nat)]? = some (.bool true) := hv ⟨14, .guard⟩ (by simp) rfl _ rfl
                have hn : lz.getD 18 false = false := up_not hl0
                have hJ := stb_first HH.out.2 hn
                have c0 : w'.cell? ⟨g, 0, none⟩ = some (.int .i64 (F1 : Int)) := (hJ.cell (p := ⟨g, 0, none⟩) HG.out.1).trans HG.out.2.1
                have c1 : w'.cell? ⟨g, 1, none⟩ = some (.int .i64 (F2 : Int)) := (hJ.cell (p := ⟨g, 1, none⟩) HG.out.1).trans HG.out.2.2.1
                have c3 : w'.cell? ⟨B0, 0, none⟩ = some (.func (.yield l) #[] #[]) := (hJ.cell (p := ⟨B0, 0, none⟩) HG.out.2.2.2.1).trans HG.out.2.2.2.2
                have HJ := Lib.hid hJ
                obtain ⟨fn, tmps, assign, body, hy, hR⟩ := HYY.out _ hJ
                dsimp only [encC] at hy
                clear hJ hv hx hcl hl0 hup
                refine wpOpIn_step rfl (fun K hK => ?_)
                go_simp
                refine (roundIn_any hR).mono ?_
                clear hy hR
                rintro e w3 (⟨rfl, hj3, ha3⟩ | ⟨rfl, hj3, ha3⟩)
                · exact hK _ _ ⟨.bool true, fun h => absurd rfl h, rfl, .inr ⟨up_self (by rw [HH.out.1]; decide), .inl ⟨rfl, hj3, ((Above.refl _ _).below HJ.out).trans ha3⟩⟩⟩
                · exact hK _ _ ⟨.bool false, fun h => absurd rfl h, rfl, .inr ⟨up_self (by rw [HH.out.1]; decide), .inr ⟨rfl, hj3, ((Above.refl _ _).below HJ.out).trans ha3⟩⟩⟩
              · obtain rfl := Option.some.inj ho.symm
                clear ho
                have d18 : fr0.tmps[(40 : Nat)]? = some (Rz) := hv ⟨18, .data⟩ (by simp) rfl _ rfl
                have d14 : fr0.tmps[(36 : Nat)]? = some (.bool true) := hv ⟨14, .guard⟩ (by simp) rfl _ rfl
                have h18 : lz.getD 18 false = true := hup ⟨18, .data⟩ (by simp) rfl
                have hY := stb_last HH.out.2 h18
                obtain ⟨rb, hrb⟩ := hY.bool
                subst hrb
                have HY2 := Lib.hid hY
                clear hY hv hx hcl hl0 hup
                refine wpOp_round (by rintro ⟨_, _, h⟩; exact h) (fun o ho c => noDefer_at (by kernel_rfl) _ o ho c) ?_
                refine wpOp_step rfl (fun K hK => ?_)
                go_simp
                exact hK _ _ ⟨.bool rb, fun _ => rfl, rfl, .inr ⟨(getD_set_ne false (by decide)).trans h18, HY2.out⟩⟩
              · obtain rfl := Option.some.inj ho.symm
                clear ho
                have d14 : fr0.tmps[(36 : Nat)]? = some (.bool true) := hv ⟨14, .data⟩ (by simp) rfl _ rfl
                have d19 : fr0.tmps[(41 : Nat)]? = some (notV Rz) := hv ⟨19, .data⟩ (by simp) rfl _ rfl
                have h18 : lz.getD 18 false = true := hcl 19 _ rfl (hup ⟨19, .data⟩ (by simp) rfl) ⟨18, .data⟩ (by simp) rfl
                have hY := stb_last HH.out.2 h18
                obtain ⟨rb, hrb⟩ := hY.bool
                subst hrb
                have e19 : fr0.tmps[(41 : Nat)]? = some (.bool (!rb)) := d19
                clear d19
                have HY2 := Lib.hid hY
                clear hY hv hx hcl hl0 hup
                refine wpOp_round (by rintro ⟨_, _, h⟩; exact h) (fun o ho c => noDefer_at (by kernel_rfl) _ o ho c) ?_
                refine wpOp_step rfl (fun K hK => ?_)
                go_simp
                exact hK _ _ ⟨.bool rb, fun _ => rfl, rfl, .inr ⟨(getD_set_ne false (by decide)).trans h18, HY2.out⟩⟩
            case he =>
              intro lz Rz w' hall hJ
              simp only [putM, valsAt, Nat.reduceAdd, Nat.zero_add, List.getD_cons_zero, List.getD_cons_succ, Act.put, List.setIfInBounds_toArray, List.set_cons_succ, List.set_cons_zero]
              have hY := stb_last hJ (hall 18 (by decide))
              clear hJ hall
              rcases hY with ⟨hR, hj3, ha3⟩ | ⟨hR, hj3, ha3⟩
              · subst hR
                simp only [notV]
                have HF : Hid (Above W0.heap.size A2 w' ∧ CeI J (2 * N) N m B0 (B0 + 1) l (pre ++ [(F1, F2)]) w') := Lib.hid (by
                  have hz : W.heap.size ≤ W0.heap.size := by have := HZ0.out; have := HW.out.1; omega
                  have hab : Above W.heap.size A2 w' := ((Above.refl _ A2).below HB4.out).trans ha3
                  exact ⟨hab.mono hz, HI2.out.above hab (by have := HW.out.1; omega) (by have := HW.out.1; omega) (by rw [HCL.out]; exact hj3)⟩)
                clear hj3 ha3
                gi_wp2
                exact HF.out
              · subst hR
                simp only [notV]
                have HF : Hid (Above W0.heap.size A2 w' ∧ (Jx (celL (2 * N) m (pre ++ [(F1, F2)])) w')) := Lib.hid (by
                  have hz : W.heap.size ≤ W0.heap.size := by have := HZ0.out; have := HW.out.1; omega
                  have hab : Above W.heap.size A2 w' := ((Above.refl _ A2).below HB4.out).trans ha3
                  exact ⟨hab.mono hz, by rw [HCL.out]; exact hj3⟩)
                clear hj3 ha3
                gi_wp2
                exact ⟨HF.out.1, rfl, HF.out.2⟩
          · have HNO : Hid (celB (2 * N) m (i, j) = false) := Lib.hid (by unfold celB; simp [HCF.out.2.1]; intro _ _ h1 h2; exact kC ⟨h1, h2⟩)
            have k3 : ((i : Int) == (F1 : Int) && (j : Int) == (F2 : Int)) = false := by
              cases h : ((i : Int) == (F1 : Int) && (j : Int) == (F2 : Int)) with
              | false => rfl
              | true => simp at h; exact absurd ⟨by omega, by omega⟩ kC
            have heq : ∀ w, (Op.equalIn 10000 54 (.agg #[.int .i64 i, .int .i64 j]) (.agg #[.int .i64 F1, .int .i64 F2])).run Try.prog w = .ok false w := fun w => by rw [eq_pair, k3]
            clear kA kB kC k3
            gi_wp2
            refine wp_region_round (by kernel_rfl) (by kernel_rfl) ?lo ?_
            case lo => rintro ⟨_, _, h⟩; exact h
            refine wpAny_vals [22, 23, 24, 25, 26, 27, 28, 29, 30, 31, 32, 33, 34, 35, 36, 37, 38, 39, 40, 41, 42] [.int .i64 (C : Int), .bool true, .bool true, .int .i64 (i : Int), .int .i64 (j : Int), .bool true, .bool true, .bool true, .agg #[.int .i64 i, .int .i64 j], .int .i64 (i : Int), .int .i64 (j : Int), .agg #[.int .i64 (F1 : Nat), .int .i64 (F2 : Nat)], .bool false, .bool false, .bool false, undef, undef, undef, undef, undef, .bool false] (fun w' => Below A4.heap.size A4 w') rfl (by kernel_rfl) (by decide) (by kernel_rfl) ?hs ?he ?hj
            case hj => exact (Below.refl _ _).drew
            case hs =>
              intro qi qo ho fr0 hv hx w' hJ
              have hi : qi < 21 := (Array.getElem?_eq_some_iff.1 ho).1
              have c0 : w'.cell? ⟨g, 0, none⟩ = some (.int .i64 i) := (hJ.cell (p := ⟨g, 0, none⟩) HG.out.1).trans HG.out.2.1
              have c1 : w'.cell? ⟨g, 1, none⟩ = some (.int .i64 j) := (hJ.cell (p := ⟨g, 1, none⟩) HG.out.1).trans HG.out.2.2.1
              have c3 : w'.cell? ⟨B0, 0, none⟩ = some (.func (.yield l) #[] #[]) := (hJ.cell (p := ⟨B0, 0, none⟩) HG.out.2.2.2.1).trans HG.out.2.2.2.2
              have HJ := Lib.hid hJ
              clear hJ
              have hcase : qi = 0 ∨ qi = 1 ∨ qi = 2 ∨ qi = 3 ∨ qi = 4 ∨ qi = 5 ∨ qi = 6 ∨ qi = 7 ∨ qi = 8 ∨ qi = 9 ∨ qi = 10 ∨ qi = 11 ∨ qi = 12 ∨ qi = 13 ∨ qi = 14 ∨ qi = 15 ∨ qi = 16 ∨ qi = 17 ∨ qi = 18 ∨ qi = 19 ∨ qi = 20 := by omega
              clear hi
              rcases hcase with rfl | rfl | rfl | rfl | rfl | rfl | rfl | rfl | rfl | rfl | rfl | rfl | rfl | rfl | rfl | rfl | rfl | rfl | rfl | rfl | rfl
              · obtain rfl := Option.some.inj ho.symm
                clear ho
                have x7 : fr0.tmps[(7 : Nat)]? = some (.int .i64 (C : Int)) := hx 7 (by decide)
                clear hv hx
                refine wpOp_step rfl (fun K hK => ?_)
                go_simp
                exact hK _ _ ⟨rfl, HJ.out⟩
              · obtain rfl := Option.some.inj ho.symm
                clear ho
                have d0 : fr0.tmps[(22 : Nat)]? = some (.int .i64 (C : Int)) := hv ⟨0, .data⟩ (by simp) rfl
                clear hv hx
                refine wpOp_step rfl (fun K hK => ?_)
                go_simp
                exact hK _ _ ⟨rfl, HJ.out⟩
              · obtain rfl := Option.some.inj ho.symm
                clear ho
                have d1 : fr0.tmps[(23 : Nat)]? = some (.bool true) := hv ⟨1, .data⟩ (by simp) rfl
                clear hv hx
                refine wpOp_step rfl (fun K hK => ?_)
                go_simp
                exact hK _ _ ⟨rfl, HJ.out⟩
              · obtain rfl := Option.some.inj ho.symm
                clear ho
                have d2 : fr0.tmps[(24 : Nat)]? = some (.bool true) := hv ⟨2, .guard⟩ (by simp) rfl
                have x4 : fr0.tmps[(4 : Nat)]? = some (.int .i64 (i : Int)) := hx 4 (by decide)
                clear hv hx
                refine wpOp_step rfl (fun K hK => ?_)
                go_simp
                exact hK _ _ ⟨rfl, HJ.out⟩
              · obtain rfl := Option.some.inj ho.symm
                clear ho
                have d2 : fr0.tmps[(24 : Nat)]? = some (.bool true) := hv ⟨2, .guard⟩ (by simp) rfl
                have x5 : fr0.tmps[(5 : Nat)]? = some (.int .i64 (j : Int)) := hx 5 (by decide)
                clear hv hx
                refine wpOp_step rfl (fun K hK => ?_)
                go_simp
                exact hK _ _ ⟨rfl, HJ.out⟩
              · obtain rfl := Option.some.inj ho.symm
                clear ho
                have d3 : fr0.tmps[(25 : Nat)]? = some (.int .i64 (i : Int)) := hv ⟨3, .data⟩ (by simp) rfl
                have d4 : fr0.tmps[(26 : Nat)]? = some (.int .i64 (j : Int)) := hv ⟨4, .data⟩ (by simp) rfl
                have d2 : fr0.tmps[(24 : Nat)]? = some (.bool true) := hv ⟨2, .guard⟩ (by simp) rfl
                clear hv hx
                refine wpOp_step rfl (fun K hK => ?_)
                go_simp
                exact hK _ _ ⟨rfl, HJ.out⟩
              · obtain rfl := Option.some.inj ho.symm
                clear ho
                have d2 : fr0.tmps[(24 : Nat)]? = some (.bool true) := hv ⟨2, .data⟩ (by simp) rfl
                have d5 : fr0.tmps[(27 : Nat)]? = some (.bool true) := hv ⟨5, .data⟩ (by simp) rfl
                clear hv hx
                refine wpOp_step rfl (fun K hK => ?_)
                go_simp
                exact hK _ _ ⟨rfl, HJ.out⟩
              · obtain rfl := Option.some.inj ho.symm
                clear ho
                have d6 : fr0.tmps[(28 : Nat)]? = some (.bool true) := hv ⟨6, .data⟩ (by simp) rfl
                clear hv hx
                refine wpOp_step rfl (fun K hK => ?_)
                go_simp
                exact hK _ _ ⟨rfl, HJ.out⟩
              · obtain rfl := Option.some.inj ho.symm
                clear ho
                have d7 : fr0.tmps[(29 : Nat)]? = some (.bool true) := hv ⟨7, .guard⟩ (by simp) rfl
                have x6 : fr0.tmps[(6 : Nat)]? = some (.pointer (some ⟨g, 0, none⟩)) := hx 6 (by decide)
                clear hv hx
                refine wpOp_step rfl (fun K hK => ?_)
                go_simp
                exact hK _ _ ⟨rfl, HJ.out⟩
              · obtain rfl := Option.some.inj ho.symm
                clear ho
                have d7 : fr0.tmps[(29 : Nat)]? = some (.bool true) := hv ⟨7, .guard⟩ (by simp) rfl
                have x4 : fr0.tmps[(4 : Nat)]? = some (.int .i64 (i : Int)) := hx 4 (by decide)
                clear hv hx
                refine wpOp_step rfl (fun K hK => ?_)
                go_simp
                exact hK _ _ ⟨rfl, HJ.out⟩
              · obtain rfl := Option.some.inj ho.symm
                clear ho
                have d7 : fr0.tmps[(29 : Nat)]? = some (.bool true) := hv ⟨7, .guard⟩ (by simp) rfl
                have x5 : fr0.tmps[(5 : Nat)]? = some (.int .i64 (j : Int)) := hx 5 (by decide)
                clear hv hx
                refine wpOp_step rfl (fun K hK => ?_)
                go_simp
                exact hK _ _ ⟨rfl, HJ.out⟩
              · obtain rfl := Option.some.inj ho.symm
                clear ho
                have d9 : fr0.tmps[(31 : Nat)]? = some (.int .i64 (i : Int)) := hv ⟨9, .data⟩ (by simp) rfl
                have d10 : fr0.tmps[(32 : Nat)]? = some (.int .i64 (j : Int)) := hv ⟨10, .data⟩ (by simp) rfl
                have d7 : fr0.tmps[(29 : Nat)]? = some (.bool true) := hv ⟨7, .guard⟩ (by simp) rfl
                clear hv hx
                refine wpOp_step rfl (fun K hK => ?_)
                go_simp
                go_at_call 58
                refine (HFI.out _).mono ?_
                rintro e w2 ⟨rfl, hb2⟩
                exact hK _ _ ⟨rfl, HJ.out.trans (hb2.mono HJ.out.size)⟩
              · obtain rfl := Option.some.inj ho.symm
                clear ho
                have d8 : fr0.tmps[(30 : Nat)]? = some (.agg #[.int .i64 i, .int .i64 j]) := hv ⟨8, .data⟩ (by simp) rfl
                have d11 : fr0.tmps[(33 : Nat)]? = some (.agg #[.int .i64 (F1 : Nat), .int .i64 (F2 : Nat)]) := hv ⟨11, .data⟩ (by simp) rfl
                have d7 : fr0.tmps[(29 : Nat)]? = some (.bool true) := hv ⟨7, .guard⟩ (by simp) rfl
                clear hv hx
                refine wpOp_step rfl (fun K hK => ?_)
                go_simp
                exact hK _ _ ⟨rfl, HJ.out⟩
              · obtain rfl := Option.some.inj ho.symm
                clear ho
                have d7 : fr0.tmps[(29 : Nat)]? = some (.bool true) := hv ⟨7, .data⟩ (by simp) rfl
                have d12 : fr0.tmps[(34 : Nat)]? = some (.bool false) := hv ⟨12, .data⟩ (by simp) rfl
                clear hv hx
                refine wpOp_step rfl (fun K hK => ?_)
                go_simp
                exact hK _ _ ⟨rfl, HJ.out⟩
              · obtain rfl := Option.some.inj ho.symm
                clear ho
                have d13 : fr0.tmps[(35 : Nat)]? = some (.bool false) := hv ⟨13, .data⟩ (by simp) rfl
                clear hv hx
                refine wpOp_step rfl (fun K hK => ?_)
                go_simp
                exact hK _ _ ⟨rfl, HJ.out⟩
              · obtain rfl := Option.some.inj ho.symm
                clear ho
                have d14 : fr0.tmps[(36 : Nat)]? = some (.bool false) := hv ⟨14, .guard⟩ (by simp) rfl
                have x3 : fr0.tmps[(3 : Nat)]? = some (.pointer (some ⟨B0, 0, none⟩)) := hx 3 (by decide)
                clear hv hx
                refine wpOp_step rfl (fun K hK => ?_)
                go_simp
                exact hK _ _ ⟨rfl, HJ.out⟩
              · obtain rfl := Option.some.inj ho.symm
                clear ho
                have d14 : fr0.tmps[(36 : Nat)]? = some (.bool false) := hv ⟨14, .guard⟩ (by simp) rfl
                have x6 : fr0.tmps[(6 : Nat)]? = some (.pointer (some ⟨g, 0, none⟩)) := hx 6 (by decide)
                clear hv hx
                refine wpOp_step rfl (fun K hK => ?_)
                go_simp
                exact hK _ _ ⟨rfl, HJ.out⟩
              · obtain rfl := Option.some.inj ho.symm
                clear ho
                have d14 : fr0.tmps[(36 : Nat)]? = some (.bool false) := hv ⟨14, .guard⟩ (by simp) rfl
                have x7 : fr0.tmps[(7 : Nat)]? = some (.int .i64 (C : Int)) := hx 7 (by decide)
                clear hv hx
                refine wpOp_step rfl (fun K hK => ?_)
                go_simp
                exact hK _ _ ⟨rfl, HJ.out⟩
              · obtain rfl := Option.some.inj ho.symm
                clear ho
                have d15 : fr0.tmps[(37 : Nat)]? = some (undef) := hv ⟨15, .data⟩ (by simp) rfl
                have d16 : fr0.tmps[(38 : Nat)]? = some (undef) := hv ⟨16, .data⟩ (by simp) rfl
                have d17 : fr0.tmps[(39 : Nat)]? = some (undef) := hv ⟨17, .data⟩ (by simp) rfl
                have d14 : fr0.tmps[(36 : Nat)]? = some (.bool false) := hv ⟨14, .guard⟩ (by simp) rfl
                clear hv hx
                refine wpOp_step rfl (fun K hK => ?_)
                go_simp
                exact hK _ _ ⟨rfl, HJ.out⟩
              · obtain rfl := Option.some.inj ho.symm
                clear ho
                have d18 : fr0.tmps[(40 : Nat)]? = some (undef) := hv ⟨18, .data⟩ (by simp) rfl
                have d14 : fr0.tmps[(36 : Nat)]? = some (.bool false) := hv ⟨14, .guard⟩ (by simp) rfl
                clear hv hx
                refine wpOp_step rfl (fun K hK => ?_)
                go_simp
                exact hK _ _ ⟨rfl, HJ.out⟩
              · obtain rfl := Option.some.inj ho.symm
                clear ho
                have d14 : fr0.tmps[(36 : Nat)]? = some (.bool false) := hv ⟨14, .data⟩ (by simp) rfl
                have d19 : fr0.tmps[(41 : Nat)]? = some (undef) := hv ⟨19, .data⟩ (by simp) rfl
                clear hv hx
                refine wpOp_step rfl (fun K hK => ?_)
                go_simp
                exact hK _ _ ⟨rfl, HJ.out⟩
            case he =>
              intro w' hJ
              simp only [putF, valsAt, Nat.reduceAdd, Nat.zero_add, List.getD_cons_zero, List.getD_cons_succ, Act.put, List.setIfInBounds_toArray, List.set_cons_succ, List.set_cons_zero]
              gi_wp2
              exact HNX.out _ HNO.out hJ
  case done =>
    intro D A hD hI hK
    have HK2 := Lib.hid hK
    have HI := Lib.hid hI.j
    clear hI hK hI0
    go_wp2
    refine ⟨by simp, .inl ⟨D, _, rfl, run_takeDeferred HK2.out, ?_⟩⟩
    exact ⟨_, results_none rfl _ _ _, ⟨_, rfl⟩, .inl (HJS.out _ _ _ HI.out (Nb.put _ (by have := HZ0.out; have := HW.out.1; omega) (by have := HZ0.out; have := HW.out.1; omega) (by have := (Array.getElem?_eq_some_iff.1 HK2.out).1; have := HZ0.out; have := HW.out.1; omega)))⟩
  case stop =>
    rintro D c pre A hD hpre ⟨rfl, hjx⟩ hK
    have HK2 := Lib.hid hK
    have HI := Lib.hid hjx
    clear hjx hK hI0
    go_wp2
    refine ⟨by simp, .inl ⟨D, _, rfl, run_takeDeferred HK2.out, ?_⟩⟩
    exact ⟨_, results_none rfl _ _ _, ⟨_, rfl⟩, .inr ⟨_, celL_pre hpre, HJx.out _ _ _ HI.out (Nb.put _ (by have := HZ0.out; have := HW.out.1; omega) (by have := HZ0.out; have := HW.out.1; omega) (by have := (Array.getElem?_eq_some_iff.1 HK2.out).1; have := HZ0.out; have := HW.out.1; omega))⟩⟩
end Go.Proofs.Ythnefcafhpioaaa
