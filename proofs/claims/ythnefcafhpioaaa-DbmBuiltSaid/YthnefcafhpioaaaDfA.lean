/-
  Package dbm: the iterator that Cells hands back.
-/
import Derived.Test.YthnefcafhpioaaaDeD
import Derived.Test.YthnefcafhpioaaaDcC
import Derived.Test.YthnefcafhpioaaaRegP
import Derived.ChangeKeysEq
import Derived.Laws.StructEq
namespace Go.Proofs.Ythnefcafhpioaaa
open Go Go.RowKit Go.Shelf

/-- A cell that Cells gives. -/
def celB (n : Nat) (m : List Int) (x : Nat × Nat) : Bool := decide (gM n m x.1 x.2 ≠ inf) && (decide (x.1 ≠ x.2) && decide (fstP x.1 x.2 = x))
def celL (n : Nat) (m : List Int) (l : List (Nat × Nat)) : List ((Nat × Nat) × Int) := (l.filter (celB n m)).map fun x => (x, gM n m x.1 x.2)
theorem celL_no {n : Nat} {m : List Int} {l : List (Nat × Nat)} {x : Nat × Nat} (h : celB n m x = false) : celL n m (l ++ [x]) = celL n m l := by unfold celL; rw [List.filter_append]; simp [h]
theorem celL_yes {n : Nat} {m : List Int} {l : List (Nat × Nat)} {x : Nat × Nat} (h : celB n m x = true) : celL n m (l ++ [x]) = celL n m l ++ [(x, gM n m x.1 x.2)] := by unfold celL; rw [List.filter_append]; simp [h]
theorem celL_pre {n : Nat} {m : List Int} {p l : List (Nat × Nat)} (h : p <+: l) : celL n m p <+: celL n m l := by
  obtain ⟨t, rfl⟩ := h
  exact ⟨celL n m t, by unfold celL; rw [List.filter_append, List.map_append]⟩
def encC (x : (Nat × Nat) × Int) : Array Value := #[.agg #[.int .i64 x.1.1, .int .i64 x.1.2], .int .i64 x.2]
/-- What the iterator reads between its rounds. -/
def CAt (X Y N : Nat) (m : List Int) (a : Option Addr) (L c : Nat) (A : World) : Prop := A.cell? ⟨X, 0, none⟩ = some (.int .i64 N) ∧ A.cell? ⟨Y, 0, none⟩ = some (.slice a L c) ∧ MAt A m a
def notV : Value → Value
  | .bool b => .bool (!b)
  | v => v
/-- While the array with a place is made: it is there once its alloc has come up, and holds the place once its store has. -/
def AlJ (A2 : World) (vi vj : Value) (b10 b11 : Bool) (R : Value) (w' : World) : Prop := Below A2.heap.size A2 w' ∧ (b10 = true → ∃ g x y, R = .pointer (some ⟨g, 0, none⟩) ∧ A2.heap.size ≤ g ∧ Blk w' g #[x, y] 54 ∧ (b11 = true → x = vi ∧ y = vj))
theorem al_keep {A2 w' : World} {vi vj R : Value} {l : Array Bool} {i : Nat} (h : AlJ A2 vi vj (l.getD 10 false) (l.getD 11 false) R w') (h10 : i ≠ 10) (h11 : i ≠ 11) : AlJ A2 vi vj ((l.setIfInBounds i true).getD 10 false) ((l.setIfInBounds i true).getD 11 false) R w' := by rw [getD_set_ne false h10, getD_set_ne false h11]; exact h
theorem al_new {A2 w' : World} {vi vj R x y : Value} {b10 b11 c10 c11 : Bool} (h : AlJ A2 vi vj b10 b11 R w') (hn : c11 = false) : AlJ A2 vi vj c10 c11 (.pointer (some ⟨w'.heap.size, 0, none⟩)) (w'.alloc (.cells #[x, y] 54)) :=
  ⟨h.1.alloc h.1.size _, fun _ => ⟨_, _, _, rfl, h.1.size, Blk.new _ _ _, fun e => by rw [hn] at e; cases e⟩⟩
theorem al_store {A2 w' : World} {vi vj x y : Value} {g : Nat} {c10 c11 : Bool} (h : Below A2.heap.size A2 w') (hg : A2.heap.size ≤ g) (hB : Blk w' g #[x, y] 54) : AlJ A2 vi vj c10 c11 (.pointer (some ⟨g, 0, none⟩)) ((w'.setCell ⟨g, 0, none⟩ vi).setCell ⟨g, 1, none⟩ vj) :=
  ⟨(h.setCell (p := ⟨g, 0, none⟩) hg _).setCell (p := ⟨g, 1, none⟩) hg _, fun _ => ⟨g, _, _, rfl, hg, (hB.set 0 vi).set 1 vj, fun _ => ⟨rfl, rfl⟩⟩⟩
/-- What the other loop's round leaves. -/
def YdJ (J Jx : List ((Nat × Nat) × Int) → World → Prop) (B : Nat) (A4 : World) (xs : List ((Nat × Nat) × Int)) (R : Value) (w' : World) : Prop := (R = .bool true ∧ J xs w' ∧ Above B A4 w') ∨ (R = .bool false ∧ Jx xs w' ∧ Above B A4 w')
theorem YdJ.bool {J Jx : List ((Nat × Nat) × Int) → World → Prop} {B : Nat} {A4 : World} {xs : List ((Nat × Nat) × Int)} {R : Value} {w' : World} (h : YdJ J Jx B A4 xs R w') : ∃ b, R = .bool b := by
  rcases h with ⟨h, -⟩ | ⟨h, -⟩
  · exact ⟨_, h⟩
  · exact ⟨_, h⟩
/-- What holds while the iterator goes through the places. -/
structure CeI (J : List ((Nat × Nat) × Int) → World → Prop) (n N : Nat) (m : List Int) (B0 V l : Nat) (pre : List (Nat × Nat)) (A : World) : Prop where
  j : J (celL n m pre) A
  b0 : Blk A B0 #[.func (.yield l) #[] #[]] 82
  bv : Blk A V #[.int .i64 N] 3
theorem CeI.below {J : List ((Nat × Nat) × Int) → World → Prop} {n N : Nat} {m : List Int} {B0 V l Z : Nat} {pre : List (Nat × Nat)} {A B : World} (h : CeI J n N m B0 V l pre A) (hJ : ∀ pre A B, J pre A → Below Z A B → J pre B) {k : Nat} (hb : Below k A B) (h1 : B0 < k) (h2 : V < k) (h3 : Z ≤ k) : CeI J n N m B0 V l pre B := ⟨hJ _ _ _ h.j (hb.mono h3), h.b0.below hb h1, h.bv.below hb h2⟩
theorem CeI.above {J : List ((Nat × Nat) × Int) → World → Prop} {n N : Nat} {m : List Int} {B0 V l Z : Nat} {pre pre' : List (Nat × Nat)} {A B : World} (h : CeI J n N m B0 V l pre A) (ha : Above Z A B) (h1 : Z ≤ B0) (h2 : Z ≤ V) (hj : J (celL n m pre') B) : CeI J n N m B0 V l pre' B := ⟨hj, (ha.block _ h1 h.b0.lt).trans h.b0, (ha.block _ h2 h.bv.lt).trans h.bv⟩
theorem blk_above {Z k : Nat} {A B : World} {cs : Array Value} {t : TypeId} (h : Blk A k cs t) (ha : Above Z A B) (hk : Z ≤ k) : Blk B k cs t := (ha.block _ hk h.lt).trans h
theorem eq_int2 {P : Program} {t : TypeId} {q : IntKind} (hu : P.underlying t = some (.int q)) (d : Nat) (a b : Int) (w : World) : (Op.equalIn (d + 1) t (.int q a) (.int q b)).run P w = .ok (a == b) w := by
  simp [Op.equalIn, run_underlying hu]
theorem part_int2 (cs : Array Value) (i : Nat) (v : Value) (h : cs[i]? = some v) (w : World) : (part 3 cs i).run Try.prog w = .ok v w := by
  have h2 : Try.prog.underlying 3 = some (.int .i64) := by kernel_rfl
  simp [part, isAgg, run_underlying h2, h]
theorem eq_pair (a0 a1 b0 b1 : Int) (w : World) : (Op.equalIn 10000 54 (.agg #[.int .i64 a0, .int .i64 a1]) (.agg #[.int .i64 b0, .int .i64 b1])).run Try.prog w = .ok ((a0 == b0) && (a1 == b1)) w := by
  have h0 : Try.prog.underlying 3 = some (.int .i64) := by kernel_rfl
  have h1 : Try.prog.underlying 54 = some (.array 2 3) := by kernel_rfl
  have h3 : (Try.prog.info? 3).map (fun i => i.size) = some 1 := by kernel_rfl
  have h4 : Try.prog.cellsOf 3 = 1 := by kernel_rfl
  obtain ⟨i, hi, _⟩ := Option.map_eq_some_iff.1 h3
  clear h3
  rw [show (10000 : Nat) = 9998 + 1 + 1 from rfl, run_equalIn_array w (9998 + 1) _ _ h1 hi, h4, show List.range 2 = [0, 1] from rfl]
  have p0 : ∀ (w : World) (x y : Value), (part 3 #[x, y] 0).run Try.prog w = .ok x w := fun w x y => part_int2 _ 0 _ rfl w
  have p1 : ∀ (w : World) (x y : Value), (part 3 #[x, y] 1).run Try.prog w = .ok y w := fun w x y => part_int2 _ 1 _ rfl w
  have p2 : ∀ (a b : Int) (w : World), (Op.equalIn (9998 + 1) 3 (.int .i64 a) (.int .i64 b)).run Try.prog w = .ok (a == b) w := fun a b w => eq_int2 h0 9998 a b w
  simp only [Op.eqItems, Sem.run_bind, Nat.mul_one, p0, p2, Result.andThen_ok]
  by_cases g0 : a0 = b0 <;> by_cases g1 : a1 = b1 <;> simp [p1, p2, g0, g1]
attribute [local go_sem] Oper.semAt_some
set_option maxRecDepth 100000 in
set_option maxHeartbeats 16000000 in
theorem cells2_seq (N X Y : Nat) (hN : N ≤ 64) (m : List Int) (a : Option Addr) (L c : Nat) (hlen : m.length = 2 * N * (2 * N)) (hL : m.length = L) (w : World) : SeqK Try.prog 57 #[.pointer (some ⟨X, 0, none⟩), .pointer (some ⟨Y, 0, none⟩)] encC (celL (2 * N) m (allP (2 * N))) (CAt X Y N m a L c) w := fun l J Jx W hW hJ hJx hK hY h0 => by
  have HJS := Lib.hid hJ; clear hJ
  have HJx := Lib.hid hJx; clear hJx
  have HY := Lib.hid hY; clear hY
  have HK := Lib.hid hK; clear hK
  clear hW
  obtain ⟨B0, hB0⟩ : ∃ B, W.heap.size = B := ⟨_, rfl⟩
  obtain ⟨W1, hW1⟩ : ∃ W1, W.alloc (.cells #[.func (.yield l) #[] #[]] 82) = W1 := ⟨_, rfl⟩
  have hb1 : Below B0 W W1 := by rw [← hW1, ← hB0]; exact (Below.refl _ W).alloc (Nat.le_refl _) _
  have hs1 : W1.heap.size = B0 + 1 := by rw [← hW1, ← hB0]; simp
  have hx1 : Blk W1 B0 #[.func (.yield l) #[] #[]] 82 := by rw [← hW1, ← hB0]; exact Blk.new W _ _
  have hj1 : J [] W1 := HJS.out _ _ _ h0 (by rw [hB0]; exact hb1)
  have u0 : W1.cell? ⟨X, 0, none⟩ = some (.int .i64 N) := (HK.out _ _ hj1).1
  have HW := Lib.hid (And.intro hB0 hW1)
  have HB := Lib.hid (And.intro hx1 (And.intro hj1 hs1))
  clear hB0 hW1 hb1 hs1 hx1 hj1 h0
  have HZ := Lib.hid (And.intro hN (And.intro hlen hL))
  clear hlen hL
  refine calls_of_wp_marks Try.func57 rfl ?_
  simp only [Try.ntmps57, List.size_toArray, List.length_cons, List.length_nil, Nat.reduceAdd, Nat.reduceSub, Array.replicate_succ, Array.replicate_zero, List.push_toArray, List.append_toArray, List.nil_append, List.cons_append]
  go_upto_region 1 with fail
  rw [HW.out.2]
  simp only [HW.out.1]
  go_wp2_with (go_at_call 51; ((with_reducible refine (places_any N _).mono ?_); rintro e w' ⟨rfl, rfl⟩))
  obtain ⟨W0, hW0⟩ : ∃ W0, W1.alloc (.cells #[.int .i64 N] 3) = W0 := ⟨_, rfl⟩
  have hb0 : Below (B0 + 1) W1 W0 := by rw [← hW0, ← HB.out.2.2]; exact (Below.refl _ W1).alloc (Nat.le_refl _) _
  have hz0 : W0.heap.size = B0 + 2 := by rw [← hW0, World.size_alloc, HB.out.2.2]
  have hn0 : Blk W0 (B0 + 1) #[.int .i64 N] 3 := by rw [← hW0, ← HB.out.2.2]; exact Blk.new W1 _ _
  have hI0 : CeI J (2 * N) N m B0 (B0 + 1) l [] W0 := ⟨HJS.out _ _ _ HB.out.2.1 (hb0.mono (by have := HW.out.1; omega)), HB.out.1.below hb0 (by omega), hn0⟩
  rw [HB.out.2.2, hW0]
  clear hW0 hb0 hn0 u0 HB
  have HZ0 := Lib.hid hz0
  have hWB := HW.out.1
  refine wp_rangeFunc_oneK (gf := 66) (lb := #[.pointer (some ⟨B0 + 1, 0, none⟩)]) rfl (enters_of Try.func66 (by kernel_rfl) rfl)
    (places1_seq N (B0 + 1) hN W0) (Below.refl _ _) (fun _ => rfl)
    (fun pre A => CeI J (2 * N) N m B0 (B0 + 1) l pre A) (fun c pre A => c = .ret ∧ Jx (celL (2 * N) m pre) A)
    (fun pre A B h hb => h.below HJS.out hb (by omega) (by omega) (by omega)) (fun c pre A B h hb => ⟨h.1, HJx.out _ _ _ h.2 (hb.mono (by omega))⟩)
    (fun pre A h => h.bv.cell 0) hI0 ?round ?done ?stop
  case round =>
    intro lp pre x A hI hpre hle hl2
    obtain ⟨i, j⟩ := x
    obtain ⟨hi, hj⟩ := allP_lt (hpre.subset (by simp : (i, j) ∈ pre ++ [(i, j)]))
    simp only at hi hj
    dsimp only [encP]
    gi_wp2
    refine ⟨Above.refl _ _, fun r o' hr => ?_⟩
    have hI2 := hI.below HJS.out (below_put _ _ hl2 (.loop o')) (by omega) (by omega) (by omega)
    obtain ⟨A2, hA2⟩ : ∃ A2, A.putObj lp (.loop o') = A2 := ⟨_, rfl⟩
    have hA2s : W0.heap.size ≤ A2.heap.size := by rw [← hA2]; simpa using hle
    rw [hA2] at hI2 ⊢
    clear hA2 hr hI hle hl2 hI0
    obtain ⟨k0, k2, hmA⟩ := HK.out _ _ hI2.j
    have hT0 := cell_lt hi hj
    obtain ⟨b, ob, rfl, -⟩ := mat_at hmA (i := i * (2 * N) + j) (by rw [HZ.out.2.1]; exact hT0)
    have cT := gM_at hmA HZ.out.2.1 hi hj
    have HIX := Lib.hid (fun w => index_any N i j hN hi hj w)
    have HFI := Lib.hid (fun w => first_any i j (by omega) (by omega) w)
    have tl : (((i * (2 * N) + j : Nat)) : Int) < (L : Int) := by have h1 := HZ.out.2.1; have h2 := HZ.out.2.2; omega
    obtain ⟨T, hT⟩ : ∃ T, i * (2 * N) + j = T := ⟨_, rfl⟩
    rw [hT] at HIX cT tl
    obtain ⟨C, hC⟩ : ∃ C, gM (2 * N) m i j = C := ⟨_, rfl⟩
    rw [hC] at cT
    obtain ⟨⟨F1, F2⟩, hF⟩ : ∃ z, fstP i j = z := ⟨_, rfl⟩
    rw [hF] at HFI
    simp only at HFI
    have HL : Hid (X < A2.heap.size ∧ Y < A2.heap.size ∧ b < A2.heap.size) := Lib.hid ⟨World.block_lt_of_cell? A2 _ k0, World.block_lt_of_cell? A2 _ k2, World.block_lt_of_cell? A2 _ cT⟩
    have HX := Lib.hid (And.intro k0 k2)
    have HT := Lib.hid cT
    have HI2 := Lib.hid hI2
    have HS2 := Lib.hid hA2s
    have HCF := Lib.hid (And.intro hC (And.intro hF hpre))
    clear k0 k2 hmA cT hT0 hT hi hj hI2 hA2s hC hF hpre hz0 hWB hN
    (try gi_wp2)
    refine wp_region_round (by kernel_rfl) (by kernel_rfl) ?lo ?_
    case lo => rintro ⟨_, _, h⟩; exact h
    refine wpAny_mem3 [some 12, some 13, some 14, some 15, some 16, some 17, some 18, some 19, some 20, some 21, some 6, none, some 7] (fun R => valsAt [.int .i64 (i : Int), .int .i64 (j : Int), .agg #[.int .i64 i, .int .i64 j], .slice (some ⟨b, ob, none⟩) L c, .int .i64 (N : Int), .int .i64 (i : Int), .int .i64 (j : Int), .int .i64 (T : Int), .pointer (some ⟨b, ob + T, none⟩), .int .i64 (C : Int), R, undef, .int .i64 (C : Int)]) (fun l R w' => AlJ A2 (.int .i64 i) (.int .i64 j) (l.getD 10 false) (l.getD 11 false) R w') 10 undef rfl ?hvs (by kernel_rfl) (by kernel_rfl) (by kernel_rfl) ?hs ?he ?hj
    case hvs =>
      intro R R' j hj hwait
      rcases j with _ | _ | _ | _ | _ | _ | _ | _ | _ | _ | _ | _ | _ | j
      · rfl
      · rfl
      · rfl
      · rfl
      · rfl
      · rfl
      · rfl
      · rfl
      · rfl
      · rfl
      · exact absurd rfl hj
      · rfl
      · rfl
      · rfl
    case hj => exact ⟨(Below.refl _ _).drew, fun h => by cases h⟩
    case hs =>
      intro qi qo ho hi lz Rz fr0 hl hl0 hup hv hx hcl w' hJ
      have HH := Lib.hid (And.intro hl hJ)
      clear hl hJ
      have hi : qi < 13 := (Array.getElem?_eq_some_iff.1 ho).1
      have hcase : qi = 0 ∨ qi = 1 ∨ qi = 2 ∨ qi = 3 ∨ qi = 4 ∨ qi = 5 ∨ qi = 6 ∨ qi = 7 ∨ qi = 8 ∨ qi = 9 ∨ qi = 10 ∨ qi = 11 ∨ qi = 12 := by omega
      clear hi
      rcases hcase with rfl | rfl | rfl | rfl | rfl | rfl | rfl | rfl | rfl | rfl | rfl | rfl | rfl
      · obtain rfl := Option.some.inj ho.symm
        clear ho
        have x4 : fr0.tmps[(4 : Nat)]? = some (.int .i64 (i : Int)) := hx 4 (not_up (by decide))
        have c0 : w'.cell? ⟨X, 0, none⟩ = some (.int .i64 N) := (HH.out.2.1.cell (p := ⟨X, 0, none⟩) HL.out.1).trans HX.out.1
        have c2 : w'.cell? ⟨Y, 0, none⟩ = some (.slice (some ⟨b, ob, none⟩) L c) := (HH.out.2.1.cell (p := ⟨Y, 0, none⟩) HL.out.2.1).trans HX.out.2
        have cT : w'.cell? ⟨b, ob + T, none⟩ = some (.int .i64 C) := (HH.out.2.1.cell (p := ⟨b, ob + T, none⟩) HL.out.2.2).trans HT.out
        clear hv hx hcl hl0 hup
        refine wpOp_step rfl (fun K hK => ?_)
        go_simp
        exact hK _ _ ⟨Rz, fun _ => rfl, rfl, al_keep HH.out.2 (by decide) (by decide)⟩
      · obtain rfl := Option.some.inj ho.symm
        clear ho
        have x5 : fr0.tmps[(5 : Nat)]? = some (.int .i64 (j : Int)) := hx 5 (not_up (by decide))
        have c0 : w'.cell? ⟨X, 0, none⟩ = some (.int .i64 N) := (HH.out.2.1.cell (p := ⟨X, 0, none⟩) HL.out.1).trans HX.out.1
        have c2 : w'.cell? ⟨Y, 0, none⟩ = some (.slice (some ⟨b, ob, none⟩) L c) := (HH.out.2.1.cell (p := ⟨Y, 0, none⟩) HL.out.2.1).trans HX.out.2
        have cT : w'.cell? ⟨b, ob + T, none⟩ = some (.int .i64 C) := (HH.out.2.1.cell (p := ⟨b, ob + T, none⟩) HL.out.2.2).trans HT.out
        clear hv hx hcl hl0 hup
        refine wpOp_step rfl (fun K hK => ?_)
        go_simp
        exact hK _ _ ⟨Rz, fun _ => rfl, rfl, al_keep HH.out.2 (by decide) (by decide)⟩
      · obtain rfl := Option.some.inj ho.symm
        clear ho
        have d0 : fr0.tmps[(12 : Nat)]? = some (.int .i64 (i : Int)) := hv ⟨0, .data⟩ (by simp) rfl _ rfl
        have d1 : fr0.tmps[(13 : Nat)]? = some (.int .i64 (j : Int)) := hv ⟨1, .data⟩ (by simp) rfl _ rfl
        have c0 : w'.cell? ⟨X, 0, none⟩ = some (.int .i64 N) := (HH.out.2.1.cell (p := ⟨X, 0, none⟩) HL.out.1).trans HX.out.1
        have c2 : w'.cell? ⟨Y, 0, none⟩ = some (.slice (some ⟨b, ob, none⟩) L c) := (HH.out.2.1.cell (p := ⟨Y, 0, none⟩) HL.out.2.1).trans HX.out.2
        have cT : w'.cell? ⟨b, ob + T, none⟩ = some (.int .i64 C) := (HH.out.2.1.cell (p := ⟨b, ob + T, none⟩) HL.out.2.2).trans HT.out
        clear hv hx hcl hl0 hup
        refine wpOp_step rfl (fun K hK => ?_)
        go_simp
        exact hK _ _ ⟨Rz, fun _ => rfl, rfl, al_keep HH.out.2 (by decide) (by decide)⟩
      · obtain rfl := Option.some.inj ho.symm
        clear ho
        have x2 : fr0.tmps[(2 : Nat)]? = some (.pointer (some ⟨Y, 0, none⟩)) := hx 2 (not_up (by decide))
        have c0 : w'.cell? ⟨X, 0, none⟩ = some (.int .i64 N) := (HH.out.2.1.cell (p := ⟨X, 0, none⟩) HL.out.1).trans HX.out.1
        have c2 : w'.cell? ⟨Y, 0, none⟩ = some (.slice (some ⟨b, ob, none⟩) L c) := (HH.out.2.1.cell (p := ⟨Y, 0, none⟩) HL.out.2.1).trans HX.out.2
        have cT : w'.cell? ⟨b, ob + T, none⟩ = some (.int .i64 C) := (HH.out.2.1.cell (p := ⟨b, ob + T, none⟩) HL.out.2.2).trans HT.out
        clear hv hx hcl hl0 hup
        refine wpOp_step rfl (fun K hK => ?_)
        go_simp
        exact hK _ _ ⟨Rz, fun _ => rfl, rfl, al_keep HH.out.2 (by decide) (by decide)⟩
      · obtain rfl := Option.some.inj ho.symm
        clear ho
        have x1 : fr0.tmps[(1 : Nat)]? = some (.pointer (some ⟨X, 0, none⟩)) := hx 1 (not_up (by decide))
        have c0 : w'.cell? ⟨X, 0, none⟩ = some (.int .i64 N) := (HH.out.2.1.cell (p := ⟨X, 0, none⟩) HL.out.1).trans HX.out.1
        have c2 : w'.cell? ⟨Y, 0, none⟩ = some (.slice (some ⟨b, ob, none⟩) L c) := (HH.out.2.1.cell (p := ⟨Y, 0, none⟩) HL.out.2.1).trans HX.out.2
        have cT : w'.cell? ⟨b, ob + T, none⟩ = some (.int .i64 C) := (HH.out.2.1.cell (p := ⟨b, ob + T, none⟩) HL.out.2.2).trans HT.out
        clear hv hx hcl hl0 hup
        refine wpOp_step rfl (fun K hK => ?_)
        go_simp
        exact hK _ _ ⟨Rz, fun _ => rfl, rfl, al_keep HH.out.2 (by decide) (by decide)⟩
      · obtain rfl := Option.some.inj ho.symm
        clear ho
        have x4 : fr0.tmps[(4 : Nat)]? = some (.int .i64 (i : Int)) := hx 4 (not_up (by decide))
        have c0 : w'.cell? ⟨X, 0, none⟩ = some (.int .i64 N) := (HH.out.2.1.cell (p := ⟨X, 0, none⟩) HL.out.1).trans HX.out.1
        have c2 : w'.cell? ⟨Y, 0, none⟩ = some (.slice (some ⟨b, ob, none⟩) L c) := (HH.out.2.1.cell (p := ⟨Y, 0, none⟩) HL.out.2.1).trans HX.out.2
        have cT : w'.cell? ⟨b, ob + T, none⟩ = some (.int .i64 C) := (HH.out.2.1.cell (p := ⟨b, ob + T, none⟩) HL.out.2.2).trans HT.out
        clear hv hx hcl hl0 hup
        refine wpOp_step rfl (fun K hK => ?_)
        go_simp
        exact hK _ _ ⟨Rz, fun _ => rfl, rfl, al_keep HH.out.2 (by decide) (by decide)⟩
      · obtain rfl := Option.some.inj ho.symm
        clear ho
        have x5 : fr0.tmps[(5 : Nat)]? = some (.int .i64 (j : Int)) := hx 5 (not_up (by decide))
        have c0 : w'.cell? ⟨X, 0, none⟩ = some (.int .i64 N) := (HH.out.2.1.cell (p := ⟨X, 0, none⟩) HL.out.1).trans HX.out.1
        have c2 : w'.cell? ⟨Y, 0, none⟩ = some (.slice (some ⟨b, ob, none⟩) L c) := (HH.out.2.1.cell (p := ⟨Y, 0, none⟩) HL.out.2.1).trans HX.out.2
        have cT : w'.cell? ⟨b, ob + T, none⟩ = some (.int .i64 C) := (HH.out.2.1.cell (p := ⟨b, ob + T, none⟩) HL.out.2.2).trans HT.out
        clear hv hx hcl hl0 hup
        refine wpOp_step rfl (fun K hK => ?_)
        go_simp
        exact hK _ _ ⟨Rz, fun _ => rfl, rfl, al_keep HH.out.2 (by decide) (by decide)⟩
      · obtain rfl := Option.some.inj ho.symm
        clear ho
        have d4 : fr0.tmps[(16 : Nat)]? = some (.int .i64 (N : Int)) := hv ⟨4, .data⟩ (by simp) rfl _ rfl
        have d5 : fr0.tmps[(17 : Nat)]? = some (.int .i64 (i : Int)) := hv ⟨5, .data⟩ (by simp) rfl _ rfl
        have d6 : fr0.tmps[(18 : Nat)]? = some (.int .i64 (j : Int)) := hv ⟨6, .data⟩ (by simp) rfl _ rfl
        have c0 : w'.cell? ⟨X, 0, none⟩ = some (.int .i64 N) := (HH.out.2.1.cell (p := ⟨X, 0, none⟩) HL.out.1).trans HX.out.1
        have c2 : w'.cell? ⟨Y, 0, none⟩ = some (.slice (some ⟨b, ob, none⟩) L c) := (HH.out.2.1.cell (p := ⟨Y, 0, none⟩) HL.out.2.1).trans HX.out.2
        have cT : w'.cell? ⟨b, ob + T, none⟩ = some (.int .i64 C) := (HH.out.2.1.cell (p := ⟨b, ob + T, none⟩) HL.out.2.2).trans HT.out
        clear hv hx hcl hl0 hup
        refine wpOp_step rfl (fun K hK => ?_)
        go_simp
        go_at_call 42
        refine (HIX.out _).mono ?_
        rintro e w2 ⟨rfl, rfl⟩
        exact hK _ _ ⟨Rz, fun _ => rfl, rfl, al_keep HH.out.2 (by decide) (by decide)⟩
      · obtain rfl := Option.some.inj ho.symm
        clear ho
        have d3 : fr0.tmps[(15 : Nat)]? = some (.slice (some ⟨b, ob, none⟩) L c) := hv ⟨3, .data⟩ (by simp) rfl _ rfl
        have d7 : fr0.tmps[(19 : Nat)]? = some (.int .i64 (T : Int)) := hv ⟨7, .data⟩ (by simp) rfl _ rfl
        have c0 : w'.cell? ⟨X, 0, none⟩ = some (.int .i64 N) := (HH.out.2.1.cell (p := ⟨X, 0, none⟩) HL.out.1).trans HX.out.1
        have c2 : w'.cell? ⟨Y, 0, none⟩ = some (.slice (some ⟨b, ob, none⟩) L c) := (HH.out.2.1.cell (p := ⟨Y, 0, none⟩) HL.out.2.1).trans HX.out.2
        have cT : w'.cell? ⟨b, ob + T, none⟩ = some (.int .i64 C) := (HH.out.2.1.cell (p := ⟨b, ob + T, none⟩) HL.out.2.2).trans HT.out
        clear hv hx hcl hl0 hup
        refine wpOp_step rfl (fun K hK => ?_)
        go_simp
        exact hK _ _ ⟨Rz, fun _ => rfl, rfl, al_keep HH.out.2 (by decide) (by decide)⟩
      · obtain rfl := Option.some.inj ho.symm
        clear ho
        have d8 : fr0.tmps[(20 : Nat)]? = some (.pointer (some ⟨b, ob + T, none⟩)) := hv ⟨8, .data⟩ (by simp) rfl _ rfl
        have c0 : w'.cell? ⟨X, 0, none⟩ = some (.int .i64 N) := (HH.out.2.1.cell (p := ⟨X, 0, none⟩) HL.out.1).trans HX.out.1
        have c2 : w'.cell? ⟨Y, 0, none⟩ = some (.slice (some ⟨b, ob, none⟩) L c) := (HH.out.2.1.cell (p := ⟨Y, 0, none⟩) HL.out.2.1).trans HX.out.2
        have cT : w'.cell? ⟨b, ob + T, none⟩ = some (.int .i64 C) := (HH.out.2.1.cell (p := ⟨b, ob + T, none⟩) HL.out.2.2).trans HT.out
        clear hv hx hcl hl0 hup
        refine wpOp_step rfl (fun K hK => ?_)
        go_simp
        exact hK _ _ ⟨Rz, fun _ => rfl, rfl, al_keep HH.out.2 (by decide) (by decide)⟩
      · obtain rfl := Option.some.inj ho.symm
        clear ho
        have hn : lz.getD 11 false = false := st_notyet hcl hl0 (j := 11) rfl (by kernel_rfl)
        clear hv hx hcl hup
        refine wpOp_step rfl (fun K hK => ?_)
        go_simp
        exact hK _ _ ⟨_, fun h => absurd rfl h, rfl, al_new HH.out.2 ((getD_set_ne false (by decide)).trans hn)⟩
      · obtain rfl := Option.some.inj ho.symm
        clear ho
        have d10 : fr0.tmps[(6 : Nat)]? = some (Rz) := hv ⟨10, .data⟩ (by simp) rfl _ rfl
        have d2 : fr0.tmps[(14 : Nat)]? = some (.agg #[.int .i64 i, .int .i64 j]) := hv ⟨2, .data⟩ (by simp) rfl _ rfl
        have h10 : lz.getD 10 false = true := hup ⟨10, .data⟩ (by simp) rfl
        obtain ⟨g, p1, p2, hR, hgA, hBg, -⟩ := HH.out.2.2 h10
        subst hR
        have z0 := hBg.cell 0
        have z1 := hBg.cell 1
        have g0 := hBg.free 0
        have g1 := hBg.free 1
        have HBG := Lib.hid (And.intro hgA hBg)
        clear hgA hBg hv hx hcl hup hl0 h10
        refine wpOp_step rfl (fun K hK => ?_)
        go_simp
        exact hK _ _ ⟨_, fun _ => rfl, rfl, al_store HH.out.2.1 HBG.out.1 HBG.out.2⟩
      · obtain rfl := Option.some.inj ho.symm
        clear ho
        have d9 : fr0.tmps[(21 : Nat)]? = some (.int .i64 (C : Int)) := hv ⟨9, .data⟩ (by simp) rfl _ rfl
        have c0 : w'.cell? ⟨X, 0, none⟩ = some (.int .i64 N) := (HH.out.2.1.cell (p := ⟨X, 0, none⟩) HL.out.1).trans HX.out.1
        have c2 : w'.cell? ⟨Y, 0, none⟩ = some (.slice (some ⟨b, ob, none⟩) L c) := (HH.out.2.1.cell (p := ⟨Y, 0, none⟩) HL.out.2.1).trans HX.out.2
        have cT : w'.cell? ⟨b, ob + T, none⟩ = some (.int .i64 C) := (HH.out.2.1.cell (p := ⟨b, ob + T, none⟩) HL.out.2.2).trans HT.out
        clear hv hx hcl hl0 hup
        refine wpOp_step rfl (fun K hK => ?_)
        go_simp
        exact hK _ _ ⟨Rz, fun _ => rfl, rfl, al_keep HH.out.2 (by decide) (by decide)⟩
    case he =>
      intro lz Rz w' hall hJ
      simp only [putM, valsAt, Nat.reduceAdd, Nat.zero_add, List.getD_cons_zero, List.getD_cons_succ, Act.put, List.setIfInBounds_toArray, List.set_cons_succ, List.set_cons_zero]
      obtain ⟨hb4, hx4⟩ := hJ
      obtain ⟨g, p1, p2, hR, hgA, hBg, hxy⟩ := hx4 (hall 10 (by decide))
      obtain ⟨rfl, rfl⟩ := hxy (hall 11 (by decide))
      subst hR
      obtain ⟨A4, hA4⟩ : ∃ A4, A4 = w' := ⟨_, rfl⟩
      rw [← hA4] at hb4 hBg ⊢
      have h40 := HI2.out.b0.below hb4 HI2.out.b0.lt
      have HG : Hid (g < A4.heap.size ∧ A4.cell? ⟨g, 0, none⟩ = some (.int .i64 i) ∧ A4.cell? ⟨g, 1, none⟩ = some (.int .i64 j) ∧ B0 < A4.heap.size ∧ A4.cell? ⟨B0, 0, none⟩ = some (.func (.yield l) #[] #[])) := Lib.hid ⟨hBg.lt, hBg.cell 0, hBg.cell 1, h40.lt, h40.cell 0⟩
      have HB4 := Lib.hid hb4
      clear hA4 hx4 hxy hgA hBg hb4 h40 hall HT HX HL HIX tl
      have HNX : Hid (∀ w'', celB (2 * N) m (i, j) = false → Below A4.heap.size A4 w'' → Above W0.heap.size A2 w'' ∧ CeI J (2 * N) N m B0 (B0 + 1) l (pre ++ [(i, j)]) w'') := Lib.hid fun w'' hno hb => by
        have hb2 : Below A2.heap.size A2 w'' := HB4.out.trans (hb.mono HB4.out.size)
        have h1 := HI2.out.below HJS.out hb2 HI2.out.b0.lt HI2.out.bv.lt (by have := HS2.out; have := HZ0.out; have := HW.out.1; omega)
        exact ⟨(Above.refl _ A2).below hb2, by rw [celL_no hno]; exact h1.j, h1.b0, h1.bv⟩
      by_cases kA : C = inf
      · have HNO : Hid (celB (2 * N) m (i, j) = false) := Lib.hid (by unfold celB; simp [HCF.out.1, kA])
        have k1 : (C != 9223372036854775807) = false := by simp [kA]
        clear kA
        gi_wp2
        refine wp_region_round (by kernel_rfl) (by kernel_rfl) ?lo ?_
        case lo => rintro ⟨_, _, h⟩; exact h
        refine wpAny_vals [22, 23, 24, 25, 26, 27, 28, 29, 30, 31, 32, 33, 34, 35, 36, 37, 38, 39, 40, 41, 42] [.int .i64 (C : Int), .bool false, .bool false, undef, undef, undef, .bool false, .bool false, undef, undef, undef, undef, undef, .bool false, .bool false, undef, undef, undef, undef, undef, .bool false] (fun w' => Below A4.heap.size A4 w') rfl (by kernel_rfl) (by decide) (by kernel_rfl) ?hs ?he ?hj
        case hj => exact (Below.refl _ _).drew
        case hs =>
          intro qi qo ho fr0 hv hx w' hJ
          have hi : qi < 21 := (Array.getElem?_eq_some_iff.1 ho).1
          have c0 : w'.cell? ⟨g, 0, none⟩ = some (.int .i64 i) := (hJ.cell (p := ⟨g, 0, none⟩) HG.out.1).trans HG.out.2.1
          have c1 : w'.cell? ⟨g, 1, none⟩ = some (.int .i64 j) := (hJ.cell (p := ⟨g, 1, none⟩) HG.out.1).trans HG.out.2.2.1
          have c3 : w'.cell? ⟨B0, 0, none⟩ = some (.func (.yield l) #[] #[]) := (hJ.cell (p := ⟨B0, 0, none⟩) HG.out.2.2.2.1).trans HG.out.2.2.2.2
          have HJ := Lib.hid hJ
          clear hJ
          have hcase : qi = 0 ∨ qi = 1 ∨ qi = 2 ∨ qi = 3 ∨ qi = 4 ∨ qi = 5 ∨ qi = 6 ∨ qi = 7 ∨ qi = 8 ∨ qi = 9 ∨ qi = 10 ∨ qi = 11 ∨ qi = 12 ∨ qi = 13 ∨ qi = 14 ∨ qi = 15 ∨ qi = 16 ∨ qi = 17 ∨ qi = 18 ∨ qi = 19 ∨ qi = 20 := by omega
          clear hi
          rcases hcase with rfl | rfl | rfl | rfl | rfl | rfl | rfl | rfl | rfl | rfl | rfl | rfl | rfl | rfl | rfl | rfl | rfl | rfl | rfl | rfl | rfl
          · obtain rfl := Option.some.inj ho.symm
            clear ho
            have x7 : fr0.tmps[(7 : Nat)]? = some (.int .i64 (C : Int)) := hx 7 (by decide)
            clear hv hx
            refine wpOp_step rfl (fun K hK => ?_)
            go_simp
            exact hK _ _ ⟨rfl, HJ.out⟩
          · obtain rfl := Option.some.inj ho.symm
            clear ho
            have d0 : fr0.tmps[(22 : Nat)]? = some (.int .i64 (C : Int)) := hv ⟨0, .data⟩ (by simp) rfl
            clear hv hx
            refine wpOp_step rfl (fun K hK => ?_)
            go_simp
            exact hK _ _ ⟨rfl, HJ.out⟩
          · obtain rfl := Option.some.inj ho.symm
            clear ho
            have d1 : fr0.tmps[(23 : Nat)]? = some (.bool false) := hv ⟨1, .data⟩ (by simp) rfl
            clear hv hx
            refine wpOp_step rfl (fun K hK => ?_)
            go_simp
            exact hK _ _ ⟨rfl, HJ.out⟩
          · obtain rfl := Option.some.inj ho.symm
            clear ho
            have d2 : fr0.tmps[(24 : Nat)]? = some (.bool false) := hv ⟨2, .guard⟩ (by simp) rfl
            have x4 : fr0.tmps[(4 : Nat)]? = some (.int .i64 (i : Int)) := hx 4 (by decide)
            clear hv hx
            refine wpOp_step rfl (fun K hK => ?_)
            go_simp
            exact hK _ _ ⟨rfl, HJ.out⟩
          · obtain rfl := Option.some.inj ho.symm
            clear ho
            have d2 : fr0.tmps[(24 : Nat)]? = some (.bool false) := hv ⟨2, .guard⟩ (by simp) rfl
            have x5 : fr0.tmps[(5 : Nat)]? = some (.int .i64 (j : Int)) := hx 5 (by decide)
            clear hv hx
            refine wpOp_step rfl (fun K hK => ?_)
            go_simp
            exact hK _ _ ⟨rfl, HJ.out⟩
          · obtain rfl := Option.some.inj ho.symm
            clear ho
            have d3 : fr0.tmps[(25 : Nat)]? = some (undef) := hv ⟨3, .data⟩ (by simp) rfl
            have d4 : fr0.tmps[(26 : Nat)]? = some (undef) := hv ⟨4, .data⟩ (by simp) rfl
            have d2 : fr0.tmps[(24 : Nat)]? = some (.bool false) := hv ⟨2, .guard⟩ (by simp) rfl
            clear hv hx
            refine wpOp_step rfl (fun K hK => ?_)
            go_simp
            exact hK _ _ ⟨rfl, HJ.out⟩
          · obtain rfl := Option.some.inj ho.symm
            clear ho
            have d2 : fr0.tmps[(24 : Nat)]? = some (.bool false) := hv ⟨2, .data⟩ (by simp) rfl
            have d5 : fr0.tmps[(27 : Nat)]? = some (undef) := hv ⟨5, .data⟩ (by simp) rfl
            clear hv hx
            refine wpOp_step rfl (fun K hK => ?_)
            go_simp
            exact hK _ _ ⟨rfl, HJ.out⟩
          · obtain rfl := Option.some.inj ho.symm
            clear ho
            have d6 : fr0.tmps[(28 : Nat)]? = some (.bool false) := hv ⟨6, .data⟩ (by simp) rfl
            clear hv hx
            refine wpOp_step rfl (fun K hK => ?_)
            go_simp
            exact hK _ _ ⟨rfl, HJ.out⟩
          · obtain rfl := Option.some.inj ho.symm
            clear ho
            have d7 : fr0.tmps[(29 : Nat)]? = some (.bool false) := hv ⟨7, .guard⟩ (by simp) rfl
            have x6 : fr0.tmps[(6 : Nat)]? = some (.pointer (some ⟨g, 0, none⟩)) := hx 6 (by decide)
            clear hv hx
            refine wpOp_step rfl (fun K hK => ?_)
            go_simp
            exact hK _ _ ⟨rfl, HJ.out⟩
          · obtain rfl := Option.some.inj ho.symm
            clear ho
            have d7 : fr0.tmps[(29 : Nat)]? = some (.bool false) := hv ⟨7, .guard⟩ (by simp) rfl
            have x4 : fr0.tmps[(4 : Nat)]? = some (.int .i64 (i : Int)) := hx 4 (by decide)
            clear hv hx
            refine wpOp_step rfl (fun K hK => ?_)
            go_simp
            exact hK _ _ ⟨rfl, HJ.out⟩
          · obtain rfl := Option.some.inj ho.symm
            clear ho
            have d7 : fr0.tmps[(29 : Nat)]? = some (.bool false) := hv ⟨7, .guard⟩ (by simp) rfl
            have x5 : fr0.tmps[(5 : Nat)]? = some (.int .i64 (j : Int)) := hx 5 (by decide)
            clear hv hx
            refine wpOp_step rfl (fun K hK => ?_)
            go_simp
            exact hK _ _ ⟨rfl, HJ.out⟩
          · obtain rfl := Option.some.inj ho.symm
            clear ho
            have d9 : fr0.tmps[(31 : Nat)]? = some (undef) := hv ⟨9, .data⟩ (by simp) rfl
            have d10 : fr0.tmps[(32 : Nat)]? = some (undef) := hv ⟨10, .data⟩ (by simp) rfl
            have d7 : fr0.tmps[(29 : Nat)]? = some (.bool false) := hv ⟨7, .guard⟩ (by simp) rfl
            clear hv hx
            refine wpOp_step rfl (fun K hK => ?_)
            go_simp
            exact hK _ _ ⟨rfl, HJ.out⟩
          · obtain rfl := Option.some.inj ho.symm
            clear ho
            have d8 : fr0.tmps[(30 : Nat)]? = some (undef) := hv ⟨8, .data⟩ (by simp) rfl
            have d11 : fr0.tmps[(33 : Nat)]? = some (undef) := hv ⟨11, .data⟩ (by simp) rfl
            have d7 : fr0.tmps[(29 : Nat)]? = some (.bool false) := hv ⟨7, .guard⟩ (by simp) rfl
            clear hv hx
            refine wpOp_step rfl (fun K hK => ?_)
            go_simp
            exact hK _ _ ⟨rfl, HJ.out⟩
          · obtain rfl := Option.some.inj ho.symm
            clear ho
            have d7 : fr0.tmps[(29 : Nat)]? = some (.bool false) := hv ⟨7, .data⟩ (by simp) rfl
            have d12 : fr0.tmps[(34 : Nat)]? = some (undef) := hv ⟨12, .data⟩ (by simp) rfl
            clear hv hx
            refine wpOp_step rfl (fun K hK => ?_)
            go_simp
            exact hK _ _ ⟨rfl, HJ.out⟩
          · obtain rfl := Option.some.inj ho.symm
            clear ho
            have d13 : fr0.tmps[(35 : Nat)]? = some (.bool false) := hv ⟨13, .data⟩ (by simp) rfl
            clear hv hx
            refine wpOp_step rfl (fun K hK => ?_)
            go_simp
            exact hK _ _ ⟨rfl, HJ.out⟩
          · obtain rfl := Option.some.inj ho.symm
            clear ho
            have d14 : fr0.tmps[(36 : Nat)]? = some (.bool false) := hv ⟨14, .guard⟩ (by simp) rfl
            have x3 : fr0.tmps[(3 : Nat)]? = some (.pointer (some ⟨B0, 0, none⟩)) := hx 3 (by decide)
            clear hv hx
            refine wpOp_step rfl (fun K hK => ?_)
            go_simp
            exact hK _ _ ⟨rfl, HJ.out⟩
          · obtain rfl := Option.some.inj ho.symm
            clear ho
            have d14 : fr0.tmps[(36 : Nat)]? = some (.bool false) := hv ⟨14, .guard⟩ (by simp) rfl
            have x6 : fr0.tmps[(6 : Nat)]? = some (.pointer (some ⟨g, 0, none⟩)) := hx 6 (by decide)
            clear hv hx
            refine wpOp_step rfl (fun K hK => ?_)
            go_simp
            exact hK _ _ ⟨rfl, HJ.out⟩
          · obtain rfl := Option.some.inj ho.symm
            clear ho
            have d14 : fr0.tmps[(36 : Nat)]? = some (.bool false) := hv ⟨14, .guard⟩ (by simp) rfl
            have x7 : fr0.tmps[(7 : Nat)]? = some (.int .i64 (C : Int)) := hx 7 (by decide)
            clear hv hx
            refine wpOp_step rfl (fun K hK => ?_)
            go_simp
            exact hK _ _ ⟨rfl, HJ.out⟩
          · obtain rfl := Option.some.inj ho.symm
            clear ho
            have d15 : fr0.tmps[(37 : Nat)]? = some (undef) := hv ⟨15, .data⟩ (by simp) rfl
            have d16 : fr0.tmps[(38 : Nat)]? = some (undef) := hv ⟨16, .data⟩ (by simp) rfl
            have d17 : fr0.tmps[(39 : Nat)]? = some (undef) := hv ⟨17, .data⟩ (by simp) rfl
            have d14 : fr0.tmps[(36 : Nat)]? = some (.bool false) := hv ⟨14, .guard⟩ (by simp) rfl
            clear hv hx
            refine wpOp_step rfl (fun K hK => ?_)
            go_simp
            exact hK _ _ ⟨rfl, HJ.out⟩
          · obtain rfl := Option.some.inj ho.symm
            clear ho
            have d18 : fr0.tmps[(40 : Nat)]? = some (undef) := hv ⟨18, .data⟩ (by simp) rfl
            have d14 : fr0.tmps[(36 : Nat)]? = some (.bool false) := hv ⟨14, .guard⟩ (by simp) rfl
            clear hv hx
            refine wpOp_step rfl (fun K hK => ?_)
            go_simp
            exact hK _ _ ⟨rfl, HJ.out⟩
          · obtain rfl := Option.some.inj ho.symm
            clear ho
            have d14 : fr0.tmps[(36 : Nat)]? = some (.bool false) := hv ⟨14, .data⟩ (by simp) rfl
            have d19 : fr0.tmps[(41 : Nat)]? = some (undef) := hv ⟨19, .data⟩ (by simp) rfl
            clear hv hx
            refine wpOp_step rfl (fun K hK => ?_)
            go_simp
            exact hK _ _ ⟨rfl, HJ.out⟩
        case he =>
          intro w' hJ
          simp only [putF, valsAt, Nat.reduceAdd, Nat.zero_add, List.getD_cons_zero, List.getD_cons_succ, Act.put, List.setIfInBounds_toArray, List.set_cons_succ, List.set_cons_zero]
          gi_wp2
          exact HNX.out _ HNO.out hJ
      · have k1 : (C != 9223372036854775807) = true := by simpa using kA
        by_cases kB : i = j
        · have HNO : Hid (celB (2 * N) m (i, j) = false) := Lib.hid (by unfold celB; simp [kB])
          have k2 : ((i : Int) != (j : Int)) = false := by simp [kB]
          clear kA kB
          gi_wp2
          refine wp_region_round (by kernel_rfl) (by kernel_rfl) ?lo ?_
          case lo => rintro ⟨_, _, h⟩; exact h
          refine wpAny_vals [22, 23, 24, 25, 26, 27, 28, 29, 30, 31, 32, 33, 34, 35, 36, 37, 38, 39, 40, 41, 42] [.int .i64 (C : Int), .bool true, .bool true, .int .i64 (i : Int), .int .i64 (j : Int), .bool false, .bool false, .bool false, undef, undef, undef, undef, undef, .bool false, .bool false, undef, undef, undef, undef, undef, .bool false] (fun w' => Below A4.heap.size A4 w') rfl (by kernel_rfl) (by decide) (by kernel_rfl) ?hs ?he ?hj
          case hj => exact (Below.refl _ _).drew
          case hs =>
            intro qi qo ho fr0 hv hx w' hJ
            have hi : qi < 21 := (Array.getElem?_eq_some_iff.1 ho).1
            have c0 : w'.cell? ⟨g, 0, none⟩ = some (.int .i64 i) := (hJ.cell (p := ⟨g, 0, none⟩) HG.out.1).trans HG.out.2.1
            have c1 : w'.cell? ⟨g, 1, none⟩ = some (.int .i64 j) := (hJ.cell (p := ⟨g, 1, none⟩) HG.out.1).trans HG.out.2.2.1
            have c3 : w'.cell? ⟨B0, 0, none⟩ = some (.func (.yield l) #[] #[]) := (hJ.cell (p := ⟨B0, 0, none⟩) HG.out.2.2.2.1).trans HG.out.2.2.2.2
            have HJ := Lib.hid hJ
            clear hJ
            have hcase : qi = 0 ∨ qi = 1 ∨ qi = 2 ∨ qi = 3 ∨ qi = 4 ∨ qi = 5 ∨ qi = 6 ∨ qi = 7 ∨ qi = 8 ∨ qi = 9 ∨ qi = 10 ∨ qi = 11 ∨ qi = 12 ∨ qi = 13 ∨ qi = 14 ∨ qi = 15 ∨ qi = 16 ∨ qi = 17 ∨ qi = 18 ∨ qi = 19 ∨ qi = 20 := by omega
            clear hi
            rcases hcase with rfl | rfl | rfl | rfl | rfl | rfl | rfl | rfl | rfl | rfl | rfl | rfl | rfl | rfl | rfl | rfl | rfl | rfl | rfl | rfl | rfl
            · obtain rfl := Option.some.inj ho.symm
              clear ho
              have x7 : fr0.tmps[(7 : Nat)]? = some (.int .i64 (C : Int)) := hx 7 (by decide)
              clear hv hx
              refine wpOp_step rfl (fun K hK => ?_)
              go_simp
              exact hK _ _ ⟨rfl, HJ.out⟩
            · obtain rfl := Option.some.inj ho.symm
              clear ho
              have d0 : fr0.tmps[(22 : Nat)]? = some (.int .i64 (C : Int)) := hv ⟨0, .data⟩ (by simp) rfl
              clear hv hx
              refine wpOp_step rfl (fun K hK => ?_)
              go_simp
              exact hK _ _ ⟨rfl, HJ.out⟩
            · obtain rfl := Option.some.inj ho.symm
              clear ho
              have d1 : fr0.tmps[(23 : Nat)]? = some (.bool true) := hv ⟨1, .data⟩ (by simp) rfl
              clear hv hx
              refine wpOp_step rfl (fun K hK => ?_)
              go_simp
              exact hK _ _ ⟨rfl, HJ.out⟩
            · obtain rfl := Option.some.inj ho.symm
              clear ho
              have d2 : fr0.tmps[(24 : Nat)]? = some (.bool true) := hv ⟨2, .guard⟩ (by simp) rfl
              have x4 : fr0.tmps[(4 : Nat)]? = some (.int .i64 (i : Int)) := hx 4 (by decide)
              clear hv hx
              refine wpOp_step rfl (fun K hK => ?_)
              go_simp
              exact hK _ _ ⟨rfl, HJ.out⟩
            · obtain rfl := Option.some.inj ho.symm
              clear ho
              have d2 : fr0.tmps[(24 : Nat)]? = some (.bool true) := hv ⟨2, .guard⟩ (by simp) rfl
              have x5 : fr0.tmps[(5 : Nat)]? = some (.int .i64 (j : Int)) := hx 5 (by decide)
              clear hv hx
              refine wpOp_step rfl (fun K hK => ?_)
              go_simp
              exact hK _ _ ⟨rfl, HJ.out⟩
            · obtain rfl := Option.some.inj ho.symm
              clear ho
              have d3 : fr0.tmps[(25 : Nat)]? = some (.int .i64 (i : Int)) := hv ⟨3, .data⟩ (by simp) rfl
              have d4 : fr0.tmps[(26 : Nat)]? = some (.int .i64 (j : Int)) := hv ⟨4, .data⟩ (by simp) rfl
              have d2 : fr0.tmps[(24 : Nat)]? = some (.bool true) := hv ⟨2, .guard⟩ (by simp) rfl
              clear hv hx
              refine wpOp_step rfl (fun K hK => ?_)
              go_simp
              exact hK _ _ ⟨rfl, HJ.out⟩
            · obtain rfl := Option.some.inj ho.symm
              clear ho
              have d2 : fr0.tmps[(24 : Nat)]? = some (.bool true) := hv ⟨2, .data⟩ (by simp) rfl
              have d5 : fr0.tmps[(27 : Nat)]? = some (.bool false) := hv ⟨5, .data⟩ (by simp) rfl
              clear hv hx
              refine wpOp_step rfl (fun K hK => ?_)
              go_simp
              exact hK _ _ ⟨rfl, HJ.out⟩
            · obtain rfl := Option.some.inj ho.symm
              clear ho
              have d6 : fr0.tmps[(28 : Nat)]? = some (.bool false) := hv ⟨6, .data⟩ (by simp) rfl
              clear hv hx
              refine wpOp_step rfl (fun K hK => ?_)
              go_simp
              exact hK _ _ ⟨rfl, HJ.out⟩
            · obtain rfl := Option.some.inj ho.symm
              clear ho
              have d7 : fr0.tmps[(29 : Nat)]? = some (.bool false) := hv ⟨7, .guard⟩ (by simp) rfl
              have x6 : fr0.tmps[(6 : Nat)]? = some (.pointer (some ⟨g, 0, none⟩)) := hx 6 (by decide)
              clear hv hx
              refine wpOp_step rfl (fun K hK => ?_)
              go_simp
              exact hK _ _ ⟨rfl, HJ.out⟩
            · obtain rfl := Option.some.inj ho.symm
              clear ho
              have d7 : fr0.tmps[(29 : Nat)]? = some (.bool false) := hv ⟨7, .guard⟩ (by simp) rfl
              have x4 : fr0.tmps[(4 : Nat)]? = some (.int .i64 (i : Int)) := hx 4 (by decide)
              clear hv hx
              refine wpOp_step rfl (fun K hK => ?_)
              go_simp
              exact hK _ _ ⟨rfl, HJ.out⟩
            · obtain rfl := Option.some.inj ho.symm
              clear ho
              have d7 : fr0.tmps[(29 : Nat)]? = some (.bool false) := hv ⟨7, .guard⟩ (by simp) rfl
              have x5 : fr0.tmps[(5 : Nat)]? = some (.int .i64 (j : Int)) := hx 5 (by decide)
              clear hv hx
              refine wpOp_step rfl (fun K hK => ?_)
              go_simp
              exact hK _ _ ⟨rfl, HJ.out⟩
            · obtain rfl := Option.some.inj ho.symm
              clear ho
              have d9 : fr0.tmps[(31 : Nat)]? = some (undef) := hv ⟨9, .data⟩ (by simp) rfl
              have d10 : fr0.tmps[(32 : Nat)]? = some (undef) := hv ⟨10, .data⟩ (by simp) rfl
              have d7 : fr0.tmps[(29 : Nat)]? = some (.bool false) := hv ⟨7, .guard⟩ (by simp) rfl
              clear hv hx
              refine wpOp_step rfl (fun K hK => ?_)
              go_simp
              exact hK _ _ ⟨rfl, HJ.out⟩
            · obtain rfl := Option.some.inj ho.symm
              clear ho
              have d8 : fr0.tmps[(30 : Nat)]? = some (undef) := hv ⟨8, .data⟩ (by simp) rfl
              have d11 : fr0.tmps[(33 : Nat)]? = some (undef) := hv ⟨11, .data⟩ (by simp) rfl
              have d7 : fr0.tmps[(29 : Nat)]? = some (.bool false) := hv ⟨7, .guard⟩ (by simp) rfl
              clear hv hx
              refine wpOp_step rfl (fun K hK => ?_)
              go_simp
              exact hK _ _ ⟨rfl, HJ.out⟩
            · obtain rfl := Option.some.inj ho.symm
              clear ho
              have d7 : fr0.tmps[(29 : Nat)]? = some (.bool false) := hv ⟨7, .data⟩ (by simp) rfl
              have d12 : fr0.tmps[(34 : Nat)]? = some (undef) := hv ⟨12, .data⟩ (by simp) rfl
              clear hv hx
              refine wpOp_step rfl (fun K hK => ?_)
              go_simp
              exact hK _ _ ⟨rfl, HJ.out⟩
            · obtain rfl := Option.some.inj ho.symm
              clear ho
              have d13 : fr0.tmps[(35 : Nat)]? = some (.bool false) := hv ⟨13, .data⟩ (by simp) rfl
              clear hv hx
              refine wpOp_step rfl (fun K hK => ?_)
              go_simp
              exact hK _ _ ⟨rfl, HJ.out⟩
            · obtain rfl := Option.some.inj ho.symm
              clear ho
              have d14 : fr0.tmps[(36 : Nat)]? = some (.bool false) := hv ⟨14, .guard⟩ (by simp) rfl
              have x3 : fr0.tmps[(3 : Nat)]? = some (.pointer (some ⟨B0, 0, none⟩)) := hx 3 (by decide)
              clear hv hx
              refine wpOp_step rfl (fun K hK => ?_)
              go_simp
              exact hK _ _ ⟨rfl, HJ.out⟩
            · obtain rfl := Option.some.inj ho.symm
              clear ho
              have d14 : fr0.tmps[(36 : Nat)]? = some (.bool false) := hv ⟨14, .guard⟩ (by simp) rfl
              have x6 : fr0.tmps[(6 : Nat)]? = some (.pointer (some ⟨g, 0, none⟩)) := hx 6 (by decide)
              clear hv hx
              refine wpOp_step rfl (fun K hK => ?_)
              go_simp
              exact hK _ _ ⟨rfl, HJ.out⟩
            · obtain rfl := Option.some.inj ho.symm
              clear ho
              have d14 : fr0.tmps[(36 : Nat)]? = some (.bool false) := hv ⟨14, .guard⟩ (by simp) rfl
              have x7 : fr0.tmps[(7 : Nat)]? = some (.int .i64 (C : Int)) := hx 7 (by decide)
              clear hv hx
              refine wpOp_step rfl (fun K hK => ?_)
              go_simp
              exact hK _ _ ⟨rfl, HJ.out⟩
            · obtain rfl := Option.some.inj ho.symm
              clear ho
              have d15 : fr0.tmps[(37 : Nat)]? = some (undef) := hv ⟨15, .data⟩ (by simp) rfl
              have d16 : fr0.tmps[(38 : Nat)]? = some (undef) := hv ⟨16, .data⟩ (by simp) rfl
              have d17 : fr0.tmps[(39 : Nat)]? = some (undef) := hv ⟨17, .data⟩ (by simp) rfl
              have d14 : fr0.tmps[(36 : Nat)]? = some (.bool false) := hv ⟨14, .guard⟩ (by simp) rfl
              clear hv hx
              refine wpOp_step rfl (fun K hK => ?_)
              go_simp
              exact hK _ _ ⟨rfl, HJ.out⟩
            · obtain rfl := Option.some.inj ho.symm
              clear ho
              have d18 : fr0.tmps[(40 : Nat)]? = some (undef) := hv ⟨18, .data⟩ (by simp) rfl
              have d14 : fr0.tmps[(36 : Nat)]? = some (.bool false) := hv ⟨14, .guard⟩ (by simp) rfl
              clear hv hx
              refine wpOp_step rfl (fun K hK => ?_)
              go_simp
              exact hK _ _ ⟨rfl, HJ.out⟩
            · obtain rfl := Option.some.inj ho.symm
              clear ho
              have d14 : fr0.tmps[(36 : Nat)]? = some (.bool false) := hv ⟨14, .data⟩ (by simp) rfl
              have d19 : fr0.tmps[(41 : Nat)]? = some (undef) := hv ⟨19, .data⟩ (by simp) rfl
              clear hv hx
              refine wpOp_step rfl (fun K hK => ?_)
              go_simp
              exact hK _ _ ⟨rfl, HJ.out⟩
          case he =>
            intro w' hJ
            simp only [putF, valsAt, Nat.reduceAdd, Nat.zero_add, List.getD_cons_zero, List.getD_cons_succ, Act.put, List.setIfInBounds_toArray, List.set_cons_succ, List.set_cons_zero]
            gi_wp2
            exact HNX.out _ HNO.out hJ
        · have k2 : ((i : Int) != (j : Int)) = true := by simp; omega
          by_cases kC : F1 = i ∧ F2 = j
          · obtain ⟨rfl, rfl⟩ := kC
            have HYS : Hid (celB (2 * N) m (F1, F2) = true) := Lib.hid (by unfold celB; simp [HCF.out.1, HCF.out.2.1, kA, kB])
            have hcl := celL_yes (l := pre) HYS.out
            have hpq := celL_pre (n := 2 * N) (m := m) HCF.out.2.2
            rw [hcl] at hpq
            simp only [HCF.out.1] at hcl hpq
            have HCL := Lib.hid hcl
            have HYY : Hid (∀ w'', Below A4.heap.size A4 w'' → YieldAt Fence.wide 2 Try.prog l (encC ((F1, F2), C)) w'' fun e W' => (e = .returned (.bool true) ∧ J (celL (2 * N) m pre ++ [((F1, F2), C)]) W' ∧ Above W.heap.size w'' W') ∨ (e = .returned (.bool false) ∧ Jx (celL (2 * N) m pre ++ [((F1, F2), C)]) W' ∧ Above W.heap.size w'' W')) := Lib.hid fun w'' hb => by
              have hb2 : Below A2.heap.size A2 w'' := HB4.out.trans (hb.mono HB4.out.size)
              have h1 := HI2.out.below HJS.out hb2 HI2.out.b0.lt HI2.out.bv.lt (by have := HS2.out; have := HZ0.out; have := HW.out.1; omega)
              exact HY.out _ _ _ h1.j hpq
            clear kA kB hcl hpq
            have heq : ∀ w, (Op.equalIn 10000 54 (.agg #[.int .i64 F1, .int .i64 F2]) (.agg #[.int .i64 F1, .int .i64 F2])).run Try.prog w = .ok true w := fun w => by rw [eq_pair]; simp
            gi_wp2
            refine wpIn_region_any (by kernel_rfl) ?_
            refine wpAnyIn_mem3 [some 22, some 23, some 24, some 25, some 26, some 27, some 28, some 29, some 30, some 31, some 32, some 33, some 34, some 35, some 36, some 37, some 38, some 39, some 40, some 41, some 42] (fun R => valsAt [.int .i64 (C : Int), .bool true, .bool true, .int .i64 (F1 : Int), .int .i64 (F2 : Int), .bool true, .bool true, .bool true, .agg #[.int .i64 (F1 : Int), .int .i64 (F2 : Int)], .int .i64 (F1 : Int), .int .i64 (F2 : Int), .agg #[.int .i64 (F1 : Nat), .int .i64 (F2 : Nat)], .bool true, .bool true, .bool true, .func (.yield l) #[] #[], .agg #[.int .i64 (F1 : Int), .int .i64 (F2 : Int)], .int .i64 (C : Int), R, notV R, notV R]) (fun l R w' => (l.getD 18 false = false ∧ Below A4.heap.size A4 w') ∨ (l.getD 18 false = true ∧ YdJ J Jx W.heap.size A4 (celL (2 * N) m pre ++ [((F1, F2), C)]) R w')) 18 40 undef rfl ?hvs (by kernel_rfl) (by kernel_rfl) (by kernel_rfl) ?hs ?he ?hj
            case hvs =>
              intro R R' j hj hwait
              rcases j with _ | _ | _ | _ | _ | _ | _ | _ | _ | _ | _ | _ | _ | _ | _ | _ | _ | _ | _ | _ | _ | j
              · rfl
              · rfl
              · rfl
              · rfl
              · rfl
              · rfl
              · rfl
              · rfl
              · rfl
              · rfl
              · rfl
              · rfl
              · rfl
              · rfl
              · rfl
              · rfl
              · rfl
              · rfl
              · exact absurd rfl hj
              · exact bt_absurd hwait (by kernel_rfl)
              · exact bt_absurd hwait (by kernel_rfl)
              · rfl
            case hj => exact .inl ⟨rfl, (Below.refl _ _).drew⟩
            case hs =>
              intro qi qo ho hi lz Rz fr0 hl hl0 hup hv hx hcl w' hJ
              have HH := Lib.hid (And.intro hl hJ)
              clear hl hJ
              have hi : qi < 21 := (Array.getElem?_eq_some_iff.1 ho).1
              have hcase : qi = 0 ∨ qi = 1 ∨ qi = 2 ∨ qi = 3 ∨ qi = 4 ∨ qi = 5 ∨ qi = 6 ∨ qi = 7 ∨ qi = 8 ∨ qi = 9 ∨ qi = 10 ∨ qi = 11 ∨ qi = 12 ∨ qi = 13 ∨ qi = 14 ∨ qi = 15 ∨ qi = 16 ∨ qi = 17 ∨ qi = 18 ∨ qi = 19 ∨ qi = 20 := by omega
              clear hi
              rcases hcase with rfl | rfl | rfl | rfl | rfl | rfl | rfl | rfl | rfl | rfl | rfl | rfl | rfl | rfl | rfl | rfl | rfl | rfl | rfl | rfl | rfl
              · obtain rfl := Option.some.inj ho.symm
                clear ho
                have x7 : fr0.tmps[(7 : Nat)]? = some (.int .i64 (C : Int)) := hx 7 (not_up (by decide))
                have hn : lz.getD 18 false = false := not_behind hcl hl0 40 18 (by kernel_rfl)
                have hJ := stb_first HH.out.2 hn
                have c0 : w'.cell? ⟨g, 0, none⟩ = some (.int .i64 (F1 : Int)) := (hJ.cell (p := ⟨g, 0, none⟩) HG.out.1).trans HG.out.2.1
                have c1 : w'.cell? ⟨g, 1, none⟩ = some (.int .i64 (F2 : Int)) := (hJ.cell (p := ⟨g, 1, none⟩) HG.out.1).trans HG.out.2.2.1
                have c3 : w'.cell? ⟨B0, 0, none⟩ = some (.func (.yield l) #[] #[]) := (hJ.cell (p := ⟨B0, 0, none⟩) HG.out.2.2.2.1).trans HG.out.2.2.2.2
                have HJ := Lib.hid hJ
                clear hJ hv hx hcl hl0 hup
                refine wpOp_round (by rintro ⟨_, _, h⟩; exact h) (fun o ho c => noDefer_at (by kernel_rfl) _ o ho c) ?_
                refine wpOp_step rfl (fun K hK => ?_)
                go_simp
                exact hK _ _ ⟨Rz, fun _ => rfl, rfl, .inl ⟨(getD_set_ne false (by decide)).trans hn, HJ.out⟩⟩
              · obtain rfl := Option.some.inj ho.symm
                clear ho
                have d0 : fr0.tmps[(22 : Nat)]? = some (.int .i64 (C : Int)) := hv ⟨0, .data⟩ (by simp) rfl _ rfl
                have hn : lz.getD 18 false = false := not_behind hcl hl0 40 18 (by kernel_rfl)
                have hJ := stb_first HH.out.2 hn
                have c0 : w'.cell? ⟨g, 0, none⟩ = some (.int .i64 (F1 : Int)) := (hJ.cell (p := ⟨g, 0, none⟩) HG.out.1).trans HG.out.2.1
                have c1 : w'.cell? ⟨g, 1, none⟩ = some (.int .i64 (F2 : Int)) := (hJ.cell (p := ⟨g, 1, none⟩) HG.out.1).trans HG.out.2.2.1
                have c3 : w'.cell? ⟨B0, 0, none⟩ = some (.func (.yield l) #[] #[]) := (hJ.cell (p := ⟨B0, 0, none⟩) HG.out.2.2.2.1).trans HG.out.2.2.2.2
                have HJ := Lib.hid hJ
                clear hJ hv hx hcl hl0 hup
                refine wpOp_round (by rintro ⟨_, _, h⟩; exact h) (fun o ho c => noDefer_at (by kernel_rfl) _ o ho c) ?_
                refine wpOp_step rfl (fun K hK => ?_)
                go_simp
                exact hK _ _ ⟨Rz, fun _ => rfl, rfl, .inl ⟨(getD_set_ne false (by decide)).trans hn, HJ.out⟩⟩
              · obtain rfl := Option.some.inj ho.symm
                clear ho
                have d1 : fr0.tmps[(23 : Nat)]? = some (.bool true) := hv ⟨1, .data⟩ (by simp) rfl _ rfl
                have hn : lz.getD 18 false = false := not_behind hcl hl0 40 18 (by kernel_rfl)
                have hJ := stb_first HH.out.2 hn
                have c0 : w'.cell? ⟨g, 0, none⟩ = some (.int .i64 (F1 : Int)) := (hJ.cell (p := ⟨g, 0, none⟩) HG.out.1).trans HG.out.2.1
                have c1 : w'.cell? ⟨g, 1, none⟩ = some (.int .i64 (F2 : Int)) := (hJ.cell (p := ⟨g, 1, none⟩) HG.out.1).trans HG.out.2.2.1
                have c3 : w'.cell? ⟨B0, 0, none⟩ = some (.func (.yield l) #[] #[]) := (hJ.cell (p := ⟨B0, 0, none⟩) HG.out.2.2.2.1).trans HG.out.2.2.2.2
                have HJ := Lib.hid hJ
                clear hJ hv hx hcl hl0 hup
                refine wpOp_round (by rintro ⟨_, _, h⟩; exact h) (fun o ho c => noDefer_at (by kernel_rfl) _ o ho c) ?_
                refine wpOp_step rfl (fun K hK => ?_)
                go_simp
                exact hK _ _ ⟨Rz, fun _ => rfl, rfl, .inl ⟨(getD_set_ne false (by decide)).trans hn, HJ.out⟩⟩
              · obtain rfl := Option.some.inj ho.symm
                clear ho
                have d2 : fr0.tmps[(24 : Nat)]? = some (.bool true) := hv ⟨2, .guard⟩ (by simp) rfl _ rfl
                have x4 : fr0.tmps[(4 : Nat)]? = some (.int .i64 (F1 : Int)) := hx 4 (not_up (by decide))
                have hn : lz.getD 18 false = false := not_behind hcl hl0 40 18 (by kernel_rfl)
                have hJ := stb_first HH.out.2 hn
                have c0 : w'.cell? ⟨g, 0, none⟩ = some (.int .i64 (F1 : Int)) := (hJ.cell (p := ⟨g, 0, none⟩) HG.out.1).trans HG.out.2.1
                have c1 : w'.cell? ⟨g, 1, none⟩ = some (.int .i64 (F2 : Int)) := (hJ.cell (p := ⟨g, 1, none⟩) HG.out.1).trans HG.out.2.2.1
                have c3 : w'.cell? ⟨B0, 0, none⟩ = some (.func (.yield l) #[] #[]) := (hJ.cell (p := ⟨B0, 0, none⟩) HG.out.2.2.2.1).trans HG.out.2.2.2.2
                have HJ := Lib.hid hJ
                clear hJ hv hx hcl hl0 hup
                refine wpOp_round (by rintro ⟨_, _, h⟩; exact h) (fun o ho c => noDefer_at (by kernel_rfl) _ o ho c) ?_
                refine wpOp_step rfl (fun K hK => ?_)
                go_simp
                exact hK _ _ ⟨Rz, fun _ => rfl, rfl, .inl ⟨(getD_set_ne false (by decide)).trans hn, HJ.out⟩⟩
              · obtain rfl := Option.some.inj ho.symm
                clear ho
                have d2 : fr0.tmps[(24 : Nat)]? = some (.bool true) := hv ⟨2, .guard⟩ (by simp) rfl _ rfl
                have x5 : fr0.tmps[(5 : Nat)]? = some (.int .i64 (F2 : Int)) := hx 5 (not_up (by decide))
                have hn : lz.getD 18 false = false := not_behind hcl hl0 40 18 (by kernel_rfl)
                have hJ := stb_first HH.out.2 hn
                have c0 : w'.cell? ⟨g, 0, none⟩ = some (.int .i64 (F1 : Int)) := (hJ.cell (p := ⟨g, 0, none⟩) HG.out.1).trans HG.out.2.1
                have c1 : w'.cell? ⟨g, 1, none⟩ = some (.int .i64 (F2 : Int)) := (hJ.cell (p := ⟨g, 1, none⟩) HG.out.1).trans HG.out.2.2.1
                have c3 : w'.cell? ⟨B0, 0, none⟩ = some (.func (.yield l) #[] #[]) := (hJ.cell (p := ⟨B0, 0, none⟩) HG.out.2.2.2.1).trans HG.out.2.2.2.2
                have HJ := Lib.hid hJ
                clear hJ hv hx hcl hl0 hup
                refine wpOp_round (by rintro ⟨_, _, h⟩; exact h) (fun o ho c => noDefer_at (by kernel_rfl) _ o ho c) ?_
                refine wpOp_step rfl (fun K hK => ?_)
                go_simp
                exact hK _ _ ⟨Rz, fun _ => rfl, rfl, .inl ⟨(getD_set_ne false (by decide)).trans hn, HJ.out⟩⟩
              · obtain rfl := Option.some.inj ho.symm
                clear ho
                have d3 : fr0.tmps[(25 : Nat)]? = some (.int .i64 (F1 : Int)) := hv ⟨3, .data⟩ (by simp) rfl _ rfl
                have d4 : fr0.tmps[(26 : Nat)]? = some (.int .i64 (F2 : Int)) := hv ⟨4, .data⟩ (by simp) rfl _ rfl
                have d2 : fr0.tmps[(24 : Nat)]? = some (.bool true) := hv ⟨2, .guard⟩ (by simp) rfl _ rfl
                have hn : lz.getD 18 false = false := not_behind hcl hl0 40 18 (by kernel_rfl)
                have hJ := stb_first HH.out.2 hn
                have c0 : w'.cell? ⟨g, 0, none⟩ = some (.int .i64 (F1 : Int)) := (hJ.cell (p := ⟨g, 0, none⟩) HG.out.1).trans HG.out.2.1
                have c1 : w'.cell? ⟨g, 1, none⟩ = some (.int .i64 (F2 : Int)) := (hJ.cell (p := ⟨g, 1, none⟩) HG.out.1).trans HG.out.2.2.1
                have c3 : w'.cell? ⟨B0, 0, none⟩ = some (.func (.yield l) #[] #[]) := (hJ.cell (p := ⟨B0, 0, none⟩) HG.out.2.2.2.1).trans HG.out.2.2.2.2
                have HJ := Lib.hid hJ
                clear hJ hv hx hcl hl0 hup
                refine wpOp_round (by rintro ⟨_, _, h⟩; exact h) (fun o ho c => noDefer_at (by kernel_rfl) _ o ho c) ?_
                refine wpOp_step rfl (fun K hK => ?_)
                go_simp
                exact hK _ _ ⟨Rz, fun _ => rfl, rfl, .inl ⟨(getD_set_ne false (by decide)).trans hn, HJ.out⟩⟩
              · obtain rfl := Option.some.inj ho.symm
                clear ho
                have d2 : fr0.tmps[(24 : Nat)]? = some (.bool true) := hv ⟨2, .data⟩ (by simp) rfl _ rfl
                have d5 : fr0.tmps[(27 : Nat)]? = some (.bool true) := hv ⟨5, .data⟩ (by simp) rfl _ rfl
                have hn : lz.getD 18 false = false := not_behind hcl hl0 40 18 (by kernel_rfl)
                have hJ := stb_first HH.out.2 hn
                have c0 : w'.cell? ⟨g, 0, none⟩ = some (.int .i64 (F1 : Int)) := (hJ.cell (p := ⟨g, 0, none⟩) HG.out.1).trans HG.out.2.1
                have c1 : w'.cell? ⟨g, 1, none⟩ = some (.int .i64 (F2 : Int)) := (hJ.cell (p := ⟨g, 1, none⟩) HG.out.1).trans HG.out.2.2.1
                have c3 : w'.cell? ⟨B0, 0, none⟩ = some (.func (.yield l) #[] #[]) := (hJ.cell (p := ⟨B0, 0, none⟩) HG.out.2.2.2.1).trans HG.out.2.2.2.2
                have HJ := Lib.hid hJ
                clear hJ hv hx hcl hl0 hup
                refine wpOp_round (by rintro ⟨_, _, h⟩; exact h) (fun o ho c => noDefer_at (by kernel_rfl) _ o ho c) ?_
                refine wpOp_step rfl (fun K hK => ?_)
                go_simp
                exact hK _ _ ⟨Rz, fun _ => rfl, rfl, .inl ⟨(getD_set_ne false (by decide)).trans hn, HJ.out⟩⟩
              · obtain rfl := Option.some.inj ho.symm
                clear ho
                have d6 : fr0.tmps[(28 : Nat)]? = some (.bool true) := hv ⟨6, .data⟩ (by simp) rfl _ rfl
                have hn : lz.getD 18 false = false := not_behind hcl hl0 40 18 (by kernel_rfl)
                have hJ := stb_first HH.out.2 hn
                have c0 : w'.cell? ⟨g, 0, none⟩ = some (.int .i64 (F1 : Int)) := (hJ.cell (p := ⟨g, 0, none⟩) HG.out.1).trans HG.out.2.1
                have c1 : w'.cell? ⟨g, 1, none⟩ = some (.int .i64 (F2 : Int)) := (hJ.cell (p := ⟨g, 1, none⟩) HG.out.1).trans HG.out.2.2.1
                have c3 : w'.cell? ⟨B0, 0, none⟩ = some (.func (.yield l) #[] #[]) := (hJ.cell (p := ⟨B0, 0, none⟩) HG.out.2.2.2.1).trans HG.out.2.2.2.2
                have HJ := Lib.hid hJ
                clear hJ hv hx hcl hl0 hup
                refine wpOp_round (by rintro ⟨_, _, h⟩; exact h) (fun o ho c => noDefer_at (by kernel_rfl) _ o ho c) ?_
                refine wpOp_step rfl (fun K hK => ?_)
                go_simp
                exact hK _ _ ⟨Rz, fun _ => rfl, rfl, .inl ⟨(getD_set_ne false (by decide)).trans hn, HJ.out⟩⟩
              · obtain rfl := Option.some.inj ho.symm
                clear ho
                have d7 : fr0.tmps[(29 : Nat)]? = some (.bool true) := hv ⟨7, .guard⟩ (by simp) rfl _ rfl
                have x6 : fr0.tmps[(6 : Nat)]? = some (.pointer (some ⟨g, 0, none⟩)) := hx 6 (not_up (by decide))
                have hn : lz.getD 18 false = false := not_behind hcl hl0 40 18 (by kernel_rfl)
                have hJ := stb_first HH.out.2 hn
                have c0 : w'.cell? ⟨g, 0, none⟩ = some (.int .i64 (F1 : Int)) := (hJ.cell (p := ⟨g, 0, none⟩) HG.out.1).trans HG.out.2.1
                have c1 : w'.cell? ⟨g, 1, none⟩ = some (.int .i64 (F2 : Int)) := (hJ.cell (p := ⟨g, 1, none⟩) HG.out.1).trans HG.out.2.2.1
                have c3 : w'.cell? ⟨B0, 0, none⟩ = some (.func (.yield l) #[] #[]) := (hJ.cell (p := ⟨B0, 0, none⟩) HG.out.2.2.2.1).trans HG.out.2.2.2.2
                have HJ := Lib.hid hJ
                clear hJ hv hx hcl hl0 hup
                refine wpOp_round (by rintro ⟨_, _, h⟩; exact h) (fun o ho c => noDefer_at (by kernel_rfl) _ o ho c) ?_
                refine wpOp_step rfl (fun K hK => ?_)
                go_simp
                exact hK _ _ ⟨Rz, fun _ => rfl, rfl, .inl ⟨(getD_set_ne false (by decide)).trans hn, HJ.out⟩⟩
              · obtain rfl := Option.some.inj ho.symm
                clear ho
                have d7 : fr0.tmps[(29 : Nat)]? = some (.bool true) := hv ⟨7, .guard⟩ (by simp) rfl _ rfl
                have x4 : fr0.tmps[(4 : Nat)]? = some (.int .i64 (F1 : Int)) := hx 4 (not_up (by decide))
                have hn : lz.getD 18 false = false := not_behind hcl hl0 40 18 (by kernel_rfl)
                have hJ := stb_first HH.out.2 hn
                have c0 : w'.cell? ⟨g, 0, none⟩ = some (.int .i64 (F1 : Int)) := (hJ.cell (p := ⟨g, 0, none⟩) HG.out.1).trans HG.out.2.1
                have c1 : w'.cell? ⟨g, 1, none⟩ = some (.int .i64 (F2 : Int)) := (hJ.cell (p := ⟨g, 1, none⟩) HG.out.1).trans HG.out.2.2.1
                have c3 : w'.cell? ⟨B0, 0, none⟩ = some (.func (.yield l) #[] #[]) := (hJ.cell (p := ⟨B0, 0, none⟩) HG.out.2.2.2.1).trans HG.out.2.2.2.2
                have HJ := Lib.hid hJ
                clear hJ hv hx hcl hl0 hup
                refine wpOp_round (by rintro ⟨_, _, h⟩; exact h) (fun o ho c => noDefer_at (by kernel_rfl) _ o ho c) ?_
                refine wpOp_step rfl (fun K hK => ?_)
                go_simp
                exact hK _ _ ⟨Rz, fun _ => rfl, rfl, .inl ⟨(getD_set_ne false (by decide)).trans hn, HJ.out⟩⟩
              · obtain rfl := Option.some.inj ho.symm
                clear ho
                have d7 : fr0.tmps[(29 : Nat)]? = some (.bool true) := hv ⟨7, .guard⟩ (by simp) rfl _ rfl
                have x5 : fr0.tmps[(5 : Nat)]? = some (.int .i64 (F2 : Int)) := hx 5 (not_up (by decide))
                have hn : lz.getD 18 false = false := not_behind hcl hl0 40 18 (by kernel_rfl)
                have hJ := stb_first HH.out.2 hn
                have c0 : w'.cell? ⟨g, 0, none⟩ = some (.int .i64 (F1 : Int)) := (hJ.cell (p := ⟨g, 0, none⟩) HG.out.1).trans HG.out.2.1
                have c1 : w'.cell? ⟨g, 1, none⟩ = some (.int .i64 (F2 : Int)) := (hJ.cell (p := ⟨g, 1, none⟩) HG.out.1).trans HG.out.2.2.1
                have c3 : w'.cell? ⟨B0, 0, none⟩ = some (.func (.yield l) #[] #[]) := (hJ.cell (p := ⟨B0, 0, none⟩) HG.out.2.2.2.1).trans HG.out.2.2.2.2
                have HJ := Lib.hid hJ
                clear hJ hv hx hcl hl0 hup
                refine wpOp_round (by rintro ⟨_, _, h⟩; exact h) (fun o ho c => noDefer_at (by kernel_rfl) _ o ho c) ?_
                refine wpOp_step rfl (fun K hK => ?_)
                go_simp
                exact hK _ _ ⟨Rz, fun _ => rfl, rfl, .inl ⟨(getD_set_ne false (by decide)).trans hn, HJ.out⟩⟩
              · obtain rfl := Option.some.inj ho.symm
                clear ho
                have d9 : fr0.tmps[(31 : Nat)]? = some (.int .i64 (F1 : Int)) := hv ⟨9, .data⟩ (by simp) rfl _ rfl
                have d10 : fr0.tmps[(32 : Nat)]? = some (.int .i64 (F2 : Int)) := hv ⟨10, .data⟩ (by simp) rfl _ rfl
                have d7 : fr0.tmps[(29 : Nat)]? = some (.bool true) := hv ⟨7, .guard⟩ (by simp) rfl _ rfl
                have hn : lz.getD 18 false = false := not_behind hcl hl0 40 18 (by kernel_rfl)
                have hJ := stb_first HH.out.2 hn
                have c0 : w'.cell? ⟨g, 0, none⟩ = some (.int .i64 (F1 : Int)) := (hJ.cell (p := ⟨g, 0, none⟩) HG.out.1).trans HG.out.2.1
                have c1 : w'.cell? ⟨g, 1, none⟩ = some (.int .i64 (F2 : Int)) := (hJ.cell (p := ⟨g, 1, none⟩) HG.out.1).trans HG.out.2.2.1
                have c3 : w'.cell? ⟨B0, 0, none⟩ = some (.func (.yield l) #[] #[]) := (hJ.cell (p := ⟨B0, 0, none⟩) HG.out.2.2.2.1).trans HG.out.2.2.2.2
                have HJ := Lib.hid hJ
                clear hJ hv hx hcl hl0 hup
                refine wpOp_round (by rintro ⟨_, _, h⟩; exact h) (fun o ho c => noDefer_at (by kernel_rfl) _ o ho c) ?_
                refine wpOp_step rfl (fun K hK => ?_)
                go_simp
                go_at_call 58
                refine (HFI.out _).mono ?_
                rintro e w2 ⟨rfl, hb2⟩
                exact hK _ _ ⟨Rz, fun _ => rfl, rfl, .inl ⟨(getD_set_ne false (by decide)).trans hn, HJ.out.trans (hb2.mono HJ.out.size)⟩⟩
              · obtain rfl := Option.some.inj ho.symm
                clear ho
                have d8 : fr0.tmps[(30 : Nat)]? = some (.agg #[.int .i64 (F1 : Int), .int .i64 (F2 : Int)]) := hv ⟨8, .data⟩ (by simp) rfl _ rfl
                have d11 : fr0.tmps[(33 : Nat)]? = some (.agg #[.int .i64 (F1 : Nat), .int .i64 (F2 : Nat)]) := hv ⟨11, .data⟩ (by simp) rfl _ rfl
                have d7 : fr0.tmps[(29 : Nat)]? = some (.bool true) := hv ⟨7, .guard⟩ (by simp) rfl _ rfl
                have hn : lz.getD 18 false = false := not_behind hcl hl0 40 18 (by kernel_rfl)
                have hJ := stb_first HH.out.2 hn
                have c0 : w'.cell? ⟨g, 0, none⟩ = some (.int .i64 (F1 : Int)) := (hJ.cell (p := ⟨g, 0, none⟩) HG.out.1).trans HG.out.2.1
                have c1 : w'.cell? ⟨g, 1, none⟩ = some (.int .i64 (F2 : Int)) := (hJ.cell (p := ⟨g, 1, none⟩) HG.out.1).trans HG.out.2.2.1
                have c3 : w'.cell? ⟨B0, 0, none⟩ = some (.func (.yield l) #[] #[]) := (hJ.cell (p := ⟨B0, 0, none⟩) HG.out.2.2.2.1).trans HG.out.2.2.2.2
                have HJ := Lib.hid hJ
                clear hJ hv hx hcl hl0 hup
                refine wpOp_round (by rintro ⟨_, _, h⟩; exact h) (fun o ho c => noDefer_at (by kernel_rfl) _ o ho c) ?_
                refine wpOp_step rfl (fun K hK => ?_)
                go_simp
                exact hK _ _ ⟨Rz, fun _ => rfl, rfl, .inl ⟨(getD_set_ne false (by decide)).trans hn, HJ.out⟩⟩
              · obtain rfl := Option.some.inj ho.symm
                clear ho
                have d7 : fr0.tmps[(29 : Nat)]? = some (.bool true) := hv ⟨7, .data⟩ (by simp) rfl _ rfl
                have d12 : fr0.tmps[(34 : Nat)]? = some (.bool true) := hv ⟨12, .data⟩ (by simp) rfl _ rfl
                have hn : lz.getD 18 false = false := not_behind hcl hl0 40 18 (by kernel_rfl)
                have hJ := stb_first HH.out.2 hn
                have c0 : w'.cell? ⟨g, 0, none⟩ = some (.int .i64 (F1 : Int)) := (hJ.cell (p := ⟨g, 0, none⟩) HG.out.1).trans HG.out.2.1
                have c1 : w'.cell? ⟨g, 1, none⟩ = some (.int .i64 (F2 : Int)) := (hJ.cell (p := ⟨g, 1, none⟩) HG.out.1).trans HG.out.2.2.1
                have c3 : w'.cell? ⟨B0, 0, none⟩ = some (.func (.yield l) #[] #[]) := (hJ.cell (p := ⟨B0, 0, none⟩) HG.out.2.2.2.1).trans HG.out.2.2.2.2
                have HJ := Lib.hid hJ
                clear hJ hv hx hcl hl0 hup
                refine wpOp_round (by rintro ⟨_, _, h⟩; exact h) (fun o ho c => noDefer_at (by kernel_rfl) _ o ho c) ?_
                refine wpOp_step rfl (fun K hK => ?_)
                go_simp
                exact hK _ _ ⟨Rz, fun _ => rfl, rfl, .inl ⟨(getD_set_ne false (by decide)).trans hn, HJ.out⟩⟩
              · obtain rfl := Option.some.inj ho.symm
                clear ho
                have d13 : fr0.tmps[(35 : Nat)]? = some (.bool true) := hv ⟨13, .data⟩ (by simp) rfl _ rfl
                have hn : lz.getD 18 false = false := not_behind hcl hl0 40 18 (by kernel_rfl)
                have hJ := stb_first HH.out.2 hn
                have c0 : w'.cell? ⟨g, 0, none⟩ = some (.int .i64 (F1 : Int)) := (hJ.cell (p := ⟨g, 0, none⟩) HG.out.1).trans HG.out.2.1
                have c1 : w'.cell? ⟨g, 1, none⟩ = some (.int .i64 (F2 : Int)) := (hJ.cell (p := ⟨g, 1, none⟩) HG.out.1).trans HG.out.2.2.1
                have c3 : w'.cell? ⟨B0, 0, none⟩ = some (.func (.yield l) #[] #[]) := (hJ.cell (p := ⟨B0, 0, none⟩) HG.out.2.2.2.1).trans HG.out.2.2.2.2
                have HJ := Lib.hid hJ
                clear hJ hv hx hcl hl0 hup
                refine wpOp_round (by rintro ⟨_, _, h⟩; exact h) (fun o ho c => noDefer_at (by kernel_rfl) _ o ho c) ?_
                refine wpOp_step rfl (fun K hK => ?_)
                go_simp
                exact hK _ _ ⟨Rz, fun _ => rfl, rfl, .inl ⟨(getD_set_ne false (by decide)).trans hn, HJ.out⟩⟩
              · obtain rfl := Option.some.inj ho.symm
                clear ho
                have d14 : fr0.tmps[(36 : Nat)]? = some (.bool true) := hv ⟨14, .guard⟩ (by simp) rfl _ rfl
                have x3 : fr0.tmps[(3 : Nat)]? = some (.pointer (some ⟨B0, 0, none⟩)) := hx 3 (not_up (by decide))
                have hn : lz.getD 18 false = false := not_behind hcl hl0 40 18 (by kernel_rfl)
                have hJ := stb_first HH.out.2 hn
                have c0 : w'.cell? ⟨g, 0, none⟩ = some (.int .i64 (F1 : Int)) := (hJ.cell (p := ⟨g, 0, none⟩) HG.out.1).trans HG.out.2.1
                have c1 : w'.cell? ⟨g, 1, none⟩ = some (.int .i64 (F2 : Int)) := (hJ.cell (p := ⟨g, 1, none⟩) HG.out.1).trans HG.out.2.2.1
                have c3 : w'.cell? ⟨B0, 0, none⟩ = some (.func (.yield l) #[] #[]) := (hJ.cell (p := ⟨B0, 0, none⟩) HG.out.2.2.2.1).trans HG.out.2.2.2.2
                have HJ := Lib.hid hJ
                clear hJ hv hx hcl hl0 hup
                refine wpOp_round (by rintro ⟨_, _, h⟩; exact h) (fun o ho c => noDefer_at (by kernel_rfl) _ o ho c) ?_
                refine wpOp_step rfl (fun K hK => ?_)
                go_simp
                exact hK _ _ ⟨Rz, fun _ => rfl, rfl, .inl ⟨(getD_set_ne false (by decide)).trans hn, HJ.out⟩⟩
              · obtain rfl := Option.some.inj ho.symm
                clear ho
                have d14 : fr0.tmps[(36 : Nat)]? = some (.bool true) := hv ⟨14, .guard⟩ (by simp) rfl _ rfl
                have x6 : fr0.tmps[(6 : Nat)]? = some (.pointer (some ⟨g, 0, none⟩)) := hx 6 (not_up (by decide))
                have hn : lz.getD 18 false = false := not_behind hcl hl0 40 18 (by kernel_rfl)
                have hJ := stb_first HH.out.2 hn
                have c0 : w'.cell? ⟨g, 0, none⟩ = some (.int .i64 (F1 : Int)) := (hJ.cell (p := ⟨g, 0, none⟩) HG.out.1).trans HG.out.2.1
                have c1 : w'.cell? ⟨g, 1, none⟩ = some (.int .i64 (F2 : Int)) := (hJ.cell (p := ⟨g, 1, none⟩) HG.out.1).trans HG.out.2.2.1
                have c3 : w'.cell? ⟨B0, 0, none⟩ = some (.func (.yield l) #[] #[]) := (hJ.cell (p := ⟨B0, 0, none⟩) HG.out.2.2.2.1).trans HG.out.2.2.2.2
                have HJ := Lib.hid hJ
                clear hJ hv hx hcl hl0 hup
                refine wpOp_round (by rintro ⟨_, _, h⟩; exact h) (fun o ho c => noDefer_at (by kernel_rfl) _ o ho c) ?_
                refine wpOp_step rfl (fun K hK => ?_)
                go_simp
                exact hK _ _ ⟨Rz, fun _ => rfl, rfl, .inl ⟨(getD_set_ne false (by decide)).trans hn, HJ.out⟩⟩
              · obtain rfl := Option.some.inj ho.symm
                clear ho
                have d14 : fr0.tmps[(36 : Nat)]? = some (.bool true) := hv ⟨14, .guard⟩ (by simp) rfl _ rfl
                have x7 : fr0.tmps[(7 : Nat)]? = some (.int .i64 (C : Int)) := hx 7 (not_up (by decide))
                have hn : lz.getD 18 false = false := not_behind hcl hl0 40 18 (by kernel_rfl)
                have hJ := stb_first HH.out.2 hn
                have c0 : w'.cell? ⟨g, 0, none⟩ = some (.int .i64 (F1 : Int)) := (hJ.cell (p := ⟨g, 0, none⟩) HG.out.1).trans HG.out.2.1
                have c1 : w'.cell? ⟨g, 1, none⟩ = some (.int .i64 (F2 : Int)) := (hJ.cell (p := ⟨g, 1, none⟩) HG.out.1).trans HG.out.2.2.1
                have c3 : w'.cell? ⟨B0, 0, none⟩ = some (.func (.yield l) #[] #[]) := (hJ.cell (p := ⟨B0, 0, none⟩) HG.out.2.2.2.1).trans HG.out.2.2.2.2
                have HJ := Lib.hid hJ
                clear hJ hv hx hcl hl0 hup
                refine wpOp_round (by rintro ⟨_, _, h⟩; exact h) (fun o ho c => noDefer_at (by kernel_rfl) _ o ho c) ?_
                refine wpOp_step rfl (fun K hK => ?_)
                go_simp
                exact hK _ _ ⟨Rz, fun _ => rfl, rfl, .inl ⟨(getD_set_ne false (by decide)).trans hn, HJ.out⟩⟩
              · obtain rfl := Option.some.inj ho.symm
                clear ho
                have d15 : fr0.tmps[(37 : Nat)]? = some (.func (.yield l) #[] #[]) := hv ⟨15, .data⟩ (by simp) rfl _ rfl
                have d16 : fr0.tmps[(38 : Nat)]? = some (.agg #[.int .i64 (F1 : Int), .int .i64 (F2 : Int)]) := hv ⟨16, .data⟩ (by simp) rfl _ rfl
                have d17 : fr0.tmps[(39 : Nat)]? = some (.int .i64 (C : Int)) := hv ⟨17, .data⟩ (by simp) rfl _ rfl
                have d14 : fr0.tmps[(36 : Nat)]? = some (.bool true) := hv ⟨14, .guard⟩ (by simp) rfl _ rfl
                have hn : lz.getD 18 false = false := up_not hl0
                have hJ := stb_first HH.out.2 hn
                have c0 : w'.cell? ⟨g, 0, none⟩ = some (.int .i64 (F1 : Int)) := (hJ.cell (p := ⟨g, 0, none⟩) HG.out.1).trans HG.out.2.1
                have c1 : w'.cell? ⟨g, 1, none⟩ = some (.int .i64 (F2 : Int)) := (hJ.cell (p := ⟨g, 1, none⟩) HG.out.1).trans HG.out.2.2.1
                have c3 : w'.cell? ⟨B0, 0, none⟩ = some (.func (.yield l) #[] #[]) := (hJ.cell (p := ⟨B0, 0, none⟩) HG.out.2.2.2.1).trans HG.out.2.2.2.2
                have HJ := Lib.hid hJ
                obtain ⟨fn, tmps, assign, body, hy, hR⟩ := HYY.out _ hJ
                dsimp only [encC] at hy
                clear hJ hv hx hcl hl0 hup
                refine wpOpIn_step rfl (fun K hK => ?_)
                go_simp
                refine (roundIn_any hR).mono ?_
                clear hy hR
                rintro e w3 (⟨rfl, hj3, ha3⟩ | ⟨rfl, hj3, ha3⟩)
                · exact hK _ _ ⟨.bool true, fun h => absurd rfl h, rfl, .inr ⟨up_self (by rw [HH.out.1]; decide), .inl ⟨rfl, hj3, ((Above.refl _ _).below HJ.out).trans ha3⟩⟩⟩
                · exact hK _ _ ⟨.bool false, fun h => absurd rfl h, rfl, .inr ⟨up_self (by rw [HH.out.1]; decide), .inr ⟨rfl, hj3, ((Above.refl _ _).below HJ.out).trans ha3⟩⟩⟩
              · obtain rfl := Option.some.inj ho.symm
                clear ho
                have d18 : fr0.tmps[(40 : Nat)]? = some (Rz) := hv ⟨18, .data⟩ (by simp) rfl _ rfl
                have d14 : fr0.tmps[(36 : Nat)]? = some (.bool true) := hv ⟨14, .guard⟩ (by simp) rfl _ rfl
                have h18 : lz.getD 18 false = true := hup ⟨18, .data⟩ (by simp) rfl
                have hY := stb_last HH.out.2 h18
                obtain ⟨rb, hrb⟩ := hY.bool
                subst hrb
                have HY2 := Lib.hid hY
                clear hY hv hx hcl hl0 hup
                refine wpOp_round (by rintro ⟨_, _, h⟩; exact h) (fun o ho c => noDefer_at (by kernel_rfl) _ o ho c) ?_
                refine wpOp_step rfl (fun K hK => ?_)
                go_simp
                exact hK _ _ ⟨.bool rb, fun _ => rfl, rfl, .inr ⟨(getD_set_ne false (by decide)).trans h18, HY2.out⟩⟩
              · obtain rfl := Option.some.inj ho.symm
                clear ho
                have d14 : fr0.tmps[(36 : Nat)]? = some (.bool true) := hv ⟨14, .data⟩ (by simp) rfl _ rfl
                have d19 : fr0.tmps[(41 : Nat)]? = some (notV Rz) := hv ⟨19, .data⟩ (by simp) rfl _ rfl
                have h18 : lz.getD 18 false = true := hcl 19 _ rfl (hup ⟨19, .data⟩ (by simp) rfl) ⟨18, .data⟩ (by simp) rfl
                have hY := stb_last HH.out.2 h18
                obtain ⟨rb, hrb⟩ := hY.bool
                subst hrb
                have e19 : fr0.tmps[(41 : Nat)]? = some (.bool (!rb)) := d19
                clear d19
                have HY2 := Lib.hid hY
                clear hY hv hx hcl hl0 hup
                refine wpOp_round (by rintro ⟨_, _, h⟩; exact h) (fun o ho c => noDefer_at (by kernel_rfl) _ o ho c) ?_
                refine wpOp_step rfl (fun K hK => ?_)
                go_simp
                exact hK _ _ ⟨.bool rb, fun _ => rfl, rfl, .inr ⟨(getD_set_ne false (by decide)).trans h18, HY2.out⟩⟩
            case he =>
              intro lz Rz w' hall hJ
              simp only [putM, valsAt, Nat.reduceAdd, Nat.zero_add, List.getD_cons_zero, List.getD_cons_succ, Act.put, List.setIfInBounds_toArray, List.set_cons_succ, List.set_cons_zero]
              have hY := stb_last hJ (hall 18 (by decide))
              clear hJ hall
              rcases hY with ⟨hR, hj3, ha3⟩ | ⟨hR, hj3, ha3⟩
              · subst hR
                simp only [notV]
                have HF : Hid (Above W0.heap.size A2 w' ∧ CeI J (2 * N) N m B0 (B0 + 1) l (pre ++ [(F1, F2)]) w') := Lib.hid (by
                  have hz : W.heap.size ≤ W0.heap.size := by have := HZ0.out; have := HW.out.1; omega
                  have hab : Above W.heap.size A2 w' := ((Above.refl _ A2).below HB4.out).trans ha3
                  exact ⟨hab.mono hz, HI2.out.above hab (by have := HW.out.1; omega) (by have := HW.out.1; omega) (by rw [HCL.out]; exact hj3)⟩)
                clear hj3 ha3
                gi_wp2
                exact HF.out
              · subst hR
                simp only [notV]
                have HF : Hid (Above W0.heap.size A2 w' ∧ (Jx (celL (2 * N) m (pre ++ [(F1, F2)])) w')) := Lib.hid (by
                  have hz : W.heap.size ≤ W0.heap.size := by have := HZ0.out; have := HW.out.1; omega
                  have hab : Above W.heap.size A2 w' := ((Above.refl _ A2).below HB4.out).trans ha3
                  exact ⟨hab.mono hz, by rw [HCL.out]; exact hj3⟩)
                clear hj3 ha3
                gi_wp2
                exact ⟨HF.out.1, rfl, HF.out.2⟩
          · have HNO : Hid (celB (2 * N) m (i, j) = false) := Lib.hid (by unfold celB; simp [HCF.out.2.1]; intro _ _ h1 h2; exact kC ⟨h1, h2⟩)
            have k3 : ((i : Int) == (F1 : Int) && (j : Int) == (F2 : Int)) = false := by
              cases h : ((i : Int) == (F1 : Int) && (j : Int) == (F2 : Int)) with
              | false => rfl
              | true => simp at h; exact absurd ⟨by omega, by omega⟩ kC
            have heq : ∀ w, (Op.equalIn 10000 54 (.agg #[.int .i64 i, .int .i64 j]) (.agg #[.int .i64 F1, .int .i64 F2])).run Try.prog w = .ok false w := fun w => by rw [eq_pair, k3]
            clear kA kB kC k3
            gi_wp2
            refine wp_region_round (by kernel_rfl) (by kernel_rfl) ?lo ?_
            case lo => rintro ⟨_, _, h⟩; exact h
            refine wpAny_vals [22, 23, 24, 25, 26, 27, 28, 29, 30, 31, 32, 33, 34, 35, 36, 37, 38, 39, 40, 41, 42] [.int .i64 (C : Int), .bool true, .bool true, .int .i64 (i : Int), .int .i64 (j : Int), .bool true, .bool true, .bool true, .agg #[.int .i64 i, .int .i64 j], .int .i64 (i : Int), .int .i64 (j : Int), .agg #[.int .i64 (F1 : Nat), .int .i64 (F2 : Nat)], .bool false, .bool false, .bool false, undef, undef, undef, undef, undef, .bool false] (fun w' => Below A4.heap.size A4 w') rfl (by kernel_rfl) (by decide) (by kernel_rfl) ?hs ?he ?hj
            case hj => exact (Below.refl _ _).drew
            case hs =>
              intro qi qo ho fr0 hv hx w' hJ
              have hi : qi < 21 := (Array.getElem?_eq_some_iff.1 ho).1
              have c0 : w'.cell? ⟨g, 0, none⟩ = some (.int .i64 i) := (hJ.cell (p := ⟨g, 0, none⟩) HG.out.1).trans HG.out.2.1
              have c1 : w'.cell? ⟨g, 1, none⟩ = some (.int .i64 j) := (hJ.cell (p := ⟨g, 1, none⟩) HG.out.1).trans HG.out.2.2.1
              have c3 : w'.cell? ⟨B0, 0, none⟩ = some (.func (.yield l) #[] #[]) := (hJ.cell (p := ⟨B0, 0, none⟩) HG.out.2.2.2.1).trans HG.out.2.2.2.2
              have HJ := Lib.hid hJ
              clear hJ
              have hcase : qi = 0 ∨ qi = 1 ∨ qi = 2 ∨ qi = 3 ∨ qi = 4 ∨ qi = 5 ∨ qi = 6 ∨ qi = 7 ∨ qi = 8 ∨ qi = 9 ∨ qi = 10 ∨ qi = 11 ∨ qi = 12 ∨ qi = 13 ∨ qi = 14 ∨ qi = 15 ∨ qi = 16 ∨ qi = 17 ∨ qi = 18 ∨ qi = 19 ∨ qi = 20 := by omega
              clear hi
              rcases hcase with rfl | rfl | rfl | rfl | rfl | rfl | rfl | rfl | rfl | rfl | rfl | rfl | rfl | rfl | rfl | rfl | rfl | rfl | rfl | rfl | rfl
              · obtain rfl := Option.some.inj ho.symm
                clear ho
                have x7 : fr0.tmps[(7 : Nat)]? = some (.int .i64 (C : Int)) := hx 7 (by decide)
                clear hv hx
                refine wpOp_step rfl (fun K hK => ?_)
                go_simp
                exact hK _ _ ⟨rfl, HJ.out⟩
              · obtain rfl := Option.some.inj ho.symm
                clear ho
                have d0 : fr0.tmps[(22 : Nat)]? = some (.int .i64 (C : Int)) := hv ⟨0, .data⟩ (by simp) rfl
                clear hv hx
                refine wpOp_step rfl (fun K hK => ?_)
                go_simp
                exact hK _ _ ⟨rfl, HJ.out⟩
              · obtain rfl := Option.some.inj ho.symm
                clear ho
                have d1 : fr0.tmps[(23 : Nat)]? = some (.bool true) := hv ⟨1, .data⟩ (by simp) rfl
                clear hv hx
                refine wpOp_step rfl (fun K hK => ?_)
                go_simp
                exact hK _ _ ⟨rfl, HJ.out⟩
              · obtain rfl := Option.some.inj ho.symm
                clear ho
                have d2 : fr0.tmps[(24 : Nat)]? = some (.bool true) := hv ⟨2, .guard⟩ (by simp) rfl
                have x4 : fr0.tmps[(4 : Nat)]? = some (.int .i64 (i : Int)) := hx 4 (by decide)
                clear hv hx
                refine wpOp_step rfl (fun K hK => ?_)
                go_simp
                exact hK _ _ ⟨rfl, HJ.out⟩
              · obtain rfl := Option.some.inj ho.symm
                clear ho
                have d2 : fr0.tmps[(24 : Nat)]? = some (.bool true) := hv ⟨2, .guard⟩ (by simp) rfl
                have x5 : fr0.tmps[(5 : Nat)]? = some (.int .i64 (j : Int)) := hx 5 (by decide)
                clear hv hx
                refine wpOp_step rfl (fun K hK => ?_)
                go_simp
                exact hK _ _ ⟨rfl, HJ.out⟩
              · obtain rfl := Option.some.inj ho.symm
                clear ho
                have d3 : fr0.tmps[(25 : Nat)]? = some (.int .i64 (i : Int)) := hv ⟨3, .data⟩ (by simp) rfl
                have d4 : fr0.tmps[(26 : Nat)]? = some (.int .i64 (j : Int)) := hv ⟨4, .data⟩ (by simp) rfl
                have d2 : fr0.tmps[(24 : Nat)]? = some (.bool true) := hv ⟨2, .guard⟩ (by simp) rfl
                clear hv hx
                refine wpOp_step rfl (fun K hK => ?_)
                go_simp
                exact hK _ _ ⟨rfl, HJ.out⟩
              · obtain rfl := Option.some.inj ho.symm
                clear ho
                have d2 : fr0.tmps[(24 : Nat)]? = some (.bool true) := hv ⟨2, .data⟩ (by simp) rfl
                have d5 : fr0.tmps[(27 : Nat)]? = some (.bool true) := hv ⟨5, .data⟩ (by simp) rfl
                clear hv hx
                refine wpOp_step rfl (fun K hK => ?_)
                go_simp
                exact hK _ _ ⟨rfl, HJ.out⟩
              · obtain rfl := Option.some.inj ho.symm
                clear ho
                have d6 : fr0.tmps[(28 : Nat)]? = some (.bool true) := hv ⟨6, .data⟩ (by simp) rfl
                clear hv hx
                refine wpOp_step rfl (fun K hK => ?_)
                go_simp
                exact hK _ _ ⟨rfl, HJ.out⟩
              · obtain rfl := Option.some.inj ho.symm
                clear ho
                have d7 : fr0.tmps[(29 : Nat)]? = some (.bool true) := hv ⟨7, .guard⟩ (by simp) rfl
                have x6 : fr0.tmps[(6 : Nat)]? = some (.pointer (some ⟨g, 0, none⟩)) := hx 6 (by decide)
                clear hv hx
                refine wpOp_step rfl (fun K hK => ?_)
                go_simp
                exact hK _ _ ⟨rfl, HJ.out⟩
              · obtain rfl := Option.some.inj ho.symm
                clear ho
                have d7 : fr0.tmps[(29 : Nat)]? = some (.bool true) := hv ⟨7, .guard⟩ (by simp) rfl
                have x4 : fr0.tmps[(4 : Nat)]? = some (.int .i64 (i : Int)) := hx 4 (by decide)
                clear hv hx
                refine wpOp_step rfl (fun K hK => ?_)
                go_simp
                exact hK _ _ ⟨rfl, HJ.out⟩
              · obtain rfl := Option.some.inj ho.symm
                clear ho
                have d7 : fr0.tmps[(29 : Nat)]? = some (.bool true) := hv ⟨7, .guard⟩ (by simp) rfl
                have x5 : fr0.tmps[(5 : Nat)]? = some (.int .i64 (j : Int)) := hx 5 (by decide)
                clear hv hx
                refine wpOp_step rfl (fun K hK => ?_)
                go_simp
                exact hK _ _ ⟨rfl, HJ.out⟩
              · obtain rfl := Option.some.inj ho.symm
                clear ho
                have d9 : fr0.tmps[(31 : Nat)]? = some (.int .i64 (i : Int)) := hv ⟨9, .data⟩ (by simp) rfl
                have d10 : fr0.tmps[(32 : Nat)]? = some (.int .i64 (j : Int)) := hv ⟨10, .data⟩ (by simp) rfl
                have d7 : fr0.tmps[(29 : Nat)]? = some (.bool true) := hv ⟨7, .guard⟩ (by simp) rfl
                clear hv hx
                refine wpOp_step rfl (fun K hK => ?_)
                go_simp
                go_at_call 58
                refine (HFI.out _).mono ?_
                rintro e w2 ⟨rfl, hb2⟩
                exact hK _ _ ⟨rfl, HJ.out.trans (hb2.mono HJ.out.size)⟩
              · obtain rfl := Option.some.inj ho.symm
                clear ho
                have d8 : fr0.tmps[(30 : Nat)]? = some (.agg #[.int .i64 i, .int .i64 j]) := hv ⟨8, .data⟩ (by simp) rfl
                have d11 : fr0.tmps[(33 : Nat)]? = some (.agg #[.int .i64 (F1 : Nat), .int .i64 (F2 : Nat)]) := hv ⟨11, .data⟩ (by simp) rfl
                have d7 : fr0.tmps[(29 : Nat)]? = some (.bool true) := hv ⟨7, .guard⟩ (by simp) rfl
                clear hv hx
                refine wpOp_step rfl (fun K hK => ?_)
                go_simp
                exact hK _ _ ⟨rfl, HJ.out⟩
              · obtain rfl := Option.some.inj ho.symm
                clear ho
                have d7 : fr0.tmps[(29 : Nat)]? = some (.bool true) := hv ⟨7, .data⟩ (by simp) rfl
                have d12 : fr0.tmps[(34 : Nat)]? = some (.bool false) := hv ⟨12, .data⟩ (by simp) rfl
                clear hv hx
                refine wpOp_step rfl (fun K hK => ?_)
                go_simp
                exact hK _ _ ⟨rfl, HJ.out⟩
              · obtain rfl := Option.some.inj ho.symm
                clear ho
                have d13 : fr0.tmps[(35 : Nat)]? = some (.bool false) := hv ⟨13, .data⟩ (by simp) rfl
                clear hv hx
                refine wpOp_step rfl (fun K hK => ?_)
                go_simp
                exact hK _ _ ⟨rfl, HJ.out⟩
              · obtain rfl := Option.some.inj ho.symm
                clear ho
                have d14 : fr0.tmps[(36 : Nat)]? = some (.bool false) := hv ⟨14, .guard⟩ (by simp) rfl
                have x3 : fr0.tmps[(3 : Nat)]? = some (.pointer (some ⟨B0, 0, none⟩)) := hx 3 (by decide)
                clear hv hx
                refine wpOp_step rfl (fun K hK => ?_)
                go_simp
                exact hK _ _ ⟨rfl, HJ.out⟩
              · obtain rfl := Option.some.inj ho.symm
                clear ho
                have d14 : fr0.tmps[(36 : Nat)]? = some (.bool false) := hv ⟨14, .guard⟩ (by simp) rfl
                have x6 : fr0.tmps[(6 : Nat)]? = some (.pointer (some ⟨g, 0, none⟩)) := hx 6 (by decide)
                clear hv hx
                refine wpOp_step rfl (fun K hK => ?_)
                go_simp
                exact hK _ _ ⟨rfl, HJ.out⟩
              · obtain rfl := Option.some.inj ho.symm
                clear ho
                have d14 : fr0.tmps[(36 : Nat)]? = some (.bool false) := hv ⟨14, .guard⟩ (by simp) rfl
                have x7 : fr0.tmps[(7 : Nat)]? = some (.int .i64 (C : Int)) := hx 7 (by decide)
                clear hv hx
                refine wpOp_step rfl (fun K hK => ?_)
                go_simp
                exact hK _ _ ⟨rfl, HJ.out⟩
              · obtain rfl := Option.some.inj ho.symm
                clear ho
                have d15 : fr0.tmps[(37 : Nat)]? = some (undef) := hv ⟨15, .data⟩ (by simp) rfl
                have d16 : fr0.tmps[(38 : Nat)]? = some (undef) := hv ⟨16, .data⟩ (by simp) rfl
                have d17 : fr0.tmps[(39 : Nat)]? = some (undef) := hv ⟨17, .data⟩ (by simp) rfl
                have d14 : fr0.tmps[(36 : Nat)]? = some (.bool false) := hv ⟨14, .guard⟩ (by simp) rfl
                clear hv hx
                refine wpOp_step rfl (fun K hK => ?_)
                go_simp
                exact hK _ _ ⟨rfl, HJ.out⟩
              · obtain rfl := Option.some.inj ho.symm
                clear ho
                have d18 : fr0.tmps[(40 : Nat)]? = some (undef) := hv ⟨18, .data⟩ (by simp) rfl
                have d14 : fr0.tmps[(36 : Nat)]? = some (.bool false) := hv ⟨14, .guard⟩ (by simp) rfl
                clear hv hx
                refine wpOp_step rfl (fun K hK => ?_)
                go_simp
                exact hK _ _ ⟨rfl, HJ.out⟩
              · obtain rfl := Option.some.inj ho.symm
                clear ho
                have d14 : fr0.tmps[(36 : Nat)]? = some (.bool false) := hv ⟨14, .data⟩ (by simp) rfl
                have d19 : fr0.tmps[(41 : Nat)]? = some (undef) := hv ⟨19, .data⟩ (by simp) rfl
                clear hv hx
                refine wpOp_step rfl (fun K hK => ?_)
                go_simp
                exact hK _ _ ⟨rfl, HJ.out⟩
            case he =>
              intro w' hJ
              simp only [putF, valsAt, Nat.reduceAdd, Nat.zero_add, List.getD_cons_zero, List.getD_cons_succ, Act.put, List.setIfInBounds_toArray, List.set_cons_succ, List.set_cons_zero]
              gi_wp2
              exact HNX.out _ HNO.out hJ
  case done =>
    intro D A hD hI hK
    have HK2 := Lib.hid hK
    have HI := Lib.hid hI.j
    clear hI hK hI0
    go_wp2
    refine ⟨by simp, .inl ⟨D, _, rfl, run_takeDeferred HK2.out, ?_⟩⟩
    exact ⟨_, results_none rfl _ _ _, ⟨_, rfl⟩, .inl (HJS.out _ _ _ HI.out (below_put _ _ (by have := HZ0.out; have := HW.out.1; omega) _))⟩
  case stop =>
    rintro D c pre A hD hpre ⟨rfl, hjx⟩ hK
    have HK2 := Lib.hid hK
    have HI := Lib.hid hjx
    clear hjx hK hI0
    go_wp2
    refine ⟨by simp, .inl ⟨D, _, rfl, run_takeDeferred HK2.out, ?_⟩⟩
    exact ⟨_, results_none rfl _ _ _, ⟨_, rfl⟩, .inr ⟨_, celL_pre hpre, HJx.out _ _ _ HI.out (below_put _ _ (by have := HZ0.out; have := HW.out.1; omega) _)⟩⟩
end Go.Proofs.Ythnefcafhpioaaa
