/-
  Package dbm: the values of all sides at a point, in two words each.
-/
import Derived.Test.YthnefcafhpioaaaDbG
namespace Go.Proofs.Ythnefcafhpioaaa
open Go Go.RowKit Go.Shelf

/-- The value of a side at a point. -/
def vS (x : List Int) (i : Nat) : Int := if i % 2 = 0 then x.getD (i / 2) 0 else -(x.getD (i / 2) 0)
def cW (x : Int) : List Value := [.int .u64 (hiW x), .int .u64 (loW x)]
def sdC : List Int → List Value
  | [] => []
  | a :: r => cW a ++ cW (-a) ++ sdC r
theorem sdC_len (x : List Int) : (sdC x).length = 2 * x.length * 2 := by
  induction x with
  | nil => rfl
  | cons a r ih => simp only [sdC, List.length_append, ih, cW, List.length_cons, List.length_nil]; omega
theorem sdC_snoc (x : List Int) (a : Int) : sdC (x ++ [a]) = sdC x ++ [.int .u64 (hiW a), .int .u64 (loW a), .int .u64 (hiW (-a)), .int .u64 (loW (-a))] := by
  induction x with
  | nil => rfl
  | cons b r ih => simp only [List.cons_append, sdC, ih, List.append_assoc]
theorem sdC_at : ∀ (x : List Int) (i : Nat), i < 2 * x.length → (sdC x)[2 * i]? = some (.int .u64 (hiW (vS x i))) ∧ (sdC x)[2 * i + 1]? = some (.int .u64 (loW (vS x i)))
  | [], i, h => by simp at h
  | a :: r, 0, _ => ⟨rfl, rfl⟩
  | a :: r, 1, _ => ⟨rfl, rfl⟩
  | a :: r, i + 2, h => by
    have ih := sdC_at r i (by simp at h; omega)
    have e : vS (a :: r) (i + 2) = vS r i := by
      unfold vS
      rw [show (i + 2) / 2 = i / 2 + 1 by omega, show (i + 2) % 2 = i % 2 by omega, List.getD_cons_succ]
    rw [e]
    have h1 : (sdC (a :: r))[2 * (i + 2)]? = (sdC r)[2 * i]? := by
      show (cW a ++ cW (-a) ++ sdC r)[2 * (i + 2)]? = _
      rw [List.getElem?_append_right (by simp [cW]; omega)]
      congr 1
    have h2 : (sdC (a :: r))[2 * (i + 2) + 1]? = (sdC r)[2 * i + 1]? := by
      show (cW a ++ cW (-a) ++ sdC r)[2 * (i + 2) + 1]? = _
      rw [List.getElem?_append_right (by simp [cW]; omega)]
      congr 1
    rw [h1, h2]
    exact ih
theorem own_below {w w' : World} {base : Nat} {e : TypeId} {size n : Nat} {v : Value} {xs : List Value} (h : w.ownsRow base e size v n xs) (hb : Below w.heap.size w w') : w'.ownsRow base e size v n xs := by
  obtain ⟨h1, h2⟩ := h
  refine ⟨h1, h2.imp id ?_⟩
  rintro ⟨g, cap, cur, hv, hg, hh, hr⟩
  exact ⟨g, cap, cur, hv, hg, (hb.block g (Array.getElem?_eq_some_iff.1 hh).1).trans hh, hr⟩
theorem below_grown' {B : Nat} {a w w' : World} {row : Option Nat} (h : Below B a w) (hB : B ≤ w.heap.size) (hg : w.grownBy w' row) (hr : ∀ r, row = some r → B ≤ r) : Below B a w' :=
  h.trans ⟨hg.os, hg.tape, hg.output, hg.size, fun k hk => hg.block k (by omega) (fun e => by have := hr k e.symm; omega)⟩
theorem info_wide : (Try.prog.info? 92).map (fun i => (i.zero, i.size, i.bytes)) = some (some (.agg #[.int .u64 0, .int .u64 0]), 2, 16) := by kernel_rfl
/-- Where the values of all sides lie. -/
def WAt (w : World) (x : List Int) (a : Option Addr) : Prop := x.length = 0 ∨ ∃ g, a = some ⟨g, 0, none⟩ ∧ ∀ i, i < 2 * x.length → w.cell? ⟨g, i * 2, none⟩ = some (.int .u64 (hiW (vS x i))) ∧ w.cell? ⟨g, i * 2 + 1, none⟩ = some (.int .u64 (loW (vS x i)))
theorem WAt.next {w w' : World} {x : List Int} {a : Option Addr} (h : WAt w x a) (hb : Below w.heap.size w w') : WAt w' x a := by
  refine h.imp id ?_
  rintro ⟨g, e, hc⟩
  exact ⟨g, e, fun i hi => ⟨(hb.cell (p := ⟨g, i * 2, none⟩) (World.block_lt_of_cell? w _ (hc i hi).1)).trans (hc i hi).1, (hb.cell (p := ⟨g, i * 2 + 1, none⟩) (World.block_lt_of_cell? w _ (hc i hi).2)).trans (hc i hi).2⟩⟩
theorem own_wat {w : World} {B : Nat} {v : Value} {x : List Int} (h : w.ownsRow B 92 2 v (2 * x.length) (sdC x)) : ∃ a c, v = .slice a (2 * x.length) c ∧ WAt w x a := by
  have h' := h
  obtain ⟨hl, h2⟩ := h
  rcases h2 with ⟨rfl, h0⟩ | ⟨g, cap, cur, rfl, h3, h4, h5, h6, h7, h8⟩
  · exact ⟨none, 0, by rw [h0], .inl (by omega)⟩
  · refine ⟨_, cap, rfl, .inr ⟨g, rfl, fun i hi => ?_⟩⟩
    have hb : Blk w g cur 92 := h4
    have h9 := sdC_at x i hi
    have k := fun (j : Nat) (hj : j < 2 * x.length * 2) => show cur[j]? = (sdC x)[j]? by
      rw [← h8, List.getElem?_take_of_lt hj]; simp
    rw [hb.cell, hb.cell, k _ (by omega), k _ (by omega), Nat.mul_comm i 2]
    exact h9
theorem four_one (a b c d : Int) : ∀ u ∈ ([.int .u64 a, .int .u64 b, .int .u64 c, .int .u64 d] : List Value), u.oneCell' = true := by
  intro u hu
  simp only [List.mem_cons, List.not_mem_nil, or_false] at hu
  rcases hu with rfl | rfl | rfl | rfl <;> rfl
theorem sides_keep {w wr w2 w3 w4 : World} {X k : Nat} {v : Value} {xs : List Value} (h : wr.ownsRow X 92 2 v k xs) (hb : Below X w wr) (hs : X + 1 ≤ wr.heap.size) (h2 : Below wr.heap.size wr w2) (h3 : Below w2.heap.size w2 w3) (h4 : Below w3.heap.size w3 w4) : w4.ownsRow X 92 2 v k xs ∧ Below X w w4 ∧ X + 1 ≤ w4.heap.size := by
  have s2 := h2.size
  have s3 := h3.size
  have s4 := h4.size
  exact ⟨own_below (own_below (own_below h h2) h3) h4, ((hb.trans (h2.mono (by omega))).trans (h3.mono (by omega))).trans (h4.mono (by omega)), by omega⟩
set_option maxRecDepth 100000 in
set_option maxHeartbeats 4000000 in
theorem sides_any (x : List Int) (a : Option Addr) (c : Nat) (w : World) (hx : MAt w x a) (hl : x.length ≤ 64) (hi : ∀ v ∈ x, isI v) :
    Calls Try.prog 50 #[.slice a x.length c] w fun e w' => ∃ a' c', e = .returned (.slice a' (2 * x.length) c') ∧ WAt w' x a' ∧ Below w.heap.size w w' := by
  obtain ⟨i0, hi0, hz0, hz1, hz2⟩ := info_parts info_wide
  obtain ⟨n, hn⟩ : ∃ n, x.length = n := ⟨_, rfl⟩
  obtain ⟨X, hX⟩ : ∃ X, w.heap.size = X := ⟨_, rfl⟩
  have hmk : ∃ Z : Array Value, Z.size = 2 * n * 2 ∧ ∀ w : World, (Instr.makeSlice 73 (.int .i64 0) (.int .i64 (2 * (n : Int)))).run Try.prog w = .ok (.slice (some ⟨w.heap.size, 0, none⟩) 0 (2 * n)) (w.alloc (.cells Z 92)) := by
    refine ⟨madeCells (Value.cells (.agg #[.int .u64 0, .int .u64 0])) (2 * n * 2), ?_, fun w => ?_⟩
    · rw [size_madeCells]
    · have h := run_make (P := Try.prog) w 73 92 i0 _ Try.underlying73 hi0 hz0 .i64 .i64 0 (2 * (n : Int)) (by omega) (by omega) (by rw [hz2]; omega) (by omega)
      rw [hz1, show (2 * (n : Int)).toNat = 2 * n by omega] at h
      exact h
  obtain ⟨Z, hZ, hmk⟩ := hmk
  have hw2n : wrap64 (2 * (n : Int)) = 2 * (n : Int) := IntWalk.wrap64_in _ (by omega)
  have HE := Lib.hid hi
  have HX := Lib.hid (And.intro hX (And.intro hn hx))
  have HI := Lib.hid (And.intro hi0 (And.intro hz0 (And.intro hz1 hz2)))
  have hn64 : n ≤ 64 := by omega
  rw [hn]
  clear hx hi hX hi0 hz0 hz1 hz2 hn hl
  go_enter Try.func50, Try.ntmps50
  go_upto_region 2 with fail
  rw [HX.out.1]
  obtain ⟨W1, hW1⟩ : ∃ W, w.alloc (.cells Z 92) = W := ⟨_, rfl⟩
  have hown : W1.ownsRow X 92 2 (.slice (some ⟨X, 0, none⟩) 0 (2 * n)) (2 * 0) (sdC (x.take 0)) := by
    refine ⟨rfl, .inr ⟨X, 2 * n, Z, rfl, Nat.le_refl _, ?_, by omega, by unfold maxLen; omega, hZ, rfl⟩⟩
    rw [← hW1, ← HX.out.1]; exact Blk.new w _ _
  have hb1 : Below X w W1 := by rw [← hW1, ← HX.out.1]; exact (Below.refl _ w).alloc (Nat.le_refl _) _
  have hs1 : W1.heap.size = X + 1 := by rw [← hW1, ← HX.out.1]; simp
  rw [hW1]
  clear hW1 hmk hZ
  go_wp2_with fail
  go_loopw [3, 12] (fun v x' wr => ∃ k : Nat, x' = .int .i64 k ∧ k ≤ n ∧ wr.ownsRow X 92 2 v (2 * k) (sdC (x.take k)) ∧ Below X w wr ∧ X + 1 ≤ wr.heap.size) (fun _ x' _ => n - (intOf x').toNat)
  case atStart => exact ⟨0, rfl, by omega, hown, hb1, by omega⟩
  case round =>
    clear hown hb1 hs1 hw2n
    obtain ⟨k, rfl, hk, hown, hbr, hsz⟩ := hrel
    by_cases hlt : k < n
    · have hkx : k < x.length := by rw [HX.out.2.1]; exact hlt
      have hmr : MAt wr x a := HX.out.2.2.next (by rw [HX.out.1]; exact hbr)
      obtain ⟨b, ob, rfl, hc⟩ := mat_at hmr hkx
      obtain ⟨A, hA⟩ : ∃ A, x.getD k 0 = A := ⟨_, rfl⟩
      rw [hA] at hc
      have hAx : x[k] = A := by rw [← hA, List.getD_eq_getElem?_getD, List.getElem?_eq_getElem hkx]; rfl
      have hIA : isI A := HE.out A (by rw [← hAx]; exact List.getElem_mem hkx)
      have hsn : sdC (x.take (k + 1)) = sdC (x.take k) ++ [.int .u64 (hiW A), .int .u64 (loW A), .int .u64 (hiW (-A)), .int .u64 (loW (-A))] := by
        rw [List.take_add_one, List.getElem?_eq_getElem hkx, hAx]
        exact sdC_snoc _ _
      have kk : (k : Int) < (n : Int) := by omega
      have c1 := widened_any A hIA wr
      have c2 := fun w => widened_any A hIA w
      have c3 : ∀ w : World, Calls Try.prog 65 #[.agg #[.int .u64 0, .int .u64 0], wV A] w fun e w' => e = .returned (wV (-A)) ∧ Below w.heap.size w w' := fun w => by
        have h := minus_any 0 A w
        rw [Int.zero_sub] at h
        exact h
      have HO := Lib.hid (And.intro hown (And.intro hbr hsz))
      have HSN := Lib.hid hsn
      obtain ⟨h1, e1⟩ : ∃ h, hiW A = h := ⟨_, rfl⟩
      obtain ⟨h2, e2⟩ : ∃ h, loW A = h := ⟨_, rfl⟩
      obtain ⟨h3, e3⟩ : ∃ h, hiW (-A) = h := ⟨_, rfl⟩
      obtain ⟨h4, e4⟩ : ∃ h, loW (-A) = h := ⟨_, rfl⟩
      unfold wV at c1 c2 c3
      rw [e1, e2] at c1
      simp only [e1, e2] at c2
      simp only [e1, e2, e3, e4] at c3
      rw [e1, e2, e3, e4] at HSN
      have HC1 := Lib.hid c1
      have HC2 := Lib.hid c2
      have HC3 := Lib.hid c3
      have HLN := Lib.hid (show 2 * k + 2 ≤ maxLen by unfold maxLen; omega)
      have HBY := Lib.hid (show (2 * k + 2) * 16 ≤ 140737488355328 by omega)
      have H64 := Lib.hid hn64
      clear hown hbr hsz hsn hmr hA hAx hIA c1 c2 c3 e1 e2 e3 e4 hkx
      go_upto_region 6 with (first | (go_at_call 64; first | ((with_reducible refine HC1.out.mono ?_); clear HC1; rintro e w2 ⟨rfl, hb2⟩) | ((with_reducible refine (HC2.out _).mono ?_); rintro e w3 ⟨rfl, hb3⟩)) | (go_at_call 65; (with_reducible refine (HC3.out _).mono ?_); rintro e w4 ⟨rfl, hb4⟩; have HO4 := Lib.hid (sides_keep HO.out.1 HO.out.2.1 HO.out.2.2 hb2 hb3 hb4); have HNW := Lib.hid (World.news_of_block (cs := #[.int .u64 h1, .int .u64 h2, .int .u64 h3, .int .u64 h4]) (t := 92) (fr := (0, 0)) (heap_alloc_new w4 (.cells #[.int .u64 h1, .int .u64 h2, .int .u64 h3, .int .u64 h4] 92))); have HSZ := Lib.hid (show X ≤ (w4.alloc (.cells #[.int .u64 h1, .int .u64 h2, .int .u64 h3, .int .u64 h4] 92)).heap.size by rw [World.size_alloc]; have := HO4.out.2.2; omega); clear hb2 hb3 hb4) | (at_builtin; (with_reducible refine wpList_append_lies _ rfl (.tmp 16) (.tmp 23) 73 rfl X 92 i0 _ 2 16 Try.underlying73 HI.out.1 HI.out.2.1 HI.out.2.2.1 HI.out.2.2.2 rfl (by decide) _ (2 * k) (sdC (x.take k)) rfl (HO4.out.1.alloc _) ⟨_, 0, none⟩ 2 2 [.int .u64 h1, .int .u64 h2, .int .u64 h3, .int .u64 h4] rfl rfl HNW.out (four_one _ _ _ _) (by decide) HLN.out HBY.out HSZ.out _ rfl ?_); (intro gg cap w5 hown5 hgrow hat hlt5)) | fail)
      have hB5 : Below X w w5 := below_grown' (HO4.out.2.1.alloc (by have := HO4.out.2.2; omega) _) HSZ.out hgrow (fun r hr => (HO4.out.1.lt r hr).1)
      have hS5 : X + 1 ≤ w5.heap.size := Nat.le_trans (Nat.le_trans HO4.out.2.2 (by rw [World.size_alloc]; omega)) hgrow.size
      rw [← HSN.out] at hown5
      have HF := Lib.hid (And.intro hown5 (And.intro hB5 hS5))
      clear hown5 hgrow hat hB5 hS5 hlt5
      go_wp2_with fail
      go_roundw
      case rel => exact ⟨k + 1, by go_num, by omega, HF.out.1, HF.out.2.1, HF.out.2.2⟩
      case measure => simp [intOf]; omega
    · have kk : (n : Int) ≤ (k : Int) := by omega
      obtain rfl : k = n := by omega
      rw [← HX.out.2.1, List.take_length] at hown
      obtain ⟨a', c', rfl, hwa⟩ := own_wat hown
      have HF := Lib.hid (And.intro hwa hbr)
      rw [HX.out.2.1]
      clear hown hwa hbr
      go_wp2_with fail
      go_ret
      exact ⟨a', c', rfl, HF.out.1, by rw [HX.out.1]; exact HF.out.2⟩
end Go.Proofs.Ythnefcafhpioaaa
