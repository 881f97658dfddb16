/-
  Package dbm: Top.
-/
import Derived.Test.YthnefcafhpioaaaDbD
namespace Go.Proofs.Ythnefcafhpioaaa
open Go Go.RowKit Go.Shelf

theorem results_row_tmp {P : Program} {fn : Func} {p u : Tmp} {ty : TypeId} (h : fn.results = #[.cell p ty, .tmp u]) (tmps : Array Value) (w : World) (g : Nat) (t : TypeId) (cs : Array Value) (fr : Nat × Nat) (d : TypeDesc)
    (hp : tmps.getD p undef = .pointer (some ⟨g, 0, none⟩)) (hg : w.heap[g]? = some (.cells cs t fr))
    (hu : P.underlying ty = some d) (hd : (match d with | .struct _ | .array _ _ => true | _ => false) = true) (hi : (P.info? ty).map (·.size) = some cs.size) :
    (results fn tmps).run P w = .ok (.tuple #[.agg cs, tmps.getD u undef]) w := by
  have hp' : tmps[p]?.getD undef = .pointer (some ⟨g, 0, none⟩) := by simpa using hp
  simp only [results, h]
  simp [Result.andThen, hp', asAddr, run_loadVar_row w g t ty cs fr d hg hu hd hi]

/-- What a call answers that gives an octagon of its own memory, and an error. -/
def OctTo (w : World) (x : Oc) (err : Int) : Ending → World → Prop := fun e w' => ∃ a c, e = .returned (.tuple #[ocV x a c, .int .i64 err]) ∧ MOwn w.heap.size w' x.m a c ∧ Below w.heap.size w w'
def zeroOc : Oc := ⟨0, false, []⟩
def emptyOc (n : Int) : Oc := ⟨n, true, []⟩
theorem mown_nil (B : Nat) (w : World) : MOwn B w [] none 0 := ⟨Nat.le_refl _, Nat.zero_le _, .inl rfl⟩
theorem emptyTo_any (n : Int) (w : World) (h : numB n = true) : Calls Try.prog 15 #[.int .i64 n] w (OctTo w (emptyOc n) 0) :=
  (empty_any n w).mono fun e w' ⟨he, hb⟩ => ⟨none, 0, by rw [he, if_pos h]; rfl, mown_nil _ _, hb⟩
theorem emptyBad_any (n : Int) (w : World) (h : numB n = false) : Calls Try.prog 15 #[.int .i64 n] w (OctTo w zeroOc 120) :=
  (empty_any n w).mono fun e w' ⟨he, hb⟩ => ⟨none, 0, by rw [he, if_neg (by simp [h])]; rfl, mown_nil _ _, hb⟩

theorem set3_blk {w : World} {X : Nat} {a b c x y z : Value} {t : TypeId} (h : Blk w X #[a, b, c] t) : Blk (((w.setCell ⟨X, 0, none⟩ x).setCell ⟨X, 1, none⟩ y).setCell ⟨X, 2, none⟩ z) X #[x, y, z] t := ((h.set 0 x).set 1 y).set 2 z
theorem set3_below {w w' : World} {X B : Nat} {x y z : Value} (h : Below B w w') (hB : B ≤ X) : Below B w (((w'.setCell ⟨X, 0, none⟩ x).setCell ⟨X, 1, none⟩ y).setCell ⟨X, 2, none⟩ z) := ((h.setCell (p := ⟨X, 0, none⟩) hB _).setCell (p := ⟨X, 1, none⟩) hB _).setCell (p := ⟨X, 2, none⟩) hB _
theorem MOwn.set3 {B : Nat} {w : World} {m : List Int} {a : Option Addr} {c X : Nat} {x y z : Value} (h : MOwn B w m a c) (hX : X < B) : MOwn B (((w.setCell ⟨X, 0, none⟩ x).setCell ⟨X, 1, none⟩ y).setCell ⟨X, 2, none⟩ z) m a c := ((h.setOther (p := ⟨X, 0, none⟩) hX _).setOther (p := ⟨X, 1, none⟩) hX _).setOther (p := ⟨X, 2, none⟩) hX _
abbrev inf : Int := 9223372036854775807
def topI (n t : Nat) : List Int := forN t (fun m i => sM n m i i 0) (List.replicate (n * n) inf)
def topM (n : Nat) : List Int := topI n n
theorem topI_len (n t : Nat) : (topI n t).length = n * n := forN_keep (P := fun (m : List Int) => m.length = n * n) (by simp) fun i m _ h => by rw [sM_len]; exact h
theorem topM_len (n : Nat) : (topM n).length = n * n := topI_len n n
def topO (n : Int) : Oc := ⟨n, false, topM (2 * n.toNat)⟩

set_option maxRecDepth 100000 in
set_option maxHeartbeats 4000000 in
theorem topBad_any (n : Int) (w : World) (h : numB n = false) : Calls Try.prog 14 #[.int .i64 n] w (OctTo w zeroOc 120) := by
  have cn := fun w => numbered_any n w
  rw [h] at cn
  go_enter Try.func14, Try.ntmps14
  go_wp2_with (go_at_call 33; ((with_reducible refine (cn _).mono ?_); rintro e w' ⟨rfl, rfl⟩))
  exact bodyPost_ret (v := .tuple #[.agg #[.int .i64 0, .bool false, .slice none 0 0], .int .i64 120]) (by simp [results, Try.results14, go_sem]) rfl ⟨none, 0, rfl, mown_nil _ _, (Below.refl _ _).alloc (Nat.le_refl _) _⟩

set_option maxRecDepth 100000 in
set_option maxHeartbeats 4000000 in
theorem top_any (N : Nat) (w : World) (hN : N ≤ 64) : Calls Try.prog 14 #[.int .i64 N] w (OctTo w (topO N) 0) := by
  have cn := fun w => numbered_any (N : Int) w
  rw [numB_of hN] at cn
  have cc := fun w => cells_any N hN w
  have hNN : N * N ≤ 64 * 64 := Nat.mul_le_mul hN hN
  obtain ⟨n, hn⟩ : ∃ n, 2 * N = n := ⟨_, rfl⟩
  have hS : 4 * (N * N) = n * n := by rw [← hn, sq4]
  have hnn : n * n ≤ 16384 := by omega
  have hn128 : n ≤ 128 := by omega
  rw [hS] at cc
  obtain ⟨S, hSS⟩ : ∃ S, n * n = S := ⟨_, rfl⟩
  have HI := Lib.hid (fun (i : Nat) (hi : i < n) (w : World) => by
    have h := index_any N i i hN (by omega) (by omega) w
    rw [hn] at h
    exact h)
  have HLT := Lib.hid (fun (i : Nat) (hi : i < n) => cell_lt (n := n) hi hi)
  rw [hSS] at cc hnn HLT
  have HRE := Lib.hid (fun (b : Nat) (w : World) (h1 : w.cell? ⟨b, 0, none⟩ = some (.int .i64 inf)) (h2 : b < w.heap.size) => repeat_any inf S b hnn w h1 h2)
  obtain ⟨X, hX⟩ : ∃ X, w.heap.size = X := ⟨_, rfl⟩
  obtain ⟨W1, hW1⟩ : ∃ W, w.alloc (.cells #[.int .i64 0, .bool false, .slice none 0 0] 24) = W := ⟨_, rfl⟩
  have hx1 : Blk W1 X #[.int .i64 0, .bool false, .slice none 0 0] 24 := by rw [← hW1, ← hX]; exact Blk.new w _ _
  have hb1 : Below X w W1 := by rw [← hW1, ← hX]; exact (Below.refl _ w).alloc (Nat.le_refl _) _
  have hs1 : W1.heap.size = X + 1 := by rw [← hW1, ← hX]; simp
  have HW := Lib.hid (And.intro hX hW1)
  have HB := Lib.hid (And.intro hb1 (And.intro hx1 hs1))
  have hK1 : wrap64 (2 * (N : Int)) = (n : Int) := by rw [IntWalk.wrap64_in _ (by omega)]; omega
  have HN := Lib.hid (And.intro hn (And.intro hSS (And.intro hN (And.intro hn128 hnn))))
  clear hX hW1 hx1 hb1 hs1 hNN hS hn hSS hnn
  go_enter Try.func14, Try.ntmps14
  go_upto_region 1 with fail
  rw [HW.out.1, HW.out.2]
  go_upto_region 4 with (first | (go_at_call 33; ((with_reducible refine (cn _).mono ?_); rintro e W1 ⟨rfl, rfl⟩)) | (go_at_call 41; ((with_reducible refine (cc _).mono ?_); rintro e W1 ⟨rfl, rfl⟩)) | (go_at_call 40; ((with_reducible refine (HRE.out _ _ (Blk.cell (Blk.new _ _ _) 0) (by simp)).mono ?_); rintro e w2 ⟨g, rfl, hg, hrow, hb2⟩)))
  have hz : (W1.alloc (.cells #[.int .i64 inf] 2)).heap.size = X + 2 := by rw [World.size_alloc, HB.out.2.2]
  rw [hz] at hb2 hg
  have hB2 : Below X w w2 := (HB.out.1.alloc (by rw [HB.out.2.2]; omega) (.cells #[.int .i64 inf] 2)).trans (hb2.mono (by omega))
  have hX2 : Blk w2 X #[.int .i64 0, .bool false, .slice none 0 0] 24 := (HB.out.2.1.alloc (.cells #[.int .i64 inf] 2)).below hb2 (by omega)
  have hrow2 : MOwn (X + 1) w2 (topI n 0) (some ⟨g, 0, none⟩) S := by
    have e : topI n 0 = List.replicate S inf := by rw [← HN.out.2.1]; rfl
    rw [e]
    refine ⟨by simp, by unfold maxLen; have := HN.out.2.2.2.2; omega, .inr ⟨g, _, rfl, by omega, hrow, fun i hi => ?_⟩⟩
    rw [List.getElem?_toArray, cvI_at _ i hi]
  have HG := Lib.hid hg
  have HX2 := Lib.hid (And.intro hX2 hB2)
  have HR2 := Lib.hid hrow2
  clear hX2 hB2 hrow2 hrow hg hz hb2 cc cn HRE
  go_wp2_with fail
  go_loopw [16] (fun x wr => ∃ i : Nat, x = .int .i64 i ∧ i ≤ n ∧ MOwn (X + 1) wr (topI n i) (some ⟨g, 0, none⟩) S ∧ Blk wr X #[.int .i64 0, .bool false, .slice none 0 0] 24 ∧ Below X w wr) (fun x _ => n - (intOf x).toNat)
  case atStart => exact ⟨0, rfl, by omega, HR2.out, HX2.out.1, HX2.out.2⟩
  case round =>
    clear HR2 HX2
    obtain ⟨i, rfl, hi, hrow, hX, hb⟩ := hrel
    have HR := Lib.hid (And.intro hrow (And.intro hX hb))
    by_cases hlt : i < n
    · have k1 : (i : Int) < 2 * (N : Int) := by have := HN.out.1; omega
      have hil := HLT.out i hlt
      have hlen := topI_len n i
      rw [HN.out.2.1] at hlen
      obtain ⟨g', hg', -, -, hc, hf⟩ := hrow.at (i := i * n + i) (by rw [hlen]; exact hil)
      cases hg'
      have ci := HI.out i hlt
      have hset : topI n (i + 1) = (topI n i).set (i * n + i) 0 := by unfold topI; rw [forN_succ]; rfl
      obtain ⟨T, hT⟩ : ∃ T, i * n + i = T := ⟨_, rfl⟩
      rw [hT] at ci hc hf hil hset
      obtain ⟨C, hC⟩ : ∃ C, (topI n i).getD T 0 = C := ⟨_, rfl⟩
      rw [hC] at hc
      have hTS : (T : Int) < (S : Int) := by omega
      have HS := Lib.hid hset
      clear hrow hX hb hset hlen hC hil hT
      go_wp2_with (go_at_call 42; ((with_reducible refine (ci _).mono ?_); rintro e w5 ⟨rfl, rfl⟩))
      go_roundw
      case rel => exact ⟨i + 1, by go_num, by omega, by rw [HS.out]; exact HR.out.1.set T 0, HR.out.2.1.other (by have := HG.out; simp; omega) _, HR.out.2.2.setCell (by have := HG.out; simp; omega) _⟩
      case measure => simp [intOf]; omega
    · have k1 : 2 * (N : Int) ≤ (i : Int) := by have := HN.out.1; omega
      obtain rfl : i = n := by omega
      have f0 := hX.cell 0
      have f1 := hX.cell 1
      have f2 := hX.cell 2
      have g0 := hX.free 0
      have g1 := hX.free 1
      have g2 := hX.free 2
      clear hrow hX hb
      go_wp2_with fail
      refine bodyPost_ret (results_row_tmp rfl _ _ X _ #[.int .i64 N, .bool false, .slice (some ⟨g, 0, none⟩) S S] _ _ rfl (set3_blk HR.out.2.1) rfl rfl (by kernel_rfl)) rfl ?_
      refine ⟨some ⟨g, 0, none⟩, S, ?_, ?_, ?_⟩
      · have e : (topO (N : Int)).m.length = S := by rw [← HN.out.2.1, ← topM_len i]; show (topM (2 * ((N : Int)).toNat)).length = _; rw [show 2 * ((N : Int)).toNat = i by have := HN.out.1; omega]
        show _ = Ending.returned (.tuple #[.agg #[.int .i64 N, .bool false, .slice (some ⟨g, 0, none⟩) (topO (N : Int)).m.length S], .int .i64 0])
        rw [e]; rfl
      · have e : (topO (N : Int)).m = topI i i := by show topM (2 * ((N : Int)).toNat) = _; rw [show 2 * ((N : Int)).toNat = i by have := HN.out.1; omega]; rfl
        rw [e, HW.out.1]
        exact (HR.out.1.set3 (by omega)).lower (by omega)
      · rw [HW.out.1]
        exact set3_below HR.out.2.2 (Nat.le_refl _)
end Go.Proofs.Ythnefcafhpioaaa
