/-
  Package dbm's small functions: whether a number of variables may be, how many cells there are and where each stands, the sides across.
-/
import Derived.Test.YthnefcafhpioaaaOmA
import Derived.Test.YthnefcafhpioaaaSeqK
import Derived.OwnWalkIn
import Derived.TacticsInMore
import Derived.LoopNIn
import Derived.LoopIn
import Derived.Shelf.Abstract
import Derived.Shelf.RegionOpen
import Derived.WalkSmall
import Derived.IntWalk
import Derived.Deep.RegionHeld3
namespace Go.Proofs.Ythnefcafhpioaaa
open Go Go.RowKit Go.Shelf
attribute [local go_sem] Oper.semAt_some

def numB (n : Int) : Bool := decide (0 ≤ n) && decide (n ≤ 64)
theorem numB_true {n : Int} (h : numB n = true) : 0 ≤ n ∧ n ≤ 64 := by simpa [numB] using h
theorem numB_false {n : Int} (h : numB n = false) : n < 0 ∨ 64 < n := by
  by_cases h0 : n < 0
  · exact .inl h0
  · refine .inr ?_
    simp [numB] at h
    omega
theorem numB_of {N : Nat} (h : N ≤ 64) : numB (N : Int) = true := by simp [numB]; omega
set_option maxRecDepth 100000 in
set_option maxHeartbeats 4000000 in
theorem numbered_any (n : Int) (w : World) : Calls Try.prog 33 #[.int .i64 n] w fun e w' => e = .returned (.bool (numB n)) ∧ w' = w := by
  by_cases h0 : 0 ≤ n
  · by_cases h1 : n ≤ 64
    · have e : numB n = true := by simp [numB]; omega
      rw [e]
      go_enter Try.func33, Try.ntmps33
      go_wp2
      all_goals (go_ret; first | exact ⟨rfl, rfl⟩ | (refine ⟨congrArg (fun x => Ending.returned (Value.bool x)) (by simp; omega), rfl⟩))
    · have e : numB n = false := by simp [numB]; omega
      rw [e]
      go_enter Try.func33, Try.ntmps33
      go_wp2
      all_goals (go_ret; first | exact ⟨rfl, rfl⟩ | (refine ⟨congrArg (fun x => Ending.returned (Value.bool x)) (by simp; omega), rfl⟩))
  · have e : numB n = false := by simp [numB]; omega
    rw [e]
    go_enter Try.func33, Try.ntmps33
    go_wp2
    all_goals (go_ret; first | exact ⟨rfl, rfl⟩ | (refine ⟨congrArg (fun x => Ending.returned (Value.bool x)) (by simp; omega), rfl⟩))

set_option maxRecDepth 100000 in
set_option maxHeartbeats 4000000 in
theorem cells_any (N : Nat) (hN : N ≤ 64) (w : World) : Calls Try.prog 41 #[.int .i64 N] w fun e w' => e = .returned (.int .i64 ((4 * (N * N) : Nat) : Int)) ∧ w' = w := by
  have hNN : N * N ≤ 64 * 64 := Nat.mul_le_mul hN hN
  have e1 : IntKind.i64.wrap (4 * (N : Int)) = 4 * (N : Int) := isI_wrap (by unfold isI; omega)
  have hq : 4 * (N : Int) * (N : Int) = ((4 * (N * N) : Nat) : Int) := by push_cast; rw [Int.mul_assoc]
  have e2 : IntKind.i64.wrap (4 * (N : Int) * (N : Int)) = ((4 * (N * N) : Nat) : Int) := by rw [hq]; exact isI_wrap (by unfold isI; omega)
  have e3 : wrap64 (4 * (N : Int)) = 4 * (N : Int) := IntWalk.wrap64_in _ (by omega)
  have e4 : wrap64 (4 * (N : Int) * (N : Int)) = ((4 * (N * N) : Nat) : Int) := by rw [hq]; exact IntWalk.wrap64_in _ (by omega)
  obtain ⟨S, hS⟩ : ∃ S, 4 * (N * N) = S := ⟨_, rfl⟩
  rw [hS] at e2 e4 ⊢
  clear hq hS hNN
  go_enter Try.func41, Try.ntmps41
  go_wp2
  all_goals (go_ret; first | exact ⟨rfl, rfl⟩ | (refine ⟨congrArg (fun x => Ending.returned (Value.int .i64 x)) ?_, rfl⟩; assumption))

set_option maxRecDepth 100000 in
set_option maxHeartbeats 4000000 in
theorem index_any (N i j : Nat) (hN : N ≤ 64) (hi : i < 2 * N) (hj : j < 2 * N) (w : World) : Calls Try.prog 42 #[.int .i64 N, .int .i64 i, .int .i64 j] w fun e w' => e = .returned (.int .i64 ((i * (2 * N) + j : Nat) : Int)) ∧ w' = w := by
  have hNN : i * (2 * N) ≤ 128 * 128 := Nat.mul_le_mul (by omega) (by omega)
  have hq : 2 * (N : Int) * (i : Int) = ((i * (2 * N) : Nat) : Int) := by push_cast; rw [Int.mul_comm]
  obtain ⟨S, hS⟩ : ∃ S, i * (2 * N) = S := ⟨_, rfl⟩
  rw [hS] at hq hNN ⊢
  have e1 : wrap64 (2 * (N : Int)) = 2 * (N : Int) := IntWalk.wrap64_in _ (by omega)
  have e2 : wrap64 (2 * (N : Int) * (i : Int)) = (S : Int) := by rw [hq]; exact IntWalk.wrap64_in _ (by omega)
  have e3 : wrap64 ((S : Int) + (j : Int)) = ((S + j : Nat) : Int) := by rw [IntWalk.wrap64_in _ (by omega)]; omega
  have f1 : IntKind.i64.wrap (2 * (N : Int)) = 2 * (N : Int) := isI_wrap (by unfold isI; omega)
  have f2 : IntKind.i64.wrap (2 * (N : Int) * (i : Int)) = (S : Int) := by rw [hq]; exact isI_wrap (by unfold isI; omega)
  have f3 : IntKind.i64.wrap ((S : Int) + (j : Int)) = ((S + j : Nat) : Int) := by rw [isI_wrap (by unfold isI; omega)]; omega
  clear hq hS
  obtain ⟨T, hT⟩ : ∃ T : Int, ((S + j : Nat) : Int) = T := ⟨_, rfl⟩
  rw [hT] at e3 f3 ⊢
  clear hT hNN
  go_enter Try.func42, Try.ntmps42
  go_wp2
  all_goals (go_ret; first | exact ⟨rfl, rfl⟩ | (refine ⟨congrArg (fun x => Ending.returned (Value.int .i64 x)) ?_, rfl⟩; assumption))

theorem xor_acr : ∀ i : Nat, i < 128 → bits BinOp.xor IntKind.i64 (i : Int) 1 = ((acr i : Nat) : Int) := by decide
set_option maxRecDepth 100000 in
set_option maxHeartbeats 4000000 in
theorem across_any (i : Nat) (hi : i < 128) (w : World) : Calls Try.prog 46 #[.int .i64 i] w fun e w' => e = .returned (.int .i64 (acr i : Nat)) ∧ w' = w := by
  go_enter Try.func46, Try.ntmps46
  go_wp2
  go_ret
  exact ⟨congrArg (fun x => Ending.returned (Value.int .i64 x)) (xor_acr i hi), rfl⟩

def witB (n i j : Int) : Bool := decide (0 ≤ min i j) && decide (max i j < 2 * n)
theorem witB_iff (n i j : Int) : witB n i j = true ↔ 0 ≤ i ∧ 0 ≤ j ∧ i < 2 * n ∧ j < 2 * n := by simp [witB]; omega
set_option maxRecDepth 100000 in
set_option maxHeartbeats 4000000 in
theorem within_any (n i j : Int) (hn : 0 ≤ n) (hn2 : n ≤ 64) (w : World) : Calls Try.prog 43 #[.int .i64 n, .int .i64 i, .int .i64 j] w fun e w' => e = .returned (.bool (witB n i j)) ∧ w' = w := by
  have e1 : wrap64 (2 * n) = 2 * n := IntWalk.wrap64_in _ (by omega)
  have e2 : IntKind.i64.wrap (2 * n) = 2 * n := isI_wrap (by unfold isI; omega)
  go_enter Try.func43, Try.ntmps43
  go_wp2
  all_goals (go_ret; refine ⟨congrArg (fun x => Ending.returned (Value.bool x)) ?_, rfl⟩; rw [Bool.eq_iff_iff]; simp [witB]; omega)

/-- The one of the two places of a cell that isn't behind the other. -/
def fstP (i j : Nat) : Nat × Nat := if acr j < i then (acr j, acr i) else (i, j)
set_option maxRecDepth 100000 in
set_option maxHeartbeats 4000000 in
theorem first_any (i j : Nat) (hi : i < 128) (hj : j < 128) (w : World) : Calls Try.prog 58 #[.int .i64 i, .int .i64 j] w fun e w' => e = .returned (.agg #[.int .i64 ((fstP i j).1 : Nat), .int .i64 ((fstP i j).2 : Nat)]) ∧ Below w.heap.size w w' := by
  have ci := fun w => across_any i hi w
  have cj := fun w => across_any j hj w
  by_cases h : acr j < i
  · have e : fstP i j = (acr j, acr i) := if_pos h
    rw [e]
    obtain ⟨I, hI⟩ : ∃ I, acr i = I := ⟨_, rfl⟩
    obtain ⟨J, hJ⟩ : ∃ J, acr j = J := ⟨_, rfl⟩
    rw [hI] at ci ⊢
    rw [hJ] at cj h ⊢
    have k : ((J : Int) < (i : Int)) := by omega
    clear hI hJ e h hi hj
    go_enter Try.func58, Try.ntmps58
    go_wp2_with (go_at_call 46; first | ((with_reducible refine (ci _).mono ?_); rintro e w' ⟨rfl, rfl⟩) | ((with_reducible refine (cj _).mono ?_); rintro e w' ⟨rfl, rfl⟩))
    exact bodyPost_ret (v := .agg #[.int .i64 J, .int .i64 I]) (by simp [results, Try.results58, go_sem]) rfl ⟨rfl, (Below.refl _ _).alloc (Nat.le_refl _) _⟩
  · have e : fstP i j = (i, j) := if_neg h
    rw [e]
    obtain ⟨J, hJ⟩ : ∃ J, acr j = J := ⟨_, rfl⟩
    rw [hJ] at cj h
    have k : ((i : Int) ≤ (J : Int)) := by omega
    clear hJ e h hi hj ci
    go_enter Try.func58, Try.ntmps58
    go_wp2_with (go_at_call 46; ((with_reducible refine (cj _).mono ?_); rintro e w' ⟨rfl, rfl⟩))
    exact bodyPost_ret (v := .agg #[.int .i64 i, .int .i64 j]) (by simp [results, Try.results58, go_sem]) rfl ⟨rfl, (Below.refl _ _).alloc (Nat.le_refl _) _⟩

set_option maxRecDepth 100000 in
set_option maxHeartbeats 4000000 in
theorem empty_any (n : Int) (w : World) : Calls Try.prog 15 #[.int .i64 n] w fun e w' => e = .returned (.tuple (if numB n then #[.agg #[.int .i64 n, .bool true, .slice none 0 0], .int .i64 0] else #[.agg #[.int .i64 0, .bool false, .slice none 0 0], .int .i64 120])) ∧ Below w.heap.size w w' := by
  have c := fun w => numbered_any n w
  cases h : numB n with
  | true =>
    rw [h] at c
    simp only [if_true]
    clear h
    go_enter Try.func15, Try.ntmps15
    go_wp2_with (go_at_call 33; ((with_reducible refine (c _).mono ?_); rintro e w' ⟨rfl, rfl⟩))
    exact bodyPost_ret (v := .tuple #[.agg #[.int .i64 n, .bool true, .slice none 0 0], .int .i64 0]) (by simp [results, Try.results15, go_sem]) rfl ⟨rfl, (Below.refl _ _).alloc (Nat.le_refl _) _⟩
  | false =>
    rw [h] at c
    simp only [Bool.false_eq_true, if_false]
    clear h
    go_enter Try.func15, Try.ntmps15
    go_wp2_with (go_at_call 33; ((with_reducible refine (c _).mono ?_); rintro e w' ⟨rfl, rfl⟩))
    exact bodyPost_ret (v := .tuple #[.agg #[.int .i64 0, .bool false, .slice none 0 0], .int .i64 120]) (by simp [results, Try.results15, go_sem]) rfl ⟨rfl, (Below.refl _ _).alloc (Nat.le_refl _) _⟩

set_option maxRecDepth 100000 in
set_option maxHeartbeats 4000000 in
theorem places_any (N : Nat) (w : World) : Calls Try.prog 51 #[.int .i64 N] w fun e w' => e = .returned (.func (.func 66) #[] #[.pointer (some ⟨w.heap.size, 0, none⟩)]) ∧ w' = w.alloc (.cells #[.int .i64 N] 3) := by
  go_enter Try.func51, Try.ntmps51
  go_wp2
  go_ret
  exact ⟨rfl, rfl⟩

/-- All places of n sides, by i, then by j. -/
def rowP (n i : Nat) : List (Nat × Nat) := (List.range n).map fun j => (i, j)
def allP (n : Nat) : List (Nat × Nat) := ((List.range n).map (rowP n)).flatten
def preP (n i j : Nat) : List (Nat × Nat) := ((List.range i).map (rowP n)).flatten ++ (List.range j).map fun j => (i, j)
theorem preP_zero (n : Nat) : preP n 0 0 = [] := rfl
theorem preP_j (n i j : Nat) : preP n i j ++ [(i, j)] = preP n i (j + 1) := by simp [preP, List.range_succ]
theorem preP_i (n i : Nat) : preP n i n = preP n (i + 1) 0 := by simp [preP, List.range_succ, rowP]
theorem preP_all (n : Nat) : preP n n 0 = allP n := by simp [preP, allP]
theorem preP_pre {n i j : Nat} (hi : i < n) (hj : j ≤ n) : preP n i j <+: allP n := by
  refine ⟨((List.range n).map fun j => (i, j)).drop j ++ (((List.range n).drop (i + 1)).map (rowP n)).flatten, ?_⟩
  unfold preP allP
  have h1 : List.range n = List.range i ++ i :: (List.range n).drop (i + 1) := by
    have := List.take_append_drop (i + 1) (List.range n)
    rw [List.take_range, Nat.min_eq_left (by omega), List.range_succ] at this
    have e : (List.range n).drop (i + 1) = (List.range n).drop (i + 1) := rfl
    obtain ⟨D, hD⟩ : ∃ D, (List.range n).drop (i + 1) = D := ⟨_, rfl⟩
    rw [hD] at this ⊢
    rw [← this]; simp
  have h2 : (List.range j).map (fun j => (i, j)) ++ ((List.range n).map fun j => (i, j)).drop j = rowP n i := by
    rw [← List.map_drop, ← List.map_append]
    have := List.take_append_drop j (List.range n)
    rw [List.take_range, Nat.min_eq_left hj] at this
    rw [this]; rfl
  rw [List.append_assoc, ← List.append_assoc ((List.range j).map _), h2]
  rw [show ((List.range n).map (rowP n)) = (List.range i ++ i :: (List.range n).drop (i + 1)).map (rowP n) from congrArg _ h1]
  simp only [List.map_append, List.map_cons, List.flatten_append, List.flatten_cons]
def encP (x : Nat × Nat) : Array Value := #[.int .i64 x.1, .int .i64 x.2]
/-- What the iterator reads between its rounds. -/
def NAt (b N : Nat) (A : World) : Prop := A.cell? ⟨b, 0, none⟩ = some (.int .i64 N)
set_option maxRecDepth 100000 in
set_option maxHeartbeats 4000000 in
theorem places1_seq (N b : Nat) (hN : N ≤ 64) (w : World) : SeqK Try.prog 66 #[.pointer (some ⟨b, 0, none⟩)] encP (allP (2 * N)) (NAt b N) w := fun l J Jx W hW hJ hJx hK hY h0 => by
  have HJ := Lib.hid hJ; clear hJ
  have HJx := Lib.hid hJx; clear hJx
  have HY := Lib.hid hY; clear hY
  have HK := Lib.hid hK
  have h00 : W.cell? ⟨b, 0, none⟩ = some (.int .i64 N) := hK _ _ h0
  clear hK hW
  have hw2 : wrap64 (2 * (N : Int)) = ((2 * N : Nat) : Int) := by rw [IntWalk.wrap64_in _ (by omega)]; omega
  obtain ⟨n, hn⟩ : ∃ n, 2 * N = n := ⟨_, rfl⟩
  have hn128 : n ≤ 128 := by omega
  rw [hn] at hw2 HY ⊢
  refine (callsIn_wide (n := 3)).1 ?_
  refine callsIn_of_wp Try.func66 rfl trivial ?_ rfl
  simp only [Try.ntmps66, List.size_toArray, List.length_cons, List.length_nil, Nat.reduceAdd, Nat.reduceSub, Array.replicate_succ, Array.replicate_zero, List.push_toArray, List.append_toArray, List.nil_append, List.cons_append]
  gi_wp2
  gi_loopw [7] (fun x wr => ∃ i : Nat, x = .int .i64 i ∧ i ≤ n ∧ J (preP n i 0) wr) (fun x _ => n - (intOf x).toNat)
  case atStart => exact ⟨0, rfl, by omega, h0⟩
  case round =>
    obtain ⟨i, rfl, hi, hj⟩ := hrel
    by_cases hlt : i < n
    · have cw : wr.cell? ⟨b, 0, none⟩ = some (.int .i64 N) := HK.out _ _ hj
      have k1 : ((i : Int) < 2 * (N : Int)) := by omega
      gi_wp2
      gi_loopw [12] (fun x wr => ∃ j : Nat, x = .int .i64 j ∧ j ≤ n ∧ J (preP n i j) wr) (fun x _ => n - (intOf x).toNat)
      case atStart => exact ⟨0, rfl, by omega, hj⟩
      case round =>
        clear cw hj
        obtain ⟨j, rfl, hj, hJ⟩ := hrel
        by_cases hjt : j < n
        · have k2 : ((j : Int) < 2 * (N : Int)) := by omega
          obtain ⟨fn, tmps, assign, body, hy, hR⟩ := HY.out _ (i, j) _ hJ (by rw [preP_j]; exact preP_pre hlt (by omega))
          dsimp only [encP] at hy
          gi_wp2
          refine hR.mono ?_
          clear hy hR
          rw [preP_j]
          rintro e W3 (⟨rfl, hj3, ha3⟩ | ⟨rfl, hjx3, ha3⟩)
          · gi_wp2
            go_roundw
            case rel => exact ⟨j + 1, by go_num, by omega, hj3⟩
            case measure => simp [intOf]; omega
          · gi_wp2
            refine bodyPost_ret (results_none rfl _ _ _) rfl ?_
            exact ⟨⟨_, rfl⟩, .inr ⟨_, by rw [← preP_j]; rw [preP_j]; exact preP_pre hlt (by omega), hjx3⟩⟩
        · have k2 : 2 * (N : Int) ≤ (j : Int) := by omega
          obtain rfl : j = n := by omega
          rw [preP_i] at hJ
          gi_wp2
          go_roundw
          case rel => exact ⟨i + 1, by go_num, by omega, hJ⟩
          case measure => simp [intOf]; omega
    · have k1 : 2 * (N : Int) ≤ (i : Int) := by omega
      obtain rfl : i = n := by omega
      rw [preP_all] at hj
      gi_wp2
      go_end0
      exact ⟨⟨_, rfl⟩, .inl hj⟩
end Go.Proofs.Ythnefcafhpioaaa
