/-
  gnomonlaw2.LexLines: the walk: proved is that it answers true for every two numbers.
  Condition: Go's tables of package unicode/utf8 and the two errors of package strconv hold what their text lays ('Env').
-/
import Derived.Test.YtifgmkenfmmelaaDoorLinesA
import Derived.Test.YtifgmkenfmmelaaDoorNumC
namespace Go.Proofs.YtifgmkenfmmelaaDoor
open Go Go.RowKit

theorem rep_snoc (k : Nat) : List.replicate k (32 : UInt8) ++ [32] = List.replicate (k + 1) 32 := by rw [List.replicate_succ']

set_option maxRecDepth 100000 in
set_option maxHeartbeats 4000000 in
theorem lexlines_walk (x y : Int) (w : World) (hE : Env w) :
    Calls Tryd.prog 7 #[.int .i64 x, .int .i64 y] w fun e w' => e = .returned (.bool true) ∧ Below w.heap.size w w' := by
  have HK := Lib.hid (known2_any w hE)
  have HE := Lib.hid hE; clear hE
  by_cases h0 : x < 0 ∨ 300 < x ∨ y < 0 ∨ 300 < y
  · rcases (show x < 0 ∨ (¬ x < 0 ∧ 300 < x) ∨ (¬ x < 0 ∧ ¬ 300 < x ∧ y < 0) ∨ (¬ x < 0 ∧ ¬ 300 < x ∧ ¬ y < 0 ∧ 300 < y) by omega) with h1 | ⟨h1, h2⟩ | ⟨h1, h2, h3⟩ | ⟨h1, h2, h3, h4⟩
    all_goals
      clear h0
      go_enter Tryd.func7, Tryd.ntmps7
      go_wp2_with (go_at_call 8; refine HK.out.mono ?_; rintro e w1 ⟨rfl, hb1⟩)
      go_ret
      exact ⟨rfl, hb1⟩
  · have h1 : ¬ x < 0 := by omega
    have h2 : ¬ 300 < x := by omega
    have h3 : ¬ y < 0 := by omega
    have h4 : ¬ 300 < y := by omega
    clear h0
    obtain ⟨d, rfl⟩ : ∃ d : Nat, x = d := ⟨x.toNat, by omega⟩
    obtain ⟨r, rfl⟩ : ∃ r : Nat, y = r := ⟨y.toNat, by omega⟩
    have hd : d ≤ 300 := by omega
    have hr : r ≤ 300 := by omega
    have hL := (lined d r hd hr).lex
    have hT := fun w hE => tokens_any ⟨⟨(linesL d ++ List.replicate r 32) ++ [195, 169, 49]⟩⟩ w (by rw [size_list]; have := linesL_len d; simp; omega) hE
    rw [hL, ← cat_list] at hT
    clear hL
    have HT := Lib.hid hT; clear hT
    go_enter Tryd.func7, Tryd.ntmps7
    go_wp2_with (go_at_call 8; refine HK.out.mono ?_; rintro e w1 ⟨rfl, hb1⟩)
    go_loop [5, 6] (fun s i => ∃ k : Nat, k ≤ d ∧ i = .int .i64 k ∧ s = .string ⟨⟨linesL k⟩⟩) (fun _ i => d - (intOf i).toNat)
    case atStart => exact ⟨0, by omega, rfl, rfl⟩
    case round =>
      obtain ⟨k, hk, rfl, rfl⟩ := hrel
      have hlen := linesL_len k
      have hlk : (linesL k).length ≤ 1500 := by omega
      clear hlen
      by_cases hlt : k < d
      · go_wp2
        go_round
        case rel => exact ⟨k + 1, by omega, by go_num, by rw [show linesL (k + 1) = linesL k ++ [35, 32, 195, 169, 10] from rfl, ← cat_list]⟩
        case measure => simp [intOf]; omega
      · obtain rfl : k = d := by omega
        go_wp2
        go_loop [5, 7] (fun s i => ∃ j : Nat, j ≤ r ∧ i = .int .i64 j ∧ s = .string ⟨⟨linesL k ++ List.replicate j 32⟩⟩) (fun _ i => r - (intOf i).toNat)
        case atStart => exact ⟨0, by omega, rfl, by simp⟩
        case round =>
          obtain ⟨j, hj, rfl, rfl⟩ := hrel
          have hlj : (linesL k ++ List.replicate j 32).length ≤ 1800 := by simp; omega
          by_cases hlt2 : j < r
          · go_wp2
            go_round
            case rel => exact ⟨j + 1, by omega, by go_num, by rw [← rep_snoc, ← List.append_assoc]; exact congrArg Value.string (cat_list _ _)⟩
            case measure => simp [intOf]; omega
          · obtain rfl : j = r := by omega
            have HE1 := Lib.hid (HE.out.later hb1)
            obtain ⟨L, hLL⟩ : ∃ L, linesL k ++ List.replicate j 32 = L := ⟨_, rfl⟩
            rw [hLL] at HT hlj ⊢
            clear hLL
            go_wp2_with fail
            refine (HT.out _ HE1.out).mono ?_
            rintro _ w3 hx
            obtain ⟨v3, rfl, ho3, hb3⟩ := hx
            obtain ⟨g, cap, rfl, hg1, hg2, hcell⟩ := owns_form ho3 (by simp)
            have k0 : w3.cell? ⟨g, 0, none⟩ = some (.int .i64 1) := hcell 0 _ rfl
            have k1 : w3.cell? ⟨g, 1, none⟩ = some (.string ⟨⟨[195, 169, 49]⟩⟩) := hcell 1 _ rfl
            have k2 : w3.cell? ⟨g, 2, none⟩ = some (.int .i64 0) := hcell 2 _ rfl
            have k3 : w3.cell? ⟨g, 3, none⟩ = some (.int .i64 ((k : Int) + 1)) := hcell 3 _ rfl
            have k4 : w3.cell? ⟨g, 4, none⟩ = some (.int .i64 ((j : Int) + 1)) := hcell 4 _ rfl
            have k8 : w3.cell? ⟨g, 8, none⟩ = some (.int .i64 ((k : Int) + 1)) := hcell 8 _ rfl
            have k9 : w3.cell? ⟨g, 9, none⟩ = some (.int .i64 ((j : Int) + 3)) := hcell 9 _ rfl
            clear ho3 hcell
            simp only [List.length_cons, List.length_nil]
            go_wp2_with fail
            have hB3 : Below w3.heap.size w3 (w3.alloc (.cells #[.int .i64 0, .int .i64 0] 25)) := (Below.refl _ w3).alloc (Nat.le_refl _) _
            have hB := hb1.trans ((hb3.trans (hB3.mono hb3.size)).mono hb1.size)
            go_ret
            exact ⟨rfl, hB⟩
end Go.Proofs.YtifgmkenfmmelaaDoor
