/-
  gnomonlaw2.LexNumbers: the walk: proved is that it answers true for every number.
  Condition: Go's tables of package unicode/utf8 and the two errors of package strconv hold what their text lays ('Env').
-/
import Derived.Test.YtifgmkenfmmelaaDoorNumB
import Derived.Test.YtifgmkenfmmelaaDoorLexY
namespace Go.Proofs.YtifgmkenfmmelaaDoor
open Go Go.RowKit

theorem below_drewN {B : Nat} {a w : World} (h : Below B a w) (n : Nat) : Below B a (w.drewN n) := ⟨h.os, h.tape, h.output, h.size, h.block⟩
theorem Lexed.at {w : World} {V : Int × (Int × Int) × List Tk} {e : Ending} {w' : World} (h : Lexed w V e w') : ∃ v, e = .returned (.tuple #[v, .agg #[.int .i64 V.2.1.1, .int .i64 V.2.1.2], .int .i64 V.1]) ∧ w'.ownsRow w.heap.size 33 5 v V.2.2.length (cellsOf V.2.2) ∧ Below w.heap.size w w' := h

set_option maxRecDepth 100000 in
set_option maxHeartbeats 4000000 in
theorem lexnumbers_walk (n : Int) (w : World) (hn : n ≤ 9223372036854775807) (hE : Env w) :
    Calls Tryd.prog 6 #[.int .i64 n] w fun e w' => e = .returned (.bool true) ∧ Below w.heap.size w w' := by
  have HK := Lib.hid (known2_any w hE)
  have HE := Lib.hid hE; clear hE
  by_cases h0 : n < 0
  · go_enter Tryd.func6, Tryd.ntmps6
    go_wp2_with (go_at_call 8; refine HK.out.mono ?_; rintro e w1 ⟨rfl, hb1⟩)
    go_ret
    exact ⟨rfl, hb1⟩
  · obtain ⟨m, rfl⟩ : ∃ m : Nat, n = m := ⟨n.toNat, by omega⟩
    have hm : m ≤ 9223372036854775807 := by omega
    have HD := Lib.hid (fun w => digits5_any m w hm)
    obtain ⟨Q, hQ⟩ := lex_digs m hm
    have h1 := fun w hE => tokens_any ⟨⟨digs m⟩⟩ w (by rw [size_list]; have := (digs_len 18 m (by omega)).2; omega) hE
    have h2 := fun w hE => tokens_any ⟨⟨48 :: digs m⟩⟩ w (by rw [size_list]; have := (digs_len 18 m (by omega)).2; simp; omega) hE
    have h3 := fun w hE => tokens_any ⟨⟨digs m ++ [120]⟩⟩ w (by rw [size_list]; have := (digs_len 18 m (by omega)).2; simp; omega) hE
    rw [hQ] at h1
    rw [lex_zero m hm, show (48 : UInt8) :: digs m = [48] ++ digs m from rfl, ← cat_list] at h2
    rw [lex_letter m hm, ← cat_list] at h3
    have hlen : (digs m).length ≤ 19 := (digs_len 18 m (by omega)).2
    obtain ⟨d, hd⟩ : ∃ d, digs m = d := ⟨_, rfl⟩
    rw [hd] at HD h1 h2 h3 hlen
    clear hd hQ
    have H1 := Lib.hid h1; clear h1
    have H2 := Lib.hid h2; clear h2
    have H3 := Lib.hid h3; clear h3
    go_enter Tryd.func6, Tryd.ntmps6
    go_wp2_with (first | (go_at_call 8; refine HK.out.mono ?_; rintro e w1 ⟨rfl, hb1⟩; have HE1 := Lib.hid (HE.out.later hb1)) | (go_at_call 16; refine (HD.out _).mono ?_; rintro e w2 ⟨rfl, hb2⟩; have HE2 := Lib.hid (HE1.out.later hb2)) | fail)
    refine (H1.out _ HE2.out).mono ?_
    rintro _ w3 hx
    obtain ⟨v3, rfl, ho3, hb3⟩ := hx
    obtain ⟨g, cap, rfl, hg1, hg2, hcell⟩ := owns_form ho3 (by simp)
    have k0 : w3.cell? ⟨g, 0, none⟩ = some (.int .i64 2) := hcell 0 _ rfl
    have k1 : w3.cell? ⟨g, 1, none⟩ = some (.string ⟨⟨d⟩⟩) := hcell 1 _ rfl
    have k2 : w3.cell? ⟨g, 2, none⟩ = some (.int .i64 m) := hcell 2 _ rfl
    have k3 : w3.cell? ⟨g, 3, none⟩ = some (.int .i64 1) := hcell 3 _ rfl
    have k4 : w3.cell? ⟨g, 4, none⟩ = some (.int .i64 1) := hcell 4 _ rfl
    clear ho3 hcell
    have HE3 := Lib.hid ((HE2.out.later hb3).later ((Below.refl _ w3).alloc (Nat.le_refl _) (.cells #[.int .i64 0, .int .i64 0] 25)))
    simp only [List.length_cons, List.length_nil]
    go_wp2_with fail
    refine (H2.out _ HE3.out).mono ?_
    rintro _ w4 hx
    obtain ⟨v4, rfl, ho4, hb4⟩ := hx
    clear ho4
    have HE4 := Lib.hid ((HE3.out.later hb4).later ((Below.refl _ w4).alloc (Nat.le_refl _) (.cells #[.int .i64 1, .int .i64 1] 25)))
    go_wp2_with fail
    refine (H3.out _ HE4.out).mono ?_
    rintro _ w5 hx
    obtain ⟨v5, rfl, ho5, hb5⟩ := hx
    clear ho5
    go_wp2_with fail
    have hz3 := hb3.size
    have hz4 := hb4.size
    have hz5 := hb5.size
    simp only [World.size_alloc] at hz4 hz5
    have b2 := (((Blk.new w4 #[.int .i64 1, .int .i64 1] 25).below hb5 (by simp)).alloc (.cells #[.int .i64 1, .int .i64 1] 25)).alloc (.cells #[.int .i64 1, .int .i64 1] 25)
    have b3 := (Blk.new w5 #[.int .i64 1, .int .i64 1] 25).alloc (.cells #[.int .i64 1, .int .i64 1] 25)
    have b4 := Blk.new (w5.alloc (.cells #[.int .i64 1, .int .i64 1] 25)) #[.int .i64 1, .int .i64 1] 25
    rw [World.size_alloc] at b4
    have hB3 : Below w3.heap.size w3 ((w5.alloc (.cells #[.int .i64 1, .int .i64 1] 25)).alloc (.cells #[.int .i64 1, .int .i64 1] 25)) :=
      ((((((Below.refl _ w3).alloc (Nat.le_refl _) _).trans (hb4.mono (by simp))).alloc (by omega) _).trans (hb5.mono (by simp; omega))).alloc (by omega) _).alloc (by simp; omega) _
    have hB : Below w.heap.size w ((w5.alloc (.cells #[.int .i64 1, .int .i64 1] 25)).alloc (.cells #[.int .i64 1, .int .i64 1] 25)) :=
      hb1.trans ((hb2.trans ((hb3.trans (hB3.mono hz3)).mono hb2.size)).mono hb1.size)
    obtain ⟨W, hW⟩ : ∃ W, (w5.alloc (.cells #[.int .i64 1, .int .i64 1] 25)).alloc (.cells #[.int .i64 1, .int .i64 1] 25) = W := ⟨_, rfl⟩
    rw [hW] at b2 b3 b4 hB3 hB ⊢
    clear hW
    have q0 := (hB3.cell (p := ⟨g, 0, none⟩) hg2).trans k0
    have q1 := (hB3.cell (p := ⟨g, 1, none⟩) hg2).trans k1
    have q2 := (hB3.cell (p := ⟨g, 2, none⟩) hg2).trans k2
    have q3 := (hB3.cell (p := ⟨g, 3, none⟩) hg2).trans k3
    have q4 := (hB3.cell (p := ⟨g, 4, none⟩) hg2).trans k4
    have r0 := b2.cell 0
    have r1 := b2.cell 1
    have s0 := b3.cell 0
    have s1 := b3.cell 1
    have t0 := b4.cell 0
    have t1 := b4.cell 1
    simp at r0 r1 s0 s1 t0 t1
    clear k0 k1 k2 k3 k4 hB3
    go_quiet (fail)
    go_wp2
    go_ret
    exact ⟨rfl, below_drewN hB nq⟩
end Go.Proofs.YtifgmkenfmmelaaDoor
