/-
  Layer 8's own trial (known): proved is that it answers true, and turns nothing that lay.
-/
import Derived.Test.YtbhbmoppipohjaaQFamA

namespace Go.Proofs.Ytbhbmoppipohjaa
open Go Go.RowKit Go.Maps

def knS : List Nd := [giveS xS (kE 1 1 e0 []), giveS xS (twoE 6 (varE xS) (kE 1 2 e0 []))]
theorem knF : runF [oneD] knS [] 9 = 0 := by decide +kernel
theorem knO : runO [oneD] knS [] 9 = (2, 0, ⟨[3], [], [], 2, []⟩) := by kernel_rfl
theorem giveS_in {w : World} {s : ByteArray} (hs : s.size ≤ maxLen) {x : Nd} {v : Value} (h : SlIn w .E [x] v) : NdIn w (giveS s x) [.int .i64 1, .string s, v, .slice none 0 0, .slice none 0 0, .slice none 0 0] := by
  unfold giveS NdIn
  exact ⟨rfl, small_ok (by decide) (by decide), ok0, hs, v, .slice none 0 0, .slice none 0 0, .slice none 0 0, rfl, h, sl0 w .C, sl0 w .S, sl0 w .S⟩
theorem declD_in {w : World} {s : ByteArray} {n : Int} (hs : s.size ≤ maxLen) (hn : i64ok n) : NdIn w (.mk .D 0 n s [] [] [] []) [.string s, .int .i64 n] := by
  unfold NdIn
  exact ⟨⟨rfl, rfl, rfl, rfl, rfl⟩, ok0, hn, hs, .slice none 0 0, .slice none 0 0, .slice none 0 0, .slice none 0 0, rfl, sl0 w .E, sl0 w .C, sl0 w .S, sl0 w .S⟩
set_option maxRecDepth 100000 in
theorem known8_any (w : World) : Calls Try.prog 4 #[] w (fun e w' => e = .returned (.bool true) ∧ Below w.heap.size w w') := by
  go_enter Try.func4, Try.ntmps4
  go_wp2_with fail
  obtain ⟨W, hW⟩ : ∃ W, ((((((w.alloc (.cells #[.int .i64 2, .int .i64 0, .string ⟨#[120]⟩, .slice none 0 0, .int .i64 1, .int .i64 2, .string ⟨#[]⟩, .slice none 0 0] 42)).alloc (.cells #[.int .i64 6, .int .i64 0, .string ⟨#[]⟩, .slice (some ⟨w.heap.size, 0, none⟩) 2 2] 42)).alloc (.cells #[.string ⟨#[120]⟩, .int .i64 0] 44)).alloc (.cells #[.int .i64 1, .int .i64 1, .string ⟨#[]⟩, .slice none 0 0] 42)).alloc (.cells #[.int .i64 6, .int .i64 0, .string ⟨#[]⟩, .slice (some ⟨w.heap.size, 0, none⟩) 2 2] 42)).alloc (.cells #[.int .i64 1, .string ⟨#[120]⟩, .slice (some ⟨w.heap.size + 1 + 1 + 1, 0, none⟩) 1 1, .slice none 0 0, .slice none 0 0, .slice none 0 0, .int .i64 1, .string ⟨#[120]⟩, .slice (some ⟨w.heap.size + 1 + 1 + 1 + 1, 0, none⟩) 1 1, .slice none 0 0, .slice none 0 0, .slice none 0 0] 47)).alloc (.cells #[.slice (some ⟨w.heap.size + 1 + 1, 0, none⟩) 1 1, .slice (some ⟨w.heap.size + 1 + 1 + 1 + 1 + 1, 0, none⟩) 2 2] 25) = W := ⟨_, rfl⟩
  have hbw : Below w.heap.size w W := by rw [← hW]; exact (((((((Below.refl _ w).alloc (Nat.le_refl _) _).alloc (by simp <;> omega) _).alloc (by simp <;> omega) _).alloc (by simp <;> omega) _).alloc (by simp <;> omega) _).alloc (by simp <;> omega) _).alloc (by simp <;> omega) _
  have b0 : Blk W (w.heap.size) [[.int .i64 2, .int .i64 0, .string ⟨#[120]⟩, .slice none 0 0], [.int .i64 1, .int .i64 2, .string ⟨#[]⟩, .slice none 0 0]].flatten.toArray 42 := by rw [← hW]; exact ((((((Blk.at (by simp)).alloc _).alloc _).alloc _).alloc _).alloc _).alloc _
  have b2 : Blk W (w.heap.size + 1 + 1) [[.string ⟨#[120]⟩, .int .i64 0]].flatten.toArray 44 := by rw [← hW]; exact ((((Blk.at (by simp)).alloc _).alloc _).alloc _).alloc _
  have b3 : Blk W (w.heap.size + 1 + 1 + 1) [[.int .i64 1, .int .i64 1, .string ⟨#[]⟩, .slice none 0 0]].flatten.toArray 42 := by rw [← hW]; exact (((Blk.at (by simp)).alloc _).alloc _).alloc _
  have b4 : Blk W (w.heap.size + 1 + 1 + 1 + 1) [[.int .i64 6, .int .i64 0, .string ⟨#[]⟩, .slice (some ⟨w.heap.size, 0, none⟩) 2 2]].flatten.toArray 42 := by rw [← hW]; exact ((Blk.at (by simp)).alloc _).alloc _
  have b5 : Blk W (w.heap.size + 1 + 1 + 1 + 1 + 1) [[.int .i64 1, .string ⟨#[120]⟩, .slice (some ⟨w.heap.size + 1 + 1 + 1, 0, none⟩) 1 1, .slice none 0 0, .slice none 0 0, .slice none 0 0], [.int .i64 1, .string ⟨#[120]⟩, .slice (some ⟨w.heap.size + 1 + 1 + 1 + 1, 0, none⟩) 1 1, .slice none 0 0, .slice none 0 0, .slice none 0 0]].flatten.toArray 47 := by rw [← hW]; exact (Blk.at (by simp)).alloc _
  rw [hW]
  have l1 : SlIn W .E [varE xS, kE 1 2 e0 []] (.slice (some ⟨w.heap.size, 0, none⟩) 2 2) := slIn_blk (vss := [_, _]) b0 rfl two_le (nodes2 rfl (leafE (small_ok (by decide) (by decide)) ok0 (by decide)) rfl (leafE (small_ok (by decide) (by decide)) (small_ok (by decide) (by decide)) (by decide)))
  have l2 : SlIn W .E [kE 1 1 e0 []] (.slice (some ⟨w.heap.size + 1 + 1 + 1, 0, none⟩) 1 1) := slIn_blk (vss := [_]) b3 rfl one_le (nodes1 rfl (leafE (small_ok (by decide) (by decide)) (small_ok (by decide) (by decide)) (by decide)))
  have l3 : SlIn W .E [twoE 6 (varE xS) (kE 1 2 e0 [])] (.slice (some ⟨w.heap.size + 1 + 1 + 1 + 1, 0, none⟩) 1 1) := slIn_blk (vss := [_]) b4 rfl one_le (nodes1 rfl (nodeE (small_ok (by decide) (by decide)) ok0 (by decide) l1))
  have hs : SlIn W .S knS (.slice (some ⟨w.heap.size + 1 + 1 + 1 + 1 + 1, 0, none⟩) 2 2) := slIn_blk (vss := [_, _]) b5 rfl two_le (nodes2 rfl (giveS_in (by decide) l2) rfl (giveS_in (by decide) l3))
  have hd : SlIn W .D [oneD] (.slice (some ⟨w.heap.size + 1 + 1, 0, none⟩) 1 1) := slIn_blk (vss := [_]) b2 rfl one_le (nodes1 rfl (declD_in (by decide) (small_ok (by decide) (by decide))))
  have HC := Lib.hid (Run_any [oneD] knS [] 9 _ _ _ W hd hs ⟨none, 0, rfl, Nat.le_refl _, Nat.zero_le _, .inl rfl⟩ (fun x hx => by cases hx))
  have HB := Lib.hid hbw
  clear b0 b2 b3 b4 b5 l1 l2 l3 hs hd hW hbw
  refine HC.out.mono ?_
  rintro e w2 ⟨u, rfl, hb2, hout, -⟩
  have hO := hout knF
  rw [knO] at hO
  obtain ⟨ve, vv, va, rfl, hev, ⟨b, c, rfl, -, -, -, hiv⟩, hrv, -⟩ := hO
  obtain ⟨a5, c5, rfl⟩ := hev.form
  obtain ⟨a7, c7, rfl⟩ := hrv.form
  have i0 : w2.cell? ⟨b, 0, none⟩ = some (.int .i64 3) := hiv 0 (by decide)
  have hlt := World.block_lt_of_cell? w2 _ i0
  rw [knF]
  have HB2 := Lib.hid (HB.out.trans (hb2.mono HB.out.size))
  clear hout hb2 hev hiv hrv
  simp only [List.length_cons, List.length_nil]
  go_wp2_with fail
  go_ret
  exact ⟨rfl, HB2.out.alloc HB2.out.size _⟩
end Go.Proofs.Ytbhbmoppipohjaa
