/-
  The document's walk over an expression (gnomonref3's walk.expr), by induction on the tree: proved is what it leaves in the walk's cells, and that nothing else that lay is turned.
-/
import Derived.Test.YtbchibmmkmldiaaGreatDoorTwalk
namespace Go.Proofs.YtbchibmmkmldiaaGreatDoor
open Go Go.RowKit

/-- What a walk over a node has left. -/
def WalkedTo (w : World) (B : Nat) (s : Wk) (e : Ending) (w' : World) : Prop := e = .returned (.tuple #[]) ∧ Blk w' B s.cells 70 ∧ Only B w w'
theorem Nd.mem_size {x y : Nd} (h : y ∈ x.xs ∨ y ∈ x.cs ∨ y ∈ x.ts ∨ y ∈ x.es) : SizeOf.sizeOf y < SizeOf.sizeOf x := by
  obtain ⟨ty, k, n, nm, xs, cs, ts, es⟩ := x
  simp only [Nd.xs, Nd.cs, Nd.ts, Nd.es] at h
  simp only [Nd.mk.sizeOf_spec]
  rcases h with h | h | h | h <;> (have := List.sizeOf_lt_of_mem h; omega)
/-- Item i of a list in memory, spelled for the walk. -/
theorem SlIn.item4 {w : World} {ty : Ty} {l : List Nd} {b o : Nat} (hz : ty.size = 4) (h : RowIn w ty l b o) (i : Nat) (hi : i < l.length) : (l[i]).ty = ty ∧ ∃ v0 v1 v2 v3, w.cell? ⟨b, o + i * 4, none⟩ = some v0 ∧ w.cell? ⟨b, o + i * 4 + 1, none⟩ = some v1 ∧ w.cell? ⟨b, o + i * 4 + 2, none⟩ = some v2 ∧ w.cell? ⟨b, o + i * 4 + 3, none⟩ = some v3 ∧ NdIn w l[i] [v0, v1, v2, v3] := by
  obtain ⟨h1, vs, h2, h3⟩ := RowIn.at l b o i hi h
  have hl := h3.len
  rw [h1, hz] at hl
  obtain ⟨v0, v1, v2, v3, rfl⟩ := len4 hl
  rw [hz] at h2
  exact ⟨h1, v0, v1, v2, v3, h2 0 _ rfl, h2 1 _ rfl, h2 2 _ rfl, h2 3 _ rfl, h3⟩

set_option maxRecDepth 100000 in
set_option maxHeartbeats 4000000 in
theorem wexpr_any (w0 : World) (B : Nat) (hB0 : w0.heap.size ≤ B) : ∀ (N : Nat) (x : Nd) (v0 v1 v2 v3 : Value) (d : Int) (s : Wk) (w : World), SizeOf.sizeOf x ≤ N → x.ty = .E → NdIn w0 x [v0, v1, v2, v3] → Below w0.heap.size w0 w → s.ok → 0 ≤ d → d ≤ 100 → Blk w B s.cells 70 →
    Calls Tryz.prog 75 #[.pointer (some ⟨B, 0, none⟩), .agg #[v0, v1, v2, v3], .int .i64 d] w (WalkedTo w B (walkN x d s)) := by
  intro N
  induction N with
  | zero =>
    intro x v0 v1 v2 v3 d s w hN
    obtain ⟨ty, k, n, nm, xs, cs, ts, es⟩ := x
    simp only [Nd.mk.sizeOf_spec] at hN
    omega
  | succ N ih =>
    intro x v0 v1 v2 v3 d s w hN hty hin hw hs hd0 hd1 hB
    have hlt := hB.lt
    have hmem := fun y (h : y ∈ x.xs) => Nd.mem_size (x := x) (y := y) (.inl h)
    obtain ⟨ty, k, n, nm, xs, cs, ts, es⟩ := x
    simp only [Nd.ty] at hty
    subst hty
    simp only [Nd.xs] at hmem
    unfold NdIn at hin
    obtain ⟨⟨rfl, rfl, rfl⟩, _, _, _, vx, vc, vt, ve, hvs, hx, _, _, _⟩ := hin
    simp only [lay, List.cons.injEq, and_true] at hvs
    obtain ⟨rfl, rfl, rfl, rfl⟩ := hvs
    obtain ⟨a, c, rfl, hlc, hcm, hrow⟩ := hx
    have hwk : walkN (.mk .E k n nm xs [] [] []) d s = if (nodeW d s).bad ≠ 0 then nodeW d s else walkL xs (d + 1) (nodeW d s) := by unfold walkN; rfl
    rw [hwk]
    clear hwk
    have h1ok := nodeW_ok hs hd0
    have hdeep := nodeW_deep (d := d) (s := s)
    have hnode := fun w hB => wnode_any s d B w hs ⟨hd0, hd1⟩ hB
    obtain ⟨S1, hS1⟩ : ∃ S1, nodeW d s = S1 := ⟨_, rfl⟩
    rw [hS1] at h1ok hdeep hnode ⊢
    clear hS1
    have HIH := Lib.hid (fun (i : Nat) (hi : i < xs.length) v0 v1 v2 v3 d s w => ih xs[i] v0 v1 v2 v3 d s w (by have := hmem _ (List.getElem_mem hi); omega))
    clear ih hmem
    have HB := Lib.hid hB; clear hB
    have HROW := Lib.hid hrow; clear hrow
    by_cases hbad : S1.bad = 0
    · rw [if_neg (by simpa using hbad)]
      have hd64 := hdeep hbad
      simp only [hbad, decide_true] at hnode
      clear hdeep
      have HN := Lib.hid hnode; clear hnode
      go_enter Tryz.func75, Tryz.ntmps75
      go_wp2_with (first | (go_at_call 47; (with_reducible refine (HN.out _ (HB.out.alloc _)).mono ?_); rintro e w1 ⟨rfl, hB1, ho1⟩) | fail)
      have hE1 := (Blk.new w #[.int .i64 k, .int .i64 n, .string nm, .slice a xs.length c] 36).only ho1 (by omega)
      have hO1 := (Only.refl B w).alloc (.cells #[.int .i64 k, .int .i64 n, .string nm, .slice a xs.length c] 36) |>.trans ho1
      clear ho1
      have HB1 := Lib.hid hB1; clear hB1
      have HE1 := Lib.hid hE1; clear hE1
      have HO1 := Lib.hid hO1; clear hO1
      have hne : w.heap.size ≠ B := by omega
      go_loopw [6] (fun x wr => ∃ i : Nat, x = .int .i64 i ∧ i ≤ xs.length ∧ Blk wr B (walkL (xs.take i) (d + 1) S1).cells 70 ∧ Blk wr w.heap.size #[.int .i64 k, .int .i64 n, .string nm, .slice a xs.length c] 36 ∧ Only B w wr) (fun x _ => xs.length - (intOf x).toNat)
      case atStart => exact ⟨0, rfl, by omega, by rw [List.take_zero, walkL]; exact HB1.out, HE1.out, HO1.out⟩
      case round =>
        obtain ⟨i, rfl, hi, hBr, hEr, hOr⟩ := hrel
        clear HB1 HE1 HO1 HN
        have e3 : wr.cell? ⟨w.heap.size, 3, none⟩ = some (.slice a xs.length c) := hEr.cell 3
        have b2 : wr.cell? ⟨B, 2, none⟩ = some (.int .i64 (walkL (xs.take i) (d + 1) S1).bad) := hBr.cell 2
        have hsok := walkL_ok (xs.take i) (d + 1) S1 h1ok (by omega)
        have hstop := walkL_stop (l := xs) (i := i) (d := d + 1) (s := S1)
        have htk := fun h => walkL_take (l := xs) (i := i) h (d + 1) S1
        have HE := Lib.hid hEr; clear hEr
        have HO := Lib.hid hOr; clear hOr
        by_cases hlt2 : i < xs.length
        · have hbi : (i : Int) + 1 ≤ 9223372036854775807 := by unfold maxLen at hcm; omega
          obtain ⟨S, hS⟩ : ∃ S, walkL (xs.take i) (d + 1) S1 = S := ⟨_, rfl⟩
          rw [hS] at hBr b2 hsok hstop htk
          clear hS
          have HBr := Lib.hid hBr; clear hBr
          have hxl : ¬ xs.length = 0 := by omega
          obtain ⟨b, o, rfl, hrow⟩ := HROW.out.resolve_left hxl
          by_cases hb : S.bad = 0
          · rw [hb] at b2
            have hold : Below w0.heap.size w0 wr := hw.trans (HO.out.old hB0 hw.size)
            obtain ⟨hty, u0, u1, u2, u3, m0, m1, m2, m3, hnd⟩ := SlIn.item4 rfl hrow i hlt2
            have kk := keeps_below hold
            have k0 := kk _ _ _ m0
            have k1 := kk _ _ _ m1
            have k2 := kk _ _ _ m2
            have k3 := kk _ _ _ m3
            have HC := Lib.hid (HIH.out i hlt2 u0 u1 u2 u3 (d + 1) S wr hty hnd hold hsok (by omega) (by omega) HBr.out)
            have HTK := Lib.hid (htk hlt2)
            clear m0 m1 m2 m3 hnd hty hold kk hstop htk hrow
            go_wp2_with fail
            refine HC.out.mono ?_
            rintro e w2 ⟨rfl, hB2, hO2⟩
            rw [← HTK.out] at hB2
            have hE2 := HE.out.only hO2 hne
            have hO3 := HO.out.trans hO2
            have HB2 := Lib.hid hB2; clear hB2
            have HE2 := Lib.hid hE2; clear hE2
            clear hO2
            have HO3 := Lib.hid hO3; clear hO3
            go_wp2
            go_roundw
            case rel => exact ⟨i + 1, by go_num, by omega, HB2.out, HE2.out, HO3.out⟩
            case measure => simp [intOf]; omega
          · have hb2 : (S.bad == 0) = false := by simpa using hb
            have HST := Lib.hid (hstop hb)
            clear hstop htk
            go_wp2
            go_end0
            exact ⟨rfl, by rw [HST.out]; exact HBr.out, HO.out⟩
        · obtain rfl : i = xs.length := by omega
          rw [List.take_length] at hBr
          have HBr := Lib.hid hBr; clear hBr
          clear hstop htk b2 hsok
          go_wp2
          go_end0
          exact ⟨rfl, HBr.out, HO.out⟩
    · rw [if_pos hbad]
      have hf : decide (S1.bad = 0) = false := by simpa using hbad
      simp only [hf] at hnode
      clear hdeep hf
      have HN := Lib.hid hnode; clear hnode
      go_enter Tryz.func75, Tryz.ntmps75
      go_wp2_with (first | (go_at_call 47; (with_reducible refine (HN.out _ (HB.out.alloc _)).mono ?_); rintro e w1 ⟨rfl, hB1, ho1⟩) | fail)
      go_end0
      exact ⟨rfl, hB1, (Only.refl B w).alloc _ |>.trans ho1⟩
end Go.Proofs.YtbchibmmkmldiaaGreatDoor
