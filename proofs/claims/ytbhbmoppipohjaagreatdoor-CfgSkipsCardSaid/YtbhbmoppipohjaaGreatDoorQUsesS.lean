/-
  The document's names in statements (gnomonref3's stmtUses, Uses): proved is that they are put behind the list that is handed on.
-/
import Derived.Test.YtbhbmoppipohjaaGreatDoorQTwalkS
import Derived.Test.YtbhbmoppipohjaaGreatDoorQTourH
import Derived.Maps.Range
import Derived.Outline
import Derived.Deep.DeepCutAuto
import Derived.Deep.CutBlock
import Derived.Test.YtbhbmoppipohjaaGreatDoorQPlainE
/-
  Lists of one's own that functions hand on and append to: a frame for them; cells of such a list; names that are used, in a row.
-/
namespace Go.Proofs.YtbhbmoppipohjaaGreatDoor
open Go Go.RowKit

/-- w' is w but for the row r and new blocks; the row r' is r or new. -/
def Gr (r r' : Option Nat) (w w' : World) : Prop := w.grownBy w' r ∧ (r' = r ∨ ∀ g, r' = some g → w.heap.size ≤ g)
theorem Gr.refl (r : Option Nat) (w : World) : Gr r r w w := ⟨World.grownBy.refl w r, .inl rfl⟩
theorem Gr.trans {r0 r1 r2 : Option Nat} {a b c : World} (h : Gr r0 r1 a b) (k : Gr r1 r2 b c) : Gr r0 r2 a c := by
  refine ⟨h.1.andThen k.1 (fun j hj => ?_), ?_⟩
  · rcases h.2 with h1 | h1
    · exact .inr (by rw [← h1]; exact hj)
    · exact .inl (h1 j hj)
  · rcases k.2 with h2 | h2
    · rw [h2]; exact h.2
    · exact .inr fun g hg => Nat.le_trans h.1.size (h2 g hg)
theorem Gr.below {r : Option Nat} {w w' : World} (h : Below w.heap.size w w') : Gr r r w w' := ⟨⟨h.os, h.tape, h.output, h.size, fun k hk _ => h.block k hk⟩, .inl rfl⟩
theorem Gr.size {r r' : Option Nat} {w w' : World} (h : Gr r r' w w') : w.heap.size ≤ w'.heap.size := h.1.size
theorem Gr.alloc {r r' : Option Nat} {a w : World} (h : Gr r r' a w) (o : Obj) : Gr r r' a (w.alloc o) := h.trans (Gr.below ((Below.refl _ w).alloc (Nat.le_refl _) o))
theorem Gr.drew {r r' : Option Nat} {a w : World} (h : Gr r r' a w) : Gr r r' a w.drew := h.trans (Gr.below (Below.refl _ w).drew)
theorem Gr.old {B0 : Nat} {r r' : Option Nat} {w w' : World} (h : Gr r r' w w') (h1 : B0 ≤ w.heap.size) (hr : ∀ g, r = some g → B0 ≤ g) : Below B0 w w' :=
  ⟨h.1.os, h.1.tape, h.1.output, h.1.size, fun k hk => h.1.block k (by omega) (fun e => by have := hr k e.symm; omega)⟩
theorem Blk.gr {r r' : Option Nat} {w w' : World} {b : Nat} {cs : Array Value} {t : TypeId} (h : Blk w b cs t) (ho : Gr r r' w w') (hr : r ≠ some b) : Blk w' b cs t := (ho.1.block b h.lt (fun e => hr e.symm)).trans h
theorem gr_grown {a w w' : World} {r row r' : Option Nat} (h : Gr r row a w) (hg : w.grownBy w' row) (hr : r' = row ∨ ∀ g, r' = some g → w.heap.size ≤ g) : Gr r r' a w' := h.trans ⟨hg, hr⟩
theorem ownsRow_below {w w' : World} {base : Nat} {e : TypeId} {size n : Nat} {v : Value} {xs : List Value} (h : w.ownsRow base e size v n xs) (hb : Below w.heap.size w w') : w'.ownsRow base e size v n xs :=
  h.kept (row := none) ⟨hb.os, hb.tape, hb.output, hb.size, fun k hk _ => hb.block k hk⟩ (by cases hv : v.ownBlock <;> simp)

theorem own_new {x : Option Nat} {gg k n cap : Nat} (hat : x = some gg ∨ gg = k) : (Value.slice (some ⟨gg, 0, none⟩) n cap).ownBlock = x ∨ ∀ g, (Value.slice (some ⟨gg, 0, none⟩) n cap).ownBlock = some g → k ≤ g := by
  rcases hat with h | h
  · exact .inl h.symm
  · right
    intro g hg
    have e : gg = g := by simpa [Value.ownBlock] using hg
    omega

/-- A name that is used, and whether as an array's. -/
abbrev Us := ByteArray × Bool
def cellsU (l : List Us) : List Value := l.flatMap fun u => [.string u.1, .bool u.2]
theorem cellsU_snoc (l : List Us) (s : ByteArray) (b : Bool) : cellsU (l ++ [(s, b)]) = cellsU l ++ [.string s, .bool b] := by simp [cellsU]
theorem cellsU_len (l : List Us) : (cellsU l).length = l.length * 2 := by induction l with
  | nil => rfl
  | cons x r ih => simp [cellsU] at ih ⊢; omega
def headU (nm : ByteArray) (a b : Bool) : List Us := if a || b then [(nm, b)] else []
mutual
/-- The names that stand in a node, in the nodes' order. -/
def usesN : Nd → List Us
  | .mk ty k _ nm xs cs ts es => match ty with
    | .E => headU nm (k == 2) (k == 4) ++ usesL xs
    | .C => usesL xs ++ usesL cs
    | .S => headU nm (k == 1) (k == 2) ++ (usesL cs ++ (usesL xs ++ (usesL ts ++ usesL es)))
    | .D => []
def usesL : List Nd → List Us
  | [] => []
  | x :: r => usesN x ++ usesL r
end
theorem usesL_app : ∀ (l m : List Nd), usesL (l ++ m) = usesL l ++ usesL m
  | [], m => by simp [usesL]
  | x :: r, m => by rw [List.cons_append, usesL, usesL, usesL_app r m, List.append_assoc]
theorem usesL_take {l : List Nd} {i : Nat} (hi : i < l.length) : usesL (l.take (i + 1)) = usesL (l.take i) ++ usesN l[i] := by
  rw [← List.take_append_getElem hi, usesL_app]
  simp [usesL]
theorem usesL_take_le {l : List Nd} (i : Nat) : (usesL (l.take i)).length ≤ (usesL l).length := by
  conv => rhs; rw [← List.take_append_drop i l, usesL_app]
  simp
theorem usesL_at_le {l : List Nd} {i : Nat} (hi : i < l.length) : (usesL (l.take i)).length + (usesN l[i]).length ≤ (usesL l).length := by
  have h := usesL_take_le (l := l) (i + 1)
  rw [usesL_take hi, List.length_append] at h
  exact h
theorem info_use : (Tryz.prog.info? 109).map (fun i => (i.zero, i.size, i.bytes)) = some (some (.agg #[.string ⟨#[]⟩, .bool false]), 2, 24) := by kernel_rfl
theorem info_str : (Tryz.prog.info? 9).map (fun i => (i.zero, i.size, i.bytes)) = some (some (.string ⟨#[]⟩), 1, 16) := by kernel_rfl
/-- A list of used names is handed on. -/
def UsedTo (w : World) (base : Nat) (v : Value) (L : List Us) : Ending → World → Prop := fun e w' => ∃ v', e = .returned v' ∧ w'.ownsRow base 109 2 v' L.length (cellsU L) ∧ Gr v.ownBlock v'.ownBlock w w'
end Go.Proofs.YtbhbmoppipohjaaGreatDoor

/-
  The document's names in an expression (gnomonref3's exprUses): proved is that it puts them behind the list that it is handed.
-/
namespace Go.Proofs.YtbhbmoppipohjaaGreatDoor
open Go Go.RowKit

theorem use_one (nm : ByteArray) (b : Bool) : ∀ u ∈ ([.string nm, .bool b] : List Value), u.oneCell' = true := by
  intro u hu
  simp at hu
  rcases hu with rfl | rfl <;> rfl
theorem news_use (w : World) (nm : ByteArray) (b : Bool) (c : Nat) (hc : w.heap.size = c) : ∀ j u, ([.string nm, .bool b] : List Value)[j]? = some u → (w.alloc (.cells #[.string nm, .bool b] 109)).cell? ((⟨c, 0, none⟩ : Addr).add j) = some u := by
  rw [← hc]
  exact World.news_of_block (cs := #[.string nm, .bool b]) (t := 109) (fr := (0, 0)) (heap_alloc_new w _)

set_option maxRecDepth 100000 in
set_option maxHeartbeats 8000000 in
theorem exprUses_any (w0 : World) (base : Nat) (hB0 : w0.heap.size ≤ base) : ∀ (N : Nat) (x : Nd) (us : List Value) (L : List Us) (v : Value) (w : World), SizeOf.sizeOf x ≤ N → x.ty = .E → NdIn w0 x us → Below w0.heap.size w0 w → base ≤ w.heap.size → w.ownsRow base 109 2 v L.length (cellsU L) → L.length + (usesN x).length ≤ 1099511627776 →
    Calls Tryz.prog 114 #[v, .agg us.toArray] w (UsedTo w base v (L ++ usesN x)) := by
  intro N
  induction N with
  | zero =>
    intro x us L v w hN
    obtain ⟨ty, k, n, nm, xs, cs, ts, es⟩ := x
    simp only [Nd.mk.sizeOf_spec] at hN
    omega
  | succ N ih =>
    intro x us L v w hN hty hin hw hbw hown hlen
    have hmem := fun y h => Nd.mem_size (x := x) (y := y) h
    obtain ⟨ty, k, n, nm, xs, cs, ts, es⟩ := x
    simp only [Nd.ty] at hty
    subst hty
    simp only [Nd.xs, Nd.cs, Nd.ts, Nd.es] at hmem
    unfold NdIn at hin
    obtain ⟨⟨rfl, rfl, rfl⟩, -, -, -, vx, vc, vt, ve, rfl, hx, -, -, -⟩ := hin
    obtain ⟨a, c, rfl, hnc1, hcm1, hrow1⟩ := hx
    change Calls _ _ #[v, .agg #[.int .i64 k, .int .i64 n, .string nm, .slice a xs.length c]] w _
    have hu : usesN (.mk .E k n nm xs [] [] []) = headU nm (k == 2) (k == 4) ++ usesL xs := by unfold usesN; rfl
    rw [hu] at hlen ⊢
    clear hu
    have HIH := Lib.hid (fun (i : Nat) (hi : i < xs.length) us L v w => ih xs[i] us L v w (by have := hmem _ (.inl (List.getElem_mem hi)); omega))
    clear ih hmem hN
    have HROW1 := Lib.hid hrow1; clear hrow1
    obtain ⟨i0, hi0, hz0, hz1, hz2⟩ := info_parts info_use
    have HI0 := Lib.hid hi0; clear hi0
    have HZ0 := Lib.hid hz0; clear hz0
    have HZ1 := Lib.hid hz1; clear hz1
    have HZ2 := Lib.hid hz2; clear hz2
    obtain ⟨b2, hb2⟩ : ∃ b, (k == 2) = b := ⟨_, rfl⟩
    obtain ⟨b4, hb4⟩ : ∃ b, (k == 4) = b := ⟨_, rfl⟩
    rw [hb2, hb4] at hlen ⊢
    obtain ⟨FIN, hFIN⟩ : ∃ l, L ++ (headU nm b2 b4 ++ usesL xs) = l := ⟨_, rfl⟩
    rw [hFIN]
    have HFIN := Lib.hid hFIN; clear hFIN
    have HB2 := Lib.hid hb2; clear hb2
    have HB4 := Lib.hid hb4; clear hb4
    have hor : ∀ g, v.ownBlock = some g → base ≤ g ∧ g < w.heap.size := hown.lt
    obtain ⟨W1, hW1⟩ : ∃ W1, w.alloc (.cells #[.int .i64 k, .int .i64 n, .string nm, .slice a xs.length c] 140) = W1 := ⟨_, rfl⟩
    obtain ⟨B, hBe⟩ : ∃ B, w.heap.size = B := ⟨_, rfl⟩
    have hX1 : Blk W1 B #[.int .i64 k, .int .i64 n, .string nm, .slice a xs.length c] 140 := by rw [← hW1, ← hBe]; exact Blk.new w _ _
    have hO1 : W1.ownsRow base 109 2 v L.length (cellsU L) := by rw [← hW1]; exact hown.alloc _
    have hG1 : Gr v.ownBlock v.ownBlock w W1 := by rw [← hW1]; exact (Gr.refl _ w).alloc _
    have hS1 : W1.heap.size = B + 1 := by rw [← hW1, ← hBe, World.size_alloc]
    rw [hBe] at hbw hor
    have hvB : v.ownBlock ≠ some B := fun e => by have := (hor B e).2; omega
    have HX1 := Lib.hid hX1; clear hX1
    have HO1 := Lib.hid hO1; clear hO1 hown
    have HG1 := Lib.hid hG1; clear hG1
    have HS1 := Lib.hid hS1; clear hS1
    have HW1 := Lib.hid hW1; clear hW1
    have HBE := Lib.hid hBe; clear hBe
    have HOR := Lib.hid hor; clear hor
    have HHW := Lib.hid hw; clear hw
    go_enter Tryz.func114, Tryz.ntmps114
    go_upto_region 1 with fail
    rw [HW1.out, HBE.out]
    clear HW1
    obtain ⟨hb, hhb⟩ : ∃ h, (b2 || b4) = h := ⟨_, rfl⟩
    have hhead : headU nm b2 b4 = if hb then [(nm, b4)] else [] := by unfold headU; rw [hhb]
    have HHB := Lib.hid hhb; clear hhb
    have HHD := Lib.hid hhead; clear hhead
    have k0 : W1.cell? ⟨B, 0, none⟩ = some (.int .i64 k) := HX1.out.cell 0
    have k2 : W1.cell? ⟨B, 2, none⟩ = some (.string nm) := HX1.out.cell 2
    go_cut [13] (fun s wx => s = .bool hb ∧ W1 = wx)
    case first =>
      have hb2 := HB2.out
      have hb4 := HB4.out
      cases b2 with
      | true =>
        have e : hb = true := by rw [← HHB.out]; rfl
        clear HHB HHD
        subst e
        go_wp2_with fail
        go_meet
        exact ⟨rfl, rfl⟩
      | false =>
        have e : hb = b4 := by rw [← HHB.out]; rfl
        clear HHB HHD
        subst e
        go_wp2_with fail
        go_meet
        exact ⟨rfl, rfl⟩
    case rest =>
      obtain ⟨rfl, hwc⟩ := hcut
      subst hwc
      go_upto_if 13 with fail
      go_cut [0] (fun s wx => ∃ v1, v1 = s ∧ wx.ownsRow base 109 2 v1 (L ++ headU nm b2 b4).length (cellsU (L ++ headU nm b2 b4)) ∧ Blk wx B #[.int .i64 k, .int .i64 n, .string nm, .slice a xs.length c] 140 ∧ Gr v.ownBlock v1.ownBlock W1 wx)
      case first =>
        cases hb with
        | false =>
          go_wp2_with fail
          go_meet
          exact ⟨v, rfl, by rw [HHD.out]; simpa using HO1.out, HX1.out, Gr.refl _ _⟩
        | true =>
          have hb4 := HB4.out
          have hN := news_use W1 nm b4 (B + 1) HS1.out
          have HNW := Lib.hid hN; clear hN
          have hSZ : base ≤ (W1.alloc (.cells #[.string nm, .bool b4] 109)).heap.size := by rw [World.size_alloc, HS1.out]; omega
          have HSZ := Lib.hid hSZ; clear hSZ
          have hl1 : L.length + 1 ≤ maxLen := by unfold maxLen; omega
          have hs1 : W1.heap.size = B + 1 := HS1.out
          go_wp2_with (first | (at_builtin; (with_reducible refine wpList_append_lies _ rfl (.tmp 14) (.tmp 21) 106 rfl base 109 i0 _ 2 24 Tryz.underlying106 HI0.out HZ0.out HZ1.out HZ2.out rfl (by omega) v L.length (cellsU L) rfl (HO1.out.alloc _) ⟨_, 0, none⟩ 1 1 [.string nm, .bool b4] rfl rfl HNW.out (use_one _ _) (by omega) hl1 (by omega) HSZ.out _ rfl ?_); (intro gg cap w4 hown4 hgrow hat hlt2)) | fail)
          go_meet
          exact ⟨_, rfl, by rw [HHD.out]; simp only [if_true, List.length_append, List.length_cons, List.length_nil]; rw [cellsU_snoc]; exact hown4, blk_grown (HX1.out.alloc _) hgrow hvB, gr_grown ((Gr.refl _ W1).alloc _) hgrow (own_new hat)⟩
      case rest =>
        obtain ⟨v1, rfl, hO2, hX2, hG2⟩ := hcut
        clear k0 k2 HX1 HO1 HB2 HB4 HHB HHD
        obtain ⟨L1, hL1⟩ : ∃ l, L ++ headU nm b2 b4 = l := ⟨_, rfl⟩
        have hlen1 : L1.length + (usesL xs).length ≤ 1099511627776 := by rw [← hL1]; simp only [List.length_append] at hlen ⊢; omega
        rw [hL1] at hO2
        have hf := HFIN.out; clear HFIN
        rw [← List.append_assoc, hL1] at hf
        have HFIN := Lib.hid hf; clear hf
        clear hlen hL1
        have HX2 := Lib.hid hX2; clear hX2
        have HO2 := Lib.hid hO2; clear hO2
        have HG2 := Lib.hid hG2; clear hG2
        go_wp2_with fail
        go_loopw [0, 5] (fun y x wr => ∃ (v2 : Value) (i : Nat), v2 = y ∧ x = .int .i64 i ∧ i ≤ xs.length ∧ wr.ownsRow base 109 2 v2 (L1 ++ usesL (xs.take i)).length (cellsU (L1 ++ usesL (xs.take i))) ∧ Blk wr B #[.int .i64 k, .int .i64 n, .string nm, .slice a xs.length c] 140 ∧ Gr v.ownBlock v2.ownBlock W1 wr) (fun _ x _ => xs.length - (intOf x).toNat)
        case atStart => exact ⟨v1, 0, rfl, rfl, by omega, by rw [List.take_zero, usesL, List.append_nil]; exact HO2.out, HX2.out, HG2.out⟩
        case round =>
          obtain ⟨v2, i, rfl, rfl, hi, hOr, hXr, hGr⟩ := hrel
          clear HX2 HO2 HG2
          have e3 : wr.cell? ⟨B, 3, none⟩ = some (.slice a xs.length c) := hXr.cell 3
          have HX := Lib.hid hXr; clear hXr
          have HO := Lib.hid hOr; clear hOr
          have HG := Lib.hid hGr; clear hGr
          by_cases hlt2 : i < xs.length
          · have hbi : (i : Int) + 1 ≤ 9223372036854775807 := by unfold maxLen at hcm1; omega
            have hxl : ¬ xs.length = 0 := by omega
            obtain ⟨b, o, rfl, hrow⟩ := HROW1.out.resolve_left hxl
            have hold1 : Below w0.heap.size w wr := (HG1.out.trans HG.out).old HHW.out.size (fun g hg => Nat.le_trans hB0 (HOR.out g hg).1)
            have hold : Below w0.heap.size w0 wr := HHW.out.trans hold1
            obtain ⟨hty, u0, u1, u2, u3, m0, m1, m2, m3, hnd⟩ := SlIn.item4 rfl hrow i hlt2
            have kk := keeps_below hold
            have k0 := kk _ _ _ m0
            have k1 := kk _ _ _ m1
            have k2 := kk _ _ _ m2
            have k3 := kk _ _ _ m3
            have hsz : base ≤ wr.heap.size := by have := HG.out.size; have := HS1.out; omega
            have hle := usesL_at_le hlt2
            have HC := Lib.hid (HIH.out i hlt2 [u0, u1, u2, u3] _ _ wr hty hnd hold hsz HO.out (by rw [List.length_append]; omega))
            have HTK := Lib.hid (usesL_take hlt2)
            clear m0 m1 m2 m3 hnd hty hold hold1 kk hrow
            go_wp2_with fail
            refine HC.out.mono ?_
            rintro e w2 ⟨v3, rfl, hO3, hG3⟩
            rw [List.append_assoc, ← HTK.out] at hO3
            have hvr : v2.ownBlock ≠ some B := fun e => by
              rcases HG.out.2 with h | h
              · exact hvB (h.symm.trans e)
              · have := h B e; have := HS1.out; omega
            have hX3 := HX.out.gr hG3 hvr
            have hG4 := HG.out.trans hG3
            have HO3 := Lib.hid hO3; clear hO3
            have HX3 := Lib.hid hX3; clear hX3
            clear hG3
            have HG4 := Lib.hid hG4; clear hG4
            go_wp2_with fail
            go_roundw
            case rel => exact ⟨v3, i + 1, rfl, by go_num, by omega, HO3.out, HX3.out, HG4.out⟩
            case measure => simp [intOf]; omega
          · obtain rfl : i = xs.length := by omega
            have h0 := HO.out
            rw [List.take_length, HFIN.out] at h0
            have HO3 := Lib.hid h0; clear h0
            go_wp2_with fail
            go_ret
            exact ⟨v2, rfl, HO3.out, HG1.out.trans HG.out⟩
end Go.Proofs.YtbhbmoppipohjaaGreatDoor

/-
  The document's names in a condition (gnomonref3's condUses): proved is that it puts them behind the list that it is handed.
-/
namespace Go.Proofs.YtbhbmoppipohjaaGreatDoor
open Go Go.RowKit

set_option maxRecDepth 100000 in
set_option maxHeartbeats 8000000 in
theorem condUses_any (w0 : World) (base : Nat) (hB0 : w0.heap.size ≤ base) : ∀ (N : Nat) (x : Nd) (us : List Value) (L : List Us) (v : Value) (w : World), SizeOf.sizeOf x ≤ N → x.ty = .C → NdIn w0 x us → Below w0.heap.size w0 w → base ≤ w.heap.size → w.ownsRow base 109 2 v L.length (cellsU L) → L.length + (usesN x).length ≤ 1099511627776 →
    Calls Tryz.prog 113 #[v, .agg us.toArray] w (UsedTo w base v (L ++ usesN x)) := by
  intro N
  induction N with
  | zero =>
    intro x us L v w hN
    obtain ⟨ty, k, n, nm, xs, cs, ts, es⟩ := x
    simp only [Nd.mk.sizeOf_spec] at hN
    omega
  | succ N ih =>
    intro x us L v w hN hty hin hw hbw hown hlen
    have hmem := fun y h => Nd.mem_size (x := x) (y := y) h
    obtain ⟨ty, k, n, nm, xs, cs, ts, es⟩ := x
    simp only [Nd.ty] at hty
    subst hty
    simp only [Nd.xs, Nd.cs, Nd.ts, Nd.es] at hmem
    unfold NdIn at hin
    obtain ⟨⟨rfl, rfl, rfl⟩, -, -, -, vx, vc, vt, ve, rfl, hx, hc, -, -⟩ := hin
    obtain ⟨a1, c1, rfl, hnc1, hcm1, hrow1⟩ := hx
    obtain ⟨a2, c2, rfl, hnc2, hcm2, hrow2⟩ := hc
    change Calls _ _ #[v, .agg #[.int .i64 k, .int .i64 n, .slice a1 xs.length c1, .slice a2 cs.length c2]] w _
    have hu : usesN (.mk .C k n ⟨#[]⟩ xs cs [] []) = usesL xs ++ usesL cs := by unfold usesN; rfl
    rw [hu] at hlen ⊢
    clear hu
    rw [List.length_append] at hlen
    have HIH1 := Lib.hid (fun (i : Nat) (hi : i < xs.length) us L v w => exprUses_any w0 base hB0 _ xs[i] us L v w (Nat.le_refl _))
    have HIH2 := Lib.hid (fun (i : Nat) (hi : i < cs.length) us L v w => ih cs[i] us L v w (by have := hmem _ (.inr (.inl (List.getElem_mem hi))); omega))
    clear ih hmem hN
    have HROW1 := Lib.hid hrow1; clear hrow1
    have HROW2 := Lib.hid hrow2; clear hrow2
    obtain ⟨FIN, hFIN⟩ : ∃ l, L ++ (usesL xs ++ usesL cs) = l := ⟨_, rfl⟩
    rw [hFIN]
    have HFIN := Lib.hid hFIN; clear hFIN
    have hor : ∀ g, v.ownBlock = some g → base ≤ g ∧ g < w.heap.size := hown.lt
    obtain ⟨W1, hW1⟩ : ∃ W1, w.alloc (.cells #[.int .i64 k, .int .i64 n, .slice a1 xs.length c1, .slice a2 cs.length c2] 148) = W1 := ⟨_, rfl⟩
    obtain ⟨B, hBe⟩ : ∃ B, w.heap.size = B := ⟨_, rfl⟩
    have hX2 : Blk W1 B #[.int .i64 k, .int .i64 n, .slice a1 xs.length c1, .slice a2 cs.length c2] 148 := by rw [← hW1, ← hBe]; exact Blk.new w _ _
    have hO2 : W1.ownsRow base 109 2 v L.length (cellsU L) := by rw [← hW1]; exact hown.alloc _
    have hG1 : Gr v.ownBlock v.ownBlock w W1 := by rw [← hW1]; exact (Gr.refl _ w).alloc _
    have hS1 : W1.heap.size = B + 1 := by rw [← hW1, ← hBe, World.size_alloc]
    rw [hBe] at hbw hor
    have hvB : v.ownBlock ≠ some B := fun e => by have := (hor B e).2; omega
    have HX2 := Lib.hid hX2; clear hX2
    have HO2 := Lib.hid hO2; clear hO2 hown
    have HG1 := Lib.hid hG1; clear hG1
    have HG2 := Lib.hid (Gr.refl v.ownBlock W1)
    have HS1 := Lib.hid hS1; clear hS1
    have HW1 := Lib.hid hW1; clear hW1
    have HBE := Lib.hid hBe; clear hBe
    have HOR := Lib.hid (fun g hg => (hor g hg).1); clear hor
    have HWB := Lib.hid (hw.trans (HG1.out.old hw.size (fun g hg => Nat.le_trans hB0 (HOR.out g hg)))); clear hw
    go_enter Tryz.func113, Tryz.ntmps113
    go_upto_block 0 with fail
    rw [HW1.out, HBE.out]
    clear HW1
    go_cut [0, 5] (fun s _ wx => ∃ v1, v1 = s ∧ wx.ownsRow base 109 2 v1 (L ++ usesL xs).length (cellsU (L ++ usesL xs)) ∧ Blk wx B #[.int .i64 k, .int .i64 n, .slice a1 xs.length c1, .slice a2 cs.length c2] 148 ∧ Gr v.ownBlock v1.ownBlock W1 wx)
    case first =>
      go_wp2_with fail
      go_loopw [0, 5] (fun y x wr => ∃ (v2 : Value) (i : Nat), v2 = y ∧ x = .int .i64 i ∧ i ≤ xs.length ∧ wr.ownsRow base 109 2 v2 (L ++ usesL (xs.take i)).length (cellsU (L ++ usesL (xs.take i))) ∧ Blk wr B #[.int .i64 k, .int .i64 n, .slice a1 xs.length c1, .slice a2 cs.length c2] 148 ∧ Gr v.ownBlock v2.ownBlock W1 wr) (fun _ x _ => xs.length - (intOf x).toNat)
      case atStart => exact ⟨v, 0, rfl, rfl, by omega, by rw [List.take_zero, usesL, List.append_nil]; exact HO2.out, HX2.out, HG2.out⟩
      case round =>
        obtain ⟨v2, i, rfl, rfl, hi, hOr, hXr, hGr⟩ := hrel
        clear HX2 HO2 HG2
        have e3 : wr.cell? ⟨B, 2, none⟩ = some (.slice a1 xs.length c1) := hXr.cell 2
        have HX := Lib.hid hXr; clear hXr
        have HO := Lib.hid hOr; clear hOr
        have HG := Lib.hid hGr; clear hGr
        by_cases hlt2 : i < xs.length
        · have hbi : (i : Int) + 1 ≤ 9223372036854775807 := by unfold maxLen at hcm1; omega
          have hxl : ¬ xs.length = 0 := by omega
          obtain ⟨b, o, rfl, hrow⟩ := HROW1.out.resolve_left hxl
          have hold : Below w0.heap.size w0 wr := HWB.out.trans (HG.out.old HWB.out.size (fun g hg => Nat.le_trans hB0 (HOR.out g hg)))
          obtain ⟨hty, u0, u1, u2, u3, m0, m1, m2, m3, hnd⟩ := SlIn.item4 rfl hrow i hlt2
          have kk := keeps_below hold
          have k0 := kk _ _ _ m0
          have k1 := kk _ _ _ m1
          have k2 := kk _ _ _ m2
          have k3 := kk _ _ _ m3
          have hsz : base ≤ wr.heap.size := by have := HG.out.size; have := HS1.out; omega
          have hle := usesL_at_le hlt2
          have HC := Lib.hid (HIH1.out i hlt2 [u0, u1, u2, u3] _ _ wr hty hnd hold hsz HO.out (by rw [List.length_append]; omega))
          have HTK := Lib.hid (usesL_take hlt2)
          clear m0 m1 m2 m3 hnd hty hold kk hrow
          go_wp2_with fail
          refine HC.out.mono ?_
          rintro e w2 ⟨v3, rfl, hO3, hG3⟩
          rw [List.append_assoc, ← HTK.out] at hO3
          have hvr : v2.ownBlock ≠ some B := fun e => by
            rcases HG.out.2 with h | h
            · exact hvB (h.symm.trans e)
            · have := h B e; have := HS1.out; omega
          have hX3 := HX.out.gr hG3 hvr
          have hG4 := HG.out.trans hG3
          have HO3 := Lib.hid hO3; clear hO3
          have HX3 := Lib.hid hX3; clear hX3
          clear hG3
          have HG4 := Lib.hid hG4; clear hG4
          go_wp2_with fail
          go_roundw
          case rel => exact ⟨v3, i + 1, rfl, by go_num, by omega, HO3.out, HX3.out, HG4.out⟩
          case measure => simp [intOf]; omega
        · obtain rfl : i = xs.length := by omega
          have h0 := HO.out
          rw [List.take_length] at h0
          have HO3 := Lib.hid h0; clear h0
          go_wp2_with fail
          go_meet
          exact ⟨v2, rfl, HO3.out, HX.out, HG.out⟩
    case rest =>
      obtain ⟨v1, rfl, hO2, hX2, hG2⟩ := hcut
      clear HX2 HO2 HG2
      obtain ⟨L1, hLL⟩ : ∃ l, L ++ usesL xs = l := ⟨_, rfl⟩
      rw [hLL] at hO2
      have hlL := congrArg List.length hLL
      rw [List.length_append] at hlL
      have hf := HFIN.out; clear HFIN
      rw [← List.append_assoc, hLL] at hf
      have HFIN := Lib.hid hf; clear hf hLL
      have hlenL1 : L1.length + (usesL cs).length ≤ 1099511627776 := by omega
      clear hlL
      have HX2 := Lib.hid hX2; clear hX2
      have HO2 := Lib.hid hO2; clear hO2
      have HG2 := Lib.hid hG2; clear hG2
      go_upto_block 2 with fail
      go_wp2_with fail
      go_loopw [0, 6] (fun y x wr => ∃ (v2 : Value) (i : Nat), v2 = y ∧ x = .int .i64 i ∧ i ≤ cs.length ∧ wr.ownsRow base 109 2 v2 (L1 ++ usesL (cs.take i)).length (cellsU (L1 ++ usesL (cs.take i))) ∧ Blk wr B #[.int .i64 k, .int .i64 n, .slice a1 xs.length c1, .slice a2 cs.length c2] 148 ∧ Gr v.ownBlock v2.ownBlock W1 wr) (fun _ x _ => cs.length - (intOf x).toNat)
      case atStart => exact ⟨v1, 0, rfl, rfl, by omega, by rw [List.take_zero, usesL, List.append_nil]; exact HO2.out, HX2.out, HG2.out⟩
      case round =>
        obtain ⟨v2, i, rfl, rfl, hi, hOr, hXr, hGr⟩ := hrel
        clear HX2 HO2 HG2
        have e3 : wr.cell? ⟨B, 3, none⟩ = some (.slice a2 cs.length c2) := hXr.cell 3
        have HX := Lib.hid hXr; clear hXr
        have HO := Lib.hid hOr; clear hOr
        have HG := Lib.hid hGr; clear hGr
        by_cases hlt2 : i < cs.length
        · have hbi : (i : Int) + 1 ≤ 9223372036854775807 := by unfold maxLen at hcm2; omega
          have hxl : ¬ cs.length = 0 := by omega
          obtain ⟨b, o, rfl, hrow⟩ := HROW2.out.resolve_left hxl
          have hold : Below w0.heap.size w0 wr := HWB.out.trans (HG.out.old HWB.out.size (fun g hg => Nat.le_trans hB0 (HOR.out g hg)))
          obtain ⟨hty, u0, u1, u2, u3, m0, m1, m2, m3, hnd⟩ := SlIn.item4 rfl hrow i hlt2
          have kk := keeps_below hold
          have k0 := kk _ _ _ m0
          have k1 := kk _ _ _ m1
          have k2 := kk _ _ _ m2
          have k3 := kk _ _ _ m3
          have hsz : base ≤ wr.heap.size := by have := HG.out.size; have := HS1.out; omega
          have hle := usesL_at_le hlt2
          have HC := Lib.hid (HIH2.out i hlt2 [u0, u1, u2, u3] _ _ wr hty hnd hold hsz HO.out (by rw [List.length_append]; omega))
          have HTK := Lib.hid (usesL_take hlt2)
          clear m0 m1 m2 m3 hnd hty hold kk hrow
          go_wp2_with fail
          refine HC.out.mono ?_
          rintro e w2 ⟨v3, rfl, hO3, hG3⟩
          rw [List.append_assoc, ← HTK.out] at hO3
          have hvr : v2.ownBlock ≠ some B := fun e => by
            rcases HG.out.2 with h | h
            · exact hvB (h.symm.trans e)
            · have := h B e; have := HS1.out; omega
          have hX3 := HX.out.gr hG3 hvr
          have hG4 := HG.out.trans hG3
          have HO3 := Lib.hid hO3; clear hO3
          have HX3 := Lib.hid hX3; clear hX3
          clear hG3
          have HG4 := Lib.hid hG4; clear hG4
          go_wp2_with fail
          go_roundw
          case rel => exact ⟨v3, i + 1, rfl, by go_num, by omega, HO3.out, HX3.out, HG4.out⟩
          case measure => simp [intOf]; omega
        · obtain rfl : i = cs.length := by omega
          have h0 := HO.out
          rw [List.take_length, HFIN.out] at h0
          have HO3 := Lib.hid h0; clear h0
          go_wp2_with fail
          go_ret
          exact ⟨v2, rfl, HO3.out, HG1.out.trans HG.out⟩
end Go.Proofs.YtbhbmoppipohjaaGreatDoor

/-
  The document's sameness of conditions (gnomonref3's SameCond): proved is that it answers whether two trees in memory are the same, and that it turns nothing that lay.
-/
namespace Go.Proofs.YtbhbmoppipohjaaGreatDoor
open Go Go.RowKit

end Go.Proofs.YtbhbmoppipohjaaGreatDoor

/-
  The document's sameness of statements in a row (gnomonref3's sameStmts): proved is that it answers whether two rows of trees in memory are the same, and that it turns nothing that lay.
-/
namespace Go.Proofs.YtbhbmoppipohjaaGreatDoor
open Go Go.RowKit

theorem drewBlk {w : World} {b : Nat} {cs : Array Value} {t : TypeId} (h : Blk w b cs t) : Blk w.drew b cs t := h
theorem blk_second (w : World) (o : Obj) (cs : Array Value) (t : TypeId) : Blk ((w.alloc o).alloc (.cells cs t)) (w.heap.size + 1) cs t := by
  have h := Blk.new (w.alloc o) cs t
  rwa [World.size_alloc] at h

end Go.Proofs.YtbhbmoppipohjaaGreatDoor

/-
  The document's names in statements (gnomonref3's stmtUses, Uses): proved is that they are put behind the list that is handed on.
-/
namespace Go.Proofs.YtbhbmoppipohjaaGreatDoor
open Go Go.RowKit

set_option maxRecDepth 100000 in
set_option maxHeartbeats 16000000 in
theorem stmtUses_any (w0 : World) (base : Nat) (hB0 : w0.heap.size ≤ base) : ∀ (N : Nat) (l : List Nd) (vl : Value) (L : List Us) (v : Value) (w : World), SizeOf.sizeOf l ≤ N → SlIn w0 .S l vl → Below w0.heap.size w0 w → base ≤ w.heap.size → w.ownsRow base 109 2 v L.length (cellsU L) → L.length + (usesL l).length ≤ 1099511627776 →
    Calls Tryz.prog 75 #[v, vl] w (UsedTo w base v (L ++ usesL l)) := by
  intro N
  induction N with
  | zero =>
    intro l vl L v w hN
    cases l <;> simp at hN
  | succ N ih =>
    intro l vl L v w hN hl hw hbw hown hlen
    obtain ⟨A, C, rfl, hlC, hcmC, hROW⟩ := hl
    have HROW := Lib.hid hROW; clear hROW
    have HIH := Lib.hid ih; clear ih
    obtain ⟨i0, hi0, hz0, hz1, hz2⟩ := info_parts info_use
    have HI0 := Lib.hid hi0; clear hi0
    have HZ0 := Lib.hid hz0; clear hz0
    have HZ1 := Lib.hid hz1; clear hz1
    have HZ2 := Lib.hid hz2; clear hz2
    obtain ⟨POST, hPOST⟩ : ∃ l', L ++ usesL l = l' := ⟨_, rfl⟩
    rw [hPOST]
    have HPOST := Lib.hid hPOST; clear hPOST
    have HOR0 := Lib.hid (fun g hg => (hown.lt g hg).1)
    have HO0 := Lib.hid hown; clear hown
    have HHW := Lib.hid hw; clear hw
    go_enter Tryz.func75, Tryz.ntmps75
    go_wp2_with fail
    go_loopw [0, 5] (fun y x wr => ∃ (vo : Value) (ii : Nat), vo = y ∧ x = .int .i64 ii ∧ ii ≤ l.length ∧ wr.ownsRow base 109 2 vo (L ++ usesL (l.take ii)).length (cellsU (L ++ usesL (l.take ii))) ∧ Gr v.ownBlock vo.ownBlock w wr) (fun _ x _ => l.length - (intOf x).toNat)
    case atStart => exact ⟨v, 0, rfl, rfl, by omega, by rw [List.take_zero, usesL, List.append_nil]; exact HO0.out, Gr.refl _ _⟩
    case round =>
      obtain ⟨vo, ii, rfl, rfl, hii, hOo, hGo⟩ := hrel
      have HOO := Lib.hid hOo; clear hOo
      have HGO := Lib.hid hGo; clear hGo
      by_cases hlt : ii < l.length
      · have hbii : (ii : Int) + 1 ≤ 9223372036854775807 := by unfold maxLen at hcmC; omega
        have hxl0 : ¬ l.length = 0 := by omega
        obtain ⟨b0, o0, rfl, hrow⟩ := HROW.out.resolve_left hxl0
        have hold0 : Below w0.heap.size w0 wr := HHW.out.trans (HGO.out.old HHW.out.size (fun g hg => Nat.le_trans hB0 (HOR0.out g hg)))
        obtain ⟨hty, u0, u1, u2, u3, u4, u5, m0, m1, m2, m3, m4, m5, hnd⟩ := SlIn.item6 rfl hrow ii hlt
        have hsz0 := List.sizeOf_lt_of_mem (List.getElem_mem hlt)
        have kk := keeps_below hold0
        have g0 := kk _ _ _ m0
        have g1 := kk _ _ _ m1
        have g2 := kk _ _ _ m2
        have g3 := kk _ _ _ m3
        have g4 := kk _ _ _ m4
        have g5 := kk _ _ _ m5
        have hle0 := usesL_at_le hlt
        have htk0 := usesL_take hlt
        clear m0 m1 m2 m3 m4 m5 kk hrow
        obtain ⟨X, hX⟩ : ∃ X, l[ii] = X := ⟨_, rfl⟩
        rw [hX] at hnd hty htk0 hle0 hsz0
        clear hX
        obtain ⟨ty, k, n, nm, xs, cs, ts, es⟩ := X
        simp only [Nd.ty] at hty
        subst hty
        unfold NdIn at hnd
        obtain ⟨hz, -, -, -, vx, vc, vt, ve, hvs, hxs, hcs, hts, hes⟩ := hnd
        simp only [fits] at hz
        subst hz
        simp only [lay, List.cons.injEq, and_true] at hvs
        obtain ⟨rfl, rfl, rfl, rfl, rfl, rfl⟩ := hvs
        have hu : usesN (.mk .S k 0 nm xs cs ts es) = headU nm (k == 1) (k == 2) ++ (usesL cs ++ (usesL xs ++ (usesL ts ++ usesL es))) := by unfold usesN; rfl
        rw [hu] at htk0 hle0
        clear hu
        simp only [Nd.mk.sizeOf_spec] at hsz0
        have HT := Lib.hid (fun L v w => HIH.out ts _ L v w (by omega) hts)
        have HE := Lib.hid (fun L v w => HIH.out es _ L v w (by omega) hes)
        have HIH1 := Lib.hid (fun (i : Nat) (hi : i < cs.length) us L v w => condUses_any w0 base hB0 _ cs[i] us L v w (Nat.le_refl _))
        have HIH2 := Lib.hid (fun (i : Nat) (hi : i < xs.length) us L v w => exprUses_any w0 base hB0 _ xs[i] us L v w (Nat.le_refl _))
        obtain ⟨a1, c1, rfl, hlc1, hcm1, hrow1⟩ := hcs
        obtain ⟨a2, c2, rfl, hlc2, hcm2, hrow2⟩ := hxs
        obtain ⟨a3, c3, rfl, -⟩ := hts
        obtain ⟨a4, c4, rfl, -⟩ := hes
        have HROW1 := Lib.hid hrow1; clear hrow1
        have HROW2 := Lib.hid hrow2; clear hrow2
        obtain ⟨LB, hLB⟩ : ∃ x, L ++ usesL (l.take ii) = x := ⟨_, rfl⟩
        have hOo := HOO.out; clear HOO
        rw [hLB] at hOo
        obtain ⟨b2, hb2⟩ : ∃ b, (k == 1) = b := ⟨_, rfl⟩
        obtain ⟨b4, hb4⟩ : ∃ b, (k == 2) = b := ⟨_, rfl⟩
        rw [hb2, hb4] at htk0 hle0
        obtain ⟨FIN, hFN⟩ : ∃ x, L ++ usesL (l.take (ii + 1)) = x := ⟨_, rfl⟩
        have hfin : LB ++ (headU nm b2 b4 ++ (usesL cs ++ (usesL xs ++ (usesL ts ++ usesL es)))) = FIN := by rw [← hLB, ← hFN, htk0, List.append_assoc]
        have hlenLB : LB.length + ((headU nm b2 b4).length + ((usesL cs).length + ((usesL xs).length + ((usesL ts).length + (usesL es).length)))) ≤ 1099511627776 := by
          have := congrArg List.length hLB
          simp only [List.length_append] at this hle0
          omega
        have HFN := Lib.hid hFN; clear hFN
        have HFIN := Lib.hid hfin; clear hfin htk0 hle0 hLB hsz0
        have HB2 := Lib.hid hb2; clear hb2
        have HB4 := Lib.hid hb4; clear hb4
        have hor : ∀ g, vo.ownBlock = some g → base ≤ g ∧ g < wr.heap.size := hOo.lt
        obtain ⟨W1, hW1⟩ : ∃ W1, wr.alloc (.cells #[.int .i64 k, .string nm, .slice a2 xs.length c2, .slice a1 cs.length c1, .slice a3 ts.length c3, .slice a4 es.length c4] 60) = W1 := ⟨_, rfl⟩
        obtain ⟨B, hBe⟩ : ∃ B, wr.heap.size = B := ⟨_, rfl⟩
        have hX1 : Blk W1 B #[.int .i64 k, .string nm, .slice a2 xs.length c2, .slice a1 cs.length c1, .slice a3 ts.length c3, .slice a4 es.length c4] 60 := by rw [← hW1, ← hBe]; exact Blk.new wr _ _
        have hO1 : W1.ownsRow base 109 2 vo LB.length (cellsU LB) := by rw [← hW1]; exact hOo.alloc _
        have hG1 : Gr vo.ownBlock vo.ownBlock wr W1 := by rw [← hW1]; exact (Gr.refl _ wr).alloc _
        have hS1 : W1.heap.size = B + 1 := by rw [← hW1, ← hBe, World.size_alloc]
        have hbw2 : base ≤ B := by have := HGO.out.size; omega
        rw [hBe] at hor
        have hvB : vo.ownBlock ≠ some B := fun e => by have := (hor B e).2; omega
        have HX1 := Lib.hid hX1; clear hX1
        have HO1 := Lib.hid hO1; clear hO1 hOo
        have HG1 := Lib.hid hG1; clear hG1
        have HS1 := Lib.hid hS1; clear hS1
        have HW1 := Lib.hid hW1; clear hW1
        have HBE := Lib.hid hBe; clear hBe
        have HOR := Lib.hid (fun g hg => (hor g hg).1); clear hor
        have HWB := Lib.hid (hold0.trans (HG1.out.old hold0.size (fun g hg => Nat.le_trans hB0 (HOR.out g hg)))); clear hold0
        go_upto_region 5 with fail
        rw [HW1.out, HBE.out]
        clear HW1 g0 g1 g2 g3 g4 g5
        obtain ⟨hb, hhb⟩ : ∃ h, (b2 || b4) = h := ⟨_, rfl⟩
        have hhead : headU nm b2 b4 = if hb then [(nm, b4)] else [] := by unfold headU; rw [hhb]
        have HHB := Lib.hid hhb; clear hhb
        have HHD := Lib.hid hhead; clear hhead
        have k0 : W1.cell? ⟨B, 0, none⟩ = some (.int .i64 k) := HX1.out.cell 0
        have k1 : W1.cell? ⟨B, 1, none⟩ = some (.string nm) := HX1.out.cell 1
        go_cut [26] (fun s wx => s = .bool hb ∧ W1 = wx)
        case first =>
          have hb2 := HB2.out
          have hb4 := HB4.out
          cases b2 with
          | true =>
            have e : hb = true := by rw [← HHB.out]; rfl
            clear HHB HHD
            subst e
            go_wp2_with fail
            go_meet
            exact ⟨rfl, rfl⟩
          | false =>
            have e : hb = b4 := by rw [← HHB.out]; rfl
            clear HHB HHD
            subst e
            go_wp2_with fail
            go_meet
            exact ⟨rfl, rfl⟩
        case rest =>
          obtain ⟨rfl, hwc⟩ := hcut
          subst hwc
          go_upto_if 26 with fail
          go_cut [0] (fun s wx => ∃ v1, v1 = s ∧ wx.ownsRow base 109 2 v1 (LB ++ headU nm b2 b4).length (cellsU (LB ++ headU nm b2 b4)) ∧ Blk wx B #[.int .i64 k, .string nm, .slice a2 xs.length c2, .slice a1 cs.length c1, .slice a3 ts.length c3, .slice a4 es.length c4] 60 ∧ Gr vo.ownBlock v1.ownBlock W1 wx)
          case first =>
            cases hb with
            | false =>
              go_wp2_with fail
              go_meet
              exact ⟨vo, rfl, by rw [HHD.out]; simpa using HO1.out, HX1.out, Gr.refl _ _⟩
            | true =>
              have hb4 := HB4.out
              have hN := news_use W1 nm b4 (B + 1) HS1.out
              have HNW := Lib.hid hN; clear hN
              have hSZ : base ≤ (W1.alloc (.cells #[.string nm, .bool b4] 109)).heap.size := by rw [World.size_alloc, HS1.out]; omega
              have HSZ := Lib.hid hSZ; clear hSZ
              have hl1 : LB.length + 1 ≤ maxLen := by unfold maxLen; omega
              have hs1 : W1.heap.size = B + 1 := HS1.out
              go_wp2_with (first | (at_builtin; (with_reducible refine wpList_append_lies _ rfl (.tmp 27) (.tmp 34) 106 rfl base 109 i0 _ 2 24 Tryz.underlying106 HI0.out HZ0.out HZ1.out HZ2.out rfl (by omega) vo LB.length (cellsU LB) rfl (HO1.out.alloc _) ⟨_, 0, none⟩ 1 1 [.string nm, .bool b4] rfl rfl HNW.out (use_one _ _) (by omega) hl1 (by omega) HSZ.out _ rfl ?_); (intro gg cap w4 hown4 hgrow hat hlt2)) | fail)
              go_meet
              exact ⟨_, rfl, by rw [HHD.out]; simp only [if_true, List.length_append, List.length_cons, List.length_nil]; rw [cellsU_snoc]; exact hown4, blk_grown (HX1.out.alloc _) hgrow hvB, gr_grown ((Gr.refl _ W1).alloc _) hgrow (own_new hat)⟩
          case rest =>
            obtain ⟨v1, rfl, hO2, hX2, hG2⟩ := hcut
            clear k0 k1 HX1 HO1 HB2 HB4 HHB HHD
            obtain ⟨L1, hL1⟩ : ∃ l, LB ++ headU nm b2 b4 = l := ⟨_, rfl⟩
            have hlen1 : L1.length + ((usesL cs).length + ((usesL xs).length + ((usesL ts).length + (usesL es).length))) ≤ 1099511627776 := by rw [← hL1]; simp only [List.length_append] at hlenLB ⊢; omega
            rw [hL1] at hO2
            have hf := HFIN.out; clear HFIN
            rw [← List.append_assoc, hL1] at hf
            have HFIN := Lib.hid hf; clear hf
            clear hlenLB hL1
            have HX2 := Lib.hid hX2; clear hX2
            have HO2 := Lib.hid hO2; clear hO2
            have HG2 := Lib.hid hG2; clear hG2
            go_upto_block 2 with fail
            go_cut [0, 7] (fun s _ wx => ∃ v1, v1 = s ∧ wx.ownsRow base 109 2 v1 (L1 ++ usesL cs).length (cellsU (L1 ++ usesL cs)) ∧ Blk wx B #[.int .i64 k, .string nm, .slice a2 xs.length c2, .slice a1 cs.length c1, .slice a3 ts.length c3, .slice a4 es.length c4] 60 ∧ Gr vo.ownBlock v1.ownBlock W1 wx)
            case first =>
              go_wp2_with fail
              go_loopw [0, 7] (fun y x wr => ∃ (v2 : Value) (i : Nat), v2 = y ∧ x = .int .i64 i ∧ i ≤ cs.length ∧ wr.ownsRow base 109 2 v2 (L1 ++ usesL (cs.take i)).length (cellsU (L1 ++ usesL (cs.take i))) ∧ Blk wr B #[.int .i64 k, .string nm, .slice a2 xs.length c2, .slice a1 cs.length c1, .slice a3 ts.length c3, .slice a4 es.length c4] 60 ∧ Gr vo.ownBlock v2.ownBlock W1 wr) (fun _ x _ => cs.length - (intOf x).toNat)
              case atStart => exact ⟨v1, 0, rfl, rfl, by omega, by rw [List.take_zero, usesL, List.append_nil]; exact HO2.out, HX2.out, HG2.out⟩
              case round =>
                obtain ⟨v2, i, rfl, rfl, hi, hOr, hXr, hGr⟩ := hrel
                clear HX2 HO2 HG2
                have e3 : wr.cell? ⟨B, 3, none⟩ = some (.slice a1 cs.length c1) := hXr.cell 3
                have HX := Lib.hid hXr; clear hXr
                have HO := Lib.hid hOr; clear hOr
                have HG := Lib.hid hGr; clear hGr
                by_cases hlt2 : i < cs.length
                · have hbi : (i : Int) + 1 ≤ 9223372036854775807 := by unfold maxLen at hcm1; omega
                  have hxl : ¬ cs.length = 0 := by omega
                  obtain ⟨b, o, rfl, hrow⟩ := HROW1.out.resolve_left hxl
                  have hold : Below w0.heap.size w0 wr := HWB.out.trans (HG.out.old HWB.out.size (fun g hg => Nat.le_trans hB0 (HOR.out g hg)))
                  obtain ⟨hty, u0, u1, u2, u3, m0, m1, m2, m3, hnd⟩ := SlIn.item4 rfl hrow i hlt2
                  have kk := keeps_below hold
                  have k0 := kk _ _ _ m0
                  have k1 := kk _ _ _ m1
                  have k2 := kk _ _ _ m2
                  have k3 := kk _ _ _ m3
                  have hsz : base ≤ wr.heap.size := by have := HG.out.size; have := HS1.out; omega
                  have hle := usesL_at_le hlt2
                  have HC := Lib.hid (HIH1.out i hlt2 [u0, u1, u2, u3] _ _ wr hty hnd hold hsz HO.out (by rw [List.length_append]; omega))
                  have HTK := Lib.hid (usesL_take hlt2)
                  clear m0 m1 m2 m3 hnd hty hold kk hrow
                  go_wp2_with fail
                  refine HC.out.mono ?_
                  rintro e w2 ⟨v3, rfl, hO3, hG3⟩
                  rw [List.append_assoc, ← HTK.out] at hO3
                  have hvr : v2.ownBlock ≠ some B := fun e => by
                    rcases HG.out.2 with h | h
                    · exact hvB (h.symm.trans e)
                    · have := h B e; have := HS1.out; omega
                  have hX3 := HX.out.gr hG3 hvr
                  have hG4 := HG.out.trans hG3
                  have HO3 := Lib.hid hO3; clear hO3
                  have HX3 := Lib.hid hX3; clear hX3
                  clear hG3
                  have HG4 := Lib.hid hG4; clear hG4
                  go_wp2_with fail
                  go_roundw
                  case rel => exact ⟨v3, i + 1, rfl, by go_num, by omega, HO3.out, HX3.out, HG4.out⟩
                  case measure => simp [intOf]; omega
                · obtain rfl : i = cs.length := by omega
                  have h0 := HO.out
                  rw [List.take_length] at h0
                  have HO3 := Lib.hid h0; clear h0
                  go_wp2_with fail
                  go_meet
                  exact ⟨v2, rfl, HO3.out, HX.out, HG.out⟩
            case rest =>
              obtain ⟨v1b, rfl, hO2, hX2, hG2⟩ := hcut
              clear HX2 HO2 HG2
              obtain ⟨L2, hLL⟩ : ∃ l, L1 ++ usesL cs = l := ⟨_, rfl⟩
              rw [hLL] at hO2
              have hlL := congrArg List.length hLL
              rw [List.length_append] at hlL
              have hf := HFIN.out; clear HFIN
              rw [← List.append_assoc, hLL] at hf
              have HFIN := Lib.hid hf; clear hf hLL
              have hlenL2 : L2.length + ((usesL xs).length + ((usesL ts).length + (usesL es).length)) ≤ 1099511627776 := by omega
              clear hlL
              have HX2 := Lib.hid hX2; clear hX2
              have HO2 := Lib.hid hO2; clear hO2
              have HG2 := Lib.hid hG2; clear hG2
              go_upto_block 4 with fail
              go_cut [0, 8] (fun s _ wx => ∃ v1, v1 = s ∧ wx.ownsRow base 109 2 v1 (L2 ++ usesL xs).length (cellsU (L2 ++ usesL xs)) ∧ Blk wx B #[.int .i64 k, .string nm, .slice a2 xs.length c2, .slice a1 cs.length c1, .slice a3 ts.length c3, .slice a4 es.length c4] 60 ∧ Gr vo.ownBlock v1.ownBlock W1 wx)
              case first =>
                go_wp2_with fail
                go_loopw [0, 8] (fun y x wr => ∃ (v2 : Value) (i : Nat), v2 = y ∧ x = .int .i64 i ∧ i ≤ xs.length ∧ wr.ownsRow base 109 2 v2 (L2 ++ usesL (xs.take i)).length (cellsU (L2 ++ usesL (xs.take i))) ∧ Blk wr B #[.int .i64 k, .string nm, .slice a2 xs.length c2, .slice a1 cs.length c1, .slice a3 ts.length c3, .slice a4 es.length c4] 60 ∧ Gr vo.ownBlock v2.ownBlock W1 wr) (fun _ x _ => xs.length - (intOf x).toNat)
                case atStart => exact ⟨v1b, 0, rfl, rfl, by omega, by rw [List.take_zero, usesL, List.append_nil]; exact HO2.out, HX2.out, HG2.out⟩
                case round =>
                  obtain ⟨v2, i, rfl, rfl, hi, hOr, hXr, hGr⟩ := hrel
                  clear HX2 HO2 HG2
                  have e3 : wr.cell? ⟨B, 2, none⟩ = some (.slice a2 xs.length c2) := hXr.cell 2
                  have HX := Lib.hid hXr; clear hXr
                  have HO := Lib.hid hOr; clear hOr
                  have HG := Lib.hid hGr; clear hGr
                  by_cases hlt2 : i < xs.length
                  · have hbi : (i : Int) + 1 ≤ 9223372036854775807 := by unfold maxLen at hcm2; omega
                    have hxl : ¬ xs.length = 0 := by omega
                    obtain ⟨b, o, rfl, hrow⟩ := HROW2.out.resolve_left hxl
                    have hold : Below w0.heap.size w0 wr := HWB.out.trans (HG.out.old HWB.out.size (fun g hg => Nat.le_trans hB0 (HOR.out g hg)))
                    obtain ⟨hty, u0, u1, u2, u3, m0, m1, m2, m3, hnd⟩ := SlIn.item4 rfl hrow i hlt2
                    have kk := keeps_below hold
                    have k0 := kk _ _ _ m0
                    have k1 := kk _ _ _ m1
                    have k2 := kk _ _ _ m2
                    have k3 := kk _ _ _ m3
                    have hsz : base ≤ wr.heap.size := by have := HG.out.size; have := HS1.out; omega
                    have hle := usesL_at_le hlt2
                    have HC := Lib.hid (HIH2.out i hlt2 [u0, u1, u2, u3] _ _ wr hty hnd hold hsz HO.out (by rw [List.length_append]; omega))
                    have HTK := Lib.hid (usesL_take hlt2)
                    clear m0 m1 m2 m3 hnd hty hold kk hrow
                    go_wp2_with fail
                    refine HC.out.mono ?_
                    rintro e w2 ⟨v3, rfl, hO3, hG3⟩
                    rw [List.append_assoc, ← HTK.out] at hO3
                    have hvr : v2.ownBlock ≠ some B := fun e => by
                      rcases HG.out.2 with h | h
                      · exact hvB (h.symm.trans e)
                      · have := h B e; have := HS1.out; omega
                    have hX3 := HX.out.gr hG3 hvr
                    have hG4 := HG.out.trans hG3
                    have HO3 := Lib.hid hO3; clear hO3
                    have HX3 := Lib.hid hX3; clear hX3
                    clear hG3
                    have HG4 := Lib.hid hG4; clear hG4
                    go_wp2_with fail
                    go_roundw
                    case rel => exact ⟨v3, i + 1, rfl, by go_num, by omega, HO3.out, HX3.out, HG4.out⟩
                    case measure => simp [intOf]; omega
                  · obtain rfl : i = xs.length := by omega
                    have h0 := HO.out
                    rw [List.take_length] at h0
                    have HO3 := Lib.hid h0; clear h0
                    go_wp2_with fail
                    go_meet
                    exact ⟨v2, rfl, HO3.out, HX.out, HG.out⟩
              case rest =>
                obtain ⟨v1c, rfl, hO2, hX2, hG2⟩ := hcut
                clear HX2 HO2 HG2
                obtain ⟨L3, hLL⟩ : ∃ l, L2 ++ usesL xs = l := ⟨_, rfl⟩
                rw [hLL] at hO2
                have hlL := congrArg List.length hLL
                rw [List.length_append] at hlL
                have hf := HFIN.out; clear HFIN
                rw [← List.append_assoc, hLL] at hf
                have HFIN := Lib.hid hf; clear hf hLL
                have hlenL3 : L3.length + ((usesL ts).length + (usesL es).length) ≤ 1099511627776 := by omega
                clear hlL
                have HX2 := Lib.hid hX2; clear hX2
                have HO2 := Lib.hid hO2; clear hO2
                have HG2 := Lib.hid hG2; clear hG2
                have j4 : wc.cell? ⟨B, 4, none⟩ = some (.slice a3 ts.length c3) := HX2.out.cell 4
                have hold : Below w0.heap.size w0 wc := HWB.out.trans (HG2.out.old HWB.out.size (fun g hg => Nat.le_trans hB0 (HOR.out g hg)))
                have hsz : base ≤ wc.heap.size := by have := HG2.out.size; have := HS1.out; omega
                have HC := Lib.hid (HT.out _ _ wc hold hsz HO2.out (by omega))
                clear hold hsz
                go_wp2_with fail
                refine HC.out.mono ?_
                rintro e w2 ⟨v3, rfl, hO3, hG3⟩
                have hvr : v1c.ownBlock ≠ some B := fun e => by
                  rcases HG2.out.2 with h | h
                  · exact hvB (h.symm.trans e)
                  · have := h B e; have := HS1.out; omega
                have hX3 := HX2.out.gr hG3 hvr
                have hG4 := HG2.out.trans hG3
                have j5 : w2.cell? ⟨B, 5, none⟩ = some (.slice a4 es.length c4) := hX3.cell 5
                have hold : Below w0.heap.size w0 w2 := HWB.out.trans (hG4.old HWB.out.size (fun g hg => Nat.le_trans hB0 (HOR.out g hg)))
                have hsz : base ≤ w2.heap.size := by have := hG4.size; have := HS1.out; omega
                have HC2 := Lib.hid (HE.out _ _ w2 hold hsz hO3 (by rw [List.length_append]; omega))
                have hf := HFIN.out; clear HFIN
                rw [← List.append_assoc] at hf
                rw [hf] at HC2
                clear hold hsz hO3 hX3 hf hG3 j4 HC HO2 HX2
                have HG4 := Lib.hid hG4; clear hG4
                go_wp2_with fail
                refine HC2.out.mono ?_
                rintro e w3 ⟨v4, rfl, hO5, hG5⟩
                rw [← HFN.out] at hO5
                have HO5 := Lib.hid hO5; clear hO5
                have HG5 := Lib.hid (HGO.out.trans (HG1.out.trans (HG4.out.trans hG5))); clear hG5
                go_wp2_with fail
                go_roundw
                case rel => exact ⟨v4, ii + 1, rfl, by go_num, by omega, HO5.out, HG5.out⟩
                case measure => simp [intOf]; omega
      · obtain rfl : ii = l.length := by omega
        have h0 := HOO.out
        rw [List.take_length, HPOST.out] at h0
        have HO3 := Lib.hid h0; clear h0
        go_wp2_with fail
        go_ret
        exact ⟨vo, rfl, HO3.out, HGO.out⟩
end Go.Proofs.YtbhbmoppipohjaaGreatDoor
