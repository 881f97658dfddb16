/-
  Two lists of texts held against one another (gnomonhelp's Texts): proved is that it answers whether they are the same; and plain: the names of both sides are the same.
-/
import Derived.Test.YtpildlaloclanaaTwalkS
import Derived.Test.YtpildlaloclanaaTourG
import Derived.Maps.Range
import Derived.Outline
import Derived.Deep.DeepCutAuto
import Derived.Deep.CutBlock
import Derived.Test.YtpildlaloclanaaSameS
import Derived.Test.YtpildlaloclanaaOwnM
import Derived.Test.YtpildlaloclanaaTops
import Derived.Test.YtpildlaloclanaaShelf
import Derived.Maps.OwnSet
import Derived.Maps.Views
import Derived.Test.YtpildlaloclanaaCheckR
import Derived.BigQuiet
/-
  Lists of one's own that functions hand on and append to: a frame for them; cells of such a list; names that are used, in a row.
-/
namespace Go.Proofs.Ytpildlaloclanaa
open Go Go.RowKit

/-- w' is w but for the row r and new blocks; the row r' is r or new. -/
def Gr (r r' : Option Nat) (w w' : World) : Prop := w.grownBy w' r ∧ (r' = r ∨ ∀ g, r' = some g → w.heap.size ≤ g)
theorem Gr.refl (r : Option Nat) (w : World) : Gr r r w w := ⟨World.grownBy.refl w r, .inl rfl⟩
theorem Gr.trans {r0 r1 r2 : Option Nat} {a b c : World} (h : Gr r0 r1 a b) (k : Gr r1 r2 b c) : Gr r0 r2 a c := by
  refine ⟨h.1.andThen k.1 (fun j hj => ?_), ?_⟩
  · rcases h.2 with h1 | h1
    · exact .inr (by rw [← h1]; exact hj)
    · exact .inl (h1 j hj)
  · rcases k.2 with h2 | h2
    · rw [h2]; exact h.2
    · exact .inr fun g hg => Nat.le_trans h.1.size (h2 g hg)
theorem Gr.below {r : Option Nat} {w w' : World} (h : Below w.heap.size w w') : Gr r r w w' := ⟨⟨h.os, h.tape, h.output, h.size, fun k hk _ => h.block k hk⟩, .inl rfl⟩
theorem Gr.size {r r' : Option Nat} {w w' : World} (h : Gr r r' w w') : w.heap.size ≤ w'.heap.size := h.1.size
theorem Gr.alloc {r r' : Option Nat} {a w : World} (h : Gr r r' a w) (o : Obj) : Gr r r' a (w.alloc o) := h.trans (Gr.below ((Below.refl _ w).alloc (Nat.le_refl _) o))
theorem Gr.drew {r r' : Option Nat} {a w : World} (h : Gr r r' a w) : Gr r r' a w.drew := h.trans (Gr.below (Below.refl _ w).drew)
theorem Gr.old {B0 : Nat} {r r' : Option Nat} {w w' : World} (h : Gr r r' w w') (h1 : B0 ≤ w.heap.size) (hr : ∀ g, r = some g → B0 ≤ g) : Below B0 w w' :=
  ⟨h.1.os, h.1.tape, h.1.output, h.1.size, fun k hk => h.1.block k (by omega) (fun e => by have := hr k e.symm; omega)⟩
theorem Blk.gr {r r' : Option Nat} {w w' : World} {b : Nat} {cs : Array Value} {t : TypeId} (h : Blk w b cs t) (ho : Gr r r' w w') (hr : r ≠ some b) : Blk w' b cs t := (ho.1.block b h.lt (fun e => hr e.symm)).trans h
theorem gr_grown {a w w' : World} {r row r' : Option Nat} (h : Gr r row a w) (hg : w.grownBy w' row) (hr : r' = row ∨ ∀ g, r' = some g → w.heap.size ≤ g) : Gr r r' a w' := h.trans ⟨hg, hr⟩
theorem ownsRow_below {w w' : World} {base : Nat} {e : TypeId} {size n : Nat} {v : Value} {xs : List Value} (h : w.ownsRow base e size v n xs) (hb : Below w.heap.size w w') : w'.ownsRow base e size v n xs :=
  h.kept (row := none) ⟨hb.os, hb.tape, hb.output, hb.size, fun k hk _ => hb.block k hk⟩ (by cases hv : v.ownBlock <;> simp)

theorem own_new {x : Option Nat} {gg k n cap : Nat} (hat : x = some gg ∨ gg = k) : (Value.slice (some ⟨gg, 0, none⟩) n cap).ownBlock = x ∨ ∀ g, (Value.slice (some ⟨gg, 0, none⟩) n cap).ownBlock = some g → k ≤ g := by
  rcases hat with h | h
  · exact .inl h.symm
  · right
    intro g hg
    have e : gg = g := by simpa [Value.ownBlock] using hg
    omega

/-- A name that is used, and whether as an array's. -/
abbrev Us := ByteArray × Bool
def cellsU (l : List Us) : List Value := l.flatMap fun u => [.string u.1, .bool u.2]
theorem cellsU_snoc (l : List Us) (s : ByteArray) (b : Bool) : cellsU (l ++ [(s, b)]) = cellsU l ++ [.string s, .bool b] := by simp [cellsU]
theorem cellsU_len (l : List Us) : (cellsU l).length = l.length * 2 := by induction l with
  | nil => rfl
  | cons x r ih => simp [cellsU] at ih ⊢; omega
def headU (nm : ByteArray) (a b : Bool) : List Us := if a || b then [(nm, b)] else []
mutual
/-- The names that stand in a node, in the nodes' order. -/
def usesN : Nd → List Us
  | .mk ty k _ nm xs cs ts es => match ty with
    | .E => headU nm (k == 2) (k == 4) ++ usesL xs
    | .C => usesL xs ++ usesL cs
    | .S => headU nm (k == 1) (k == 2) ++ (usesL cs ++ (usesL xs ++ (usesL ts ++ usesL es)))
    | .D => []
def usesL : List Nd → List Us
  | [] => []
  | x :: r => usesN x ++ usesL r
end
theorem usesL_app : ∀ (l m : List Nd), usesL (l ++ m) = usesL l ++ usesL m
  | [], m => by simp [usesL]
  | x :: r, m => by rw [List.cons_append, usesL, usesL, usesL_app r m, List.append_assoc]
theorem usesL_take {l : List Nd} {i : Nat} (hi : i < l.length) : usesL (l.take (i + 1)) = usesL (l.take i) ++ usesN l[i] := by
  rw [← List.take_append_getElem hi, usesL_app]
  simp [usesL]
theorem usesL_take_le {l : List Nd} (i : Nat) : (usesL (l.take i)).length ≤ (usesL l).length := by
  conv => rhs; rw [← List.take_append_drop i l, usesL_app]
  simp
theorem usesL_at_le {l : List Nd} {i : Nat} (hi : i < l.length) : (usesL (l.take i)).length + (usesN l[i]).length ≤ (usesL l).length := by
  have h := usesL_take_le (l := l) (i + 1)
  rw [usesL_take hi, List.length_append] at h
  exact h
theorem info_use : (Try.prog.info? 86).map (fun i => (i.zero, i.size, i.bytes)) = some (some (.agg #[.string ⟨#[]⟩, .bool false]), 2, 24) := by kernel_rfl
theorem info_str : (Try.prog.info? 9).map (fun i => (i.zero, i.size, i.bytes)) = some (some (.string ⟨#[]⟩), 1, 16) := by kernel_rfl
/-- A list of used names is handed on. -/
def UsedTo (w : World) (base : Nat) (v : Value) (L : List Us) : Ending → World → Prop := fun e w' => ∃ v', e = .returned v' ∧ w'.ownsRow base 86 2 v' L.length (cellsU L) ∧ Gr v.ownBlock v'.ownBlock w w'
end Go.Proofs.Ytpildlaloclanaa

/-
  The document's names in an expression (gnomonref3's exprUses): proved is that it puts them behind the list that it is handed.
-/
namespace Go.Proofs.Ytpildlaloclanaa
open Go Go.RowKit

theorem use_one (nm : ByteArray) (b : Bool) : ∀ u ∈ ([.string nm, .bool b] : List Value), u.oneCell' = true := by
  intro u hu
  simp at hu
  rcases hu with rfl | rfl <;> rfl
theorem news_use (w : World) (nm : ByteArray) (b : Bool) (c : Nat) (hc : w.heap.size = c) : ∀ j u, ([.string nm, .bool b] : List Value)[j]? = some u → (w.alloc (.cells #[.string nm, .bool b] 86)).cell? ((⟨c, 0, none⟩ : Addr).add j) = some u := by
  rw [← hc]
  exact World.news_of_block (cs := #[.string nm, .bool b]) (t := 86) (fr := (0, 0)) (heap_alloc_new w _)

set_option maxRecDepth 100000 in
set_option maxHeartbeats 8000000 in
theorem exprUses_any (w0 : World) (base : Nat) (hB0 : w0.heap.size ≤ base) : ∀ (N : Nat) (x : Nd) (us : List Value) (L : List Us) (v : Value) (w : World), SizeOf.sizeOf x ≤ N → x.ty = .E → NdIn w0 x us → Below w0.heap.size w0 w → base ≤ w.heap.size → w.ownsRow base 86 2 v L.length (cellsU L) → L.length + (usesN x).length ≤ 1099511627776 →
    Calls Try.prog 83 #[v, .agg us.toArray] w (UsedTo w base v (L ++ usesN x)) := by
  intro N
  induction N with
  | zero =>
    intro x us L v w hN
    obtain ⟨ty, k, n, nm, xs, cs, ts, es⟩ := x
    simp only [Nd.mk.sizeOf_spec] at hN
    omega
  | succ N ih =>
    intro x us L v w hN hty hin hw hbw hown hlen
    have hmem := fun y h => Nd.mem_size (x := x) (y := y) h
    obtain ⟨ty, k, n, nm, xs, cs, ts, es⟩ := x
    simp only [Nd.ty] at hty
    subst hty
    simp only [Nd.xs, Nd.cs, Nd.ts, Nd.es] at hmem
    unfold NdIn at hin
    obtain ⟨⟨rfl, rfl, rfl⟩, -, -, -, vx, vc, vt, ve, rfl, hx, -, -, -⟩ := hin
    obtain ⟨a, c, rfl, hnc1, hcm1, hrow1⟩ := hx
    change Calls _ _ #[v, .agg #[.int .i64 k, .int .i64 n, .string nm, .slice a xs.length c]] w _
    have hu : usesN (.mk .E k n nm xs [] [] []) = headU nm (k == 2) (k == 4) ++ usesL xs := by unfold usesN; rfl
    rw [hu] at hlen ⊢
    clear hu
    have HIH := Lib.hid (fun (i : Nat) (hi : i < xs.length) us L v w => ih xs[i] us L v w (by have := hmem _ (.inl (List.getElem_mem hi)); omega))
    clear ih hmem hN
    have HROW1 := Lib.hid hrow1; clear hrow1
    obtain ⟨i0, hi0, hz0, hz1, hz2⟩ := info_parts info_use
    have HI0 := Lib.hid hi0; clear hi0
    have HZ0 := Lib.hid hz0; clear hz0
    have HZ1 := Lib.hid hz1; clear hz1
    have HZ2 := Lib.hid hz2; clear hz2
    obtain ⟨b2, hb2⟩ : ∃ b, (k == 2) = b := ⟨_, rfl⟩
    obtain ⟨b4, hb4⟩ : ∃ b, (k == 4) = b := ⟨_, rfl⟩
    rw [hb2, hb4] at hlen ⊢
    obtain ⟨FIN, hFIN⟩ : ∃ l, L ++ (headU nm b2 b4 ++ usesL xs) = l := ⟨_, rfl⟩
    rw [hFIN]
    have HFIN := Lib.hid hFIN; clear hFIN
    have HB2 := Lib.hid hb2; clear hb2
    have HB4 := Lib.hid hb4; clear hb4
    have hor : ∀ g, v.ownBlock = some g → base ≤ g ∧ g < w.heap.size := hown.lt
    obtain ⟨W1, hW1⟩ : ∃ W1, w.alloc (.cells #[.int .i64 k, .int .i64 n, .string nm, .slice a xs.length c] 42) = W1 := ⟨_, rfl⟩
    obtain ⟨B, hBe⟩ : ∃ B, w.heap.size = B := ⟨_, rfl⟩
    have hX1 : Blk W1 B #[.int .i64 k, .int .i64 n, .string nm, .slice a xs.length c] 42 := by rw [← hW1, ← hBe]; exact Blk.new w _ _
    have hO1 : W1.ownsRow base 86 2 v L.length (cellsU L) := by rw [← hW1]; exact hown.alloc _
    have hG1 : Gr v.ownBlock v.ownBlock w W1 := by rw [← hW1]; exact (Gr.refl _ w).alloc _
    have hS1 : W1.heap.size = B + 1 := by rw [← hW1, ← hBe, World.size_alloc]
    rw [hBe] at hbw hor
    have hvB : v.ownBlock ≠ some B := fun e => by have := (hor B e).2; omega
    have HX1 := Lib.hid hX1; clear hX1
    have HO1 := Lib.hid hO1; clear hO1 hown
    have HG1 := Lib.hid hG1; clear hG1
    have HS1 := Lib.hid hS1; clear hS1
    have HW1 := Lib.hid hW1; clear hW1
    have HBE := Lib.hid hBe; clear hBe
    have HOR := Lib.hid hor; clear hor
    have HHW := Lib.hid hw; clear hw
    go_enter Try.func83, Try.ntmps83
    go_upto_region 1 with fail
    rw [HW1.out, HBE.out]
    clear HW1
    obtain ⟨hb, hhb⟩ : ∃ h, (b2 || b4) = h := ⟨_, rfl⟩
    have hhead : headU nm b2 b4 = if hb then [(nm, b4)] else [] := by unfold headU; rw [hhb]
    have HHB := Lib.hid hhb; clear hhb
    have HHD := Lib.hid hhead; clear hhead
    have k0 : W1.cell? ⟨B, 0, none⟩ = some (.int .i64 k) := HX1.out.cell 0
    have k2 : W1.cell? ⟨B, 2, none⟩ = some (.string nm) := HX1.out.cell 2
    go_cut [13] (fun s wx => s = .bool hb ∧ W1 = wx)
    case first =>
      have hb2 := HB2.out
      have hb4 := HB4.out
      cases b2 with
      | true =>
        have e : hb = true := by rw [← HHB.out]; rfl
        clear HHB HHD
        subst e
        go_wp2_with fail
        go_meet
        exact ⟨rfl, rfl⟩
      | false =>
        have e : hb = b4 := by rw [← HHB.out]; rfl
        clear HHB HHD
        subst e
        go_wp2_with fail
        go_meet
        exact ⟨rfl, rfl⟩
    case rest =>
      obtain ⟨rfl, hwc⟩ := hcut
      subst hwc
      go_upto_if 13 with fail
      go_cut [0] (fun s wx => ∃ v1, v1 = s ∧ wx.ownsRow base 86 2 v1 (L ++ headU nm b2 b4).length (cellsU (L ++ headU nm b2 b4)) ∧ Blk wx B #[.int .i64 k, .int .i64 n, .string nm, .slice a xs.length c] 42 ∧ Gr v.ownBlock v1.ownBlock W1 wx)
      case first =>
        cases hb with
        | false =>
          go_wp2_with fail
          go_meet
          exact ⟨v, rfl, by rw [HHD.out]; simpa using HO1.out, HX1.out, Gr.refl _ _⟩
        | true =>
          have hb4 := HB4.out
          have hN := news_use W1 nm b4 (B + 1) HS1.out
          have HNW := Lib.hid hN; clear hN
          have hSZ : base ≤ (W1.alloc (.cells #[.string nm, .bool b4] 86)).heap.size := by rw [World.size_alloc, HS1.out]; omega
          have HSZ := Lib.hid hSZ; clear hSZ
          have hl1 : L.length + 1 ≤ maxLen := by unfold maxLen; omega
          have hs1 : W1.heap.size = B + 1 := HS1.out
          go_wp2_with (first | (at_builtin; (with_reducible refine wpList_append_lies _ rfl (.tmp 14) (.tmp 21) 83 rfl base 86 i0 _ 2 24 Try.underlying83 HI0.out HZ0.out HZ1.out HZ2.out rfl (by omega) v L.length (cellsU L) rfl (HO1.out.alloc _) ⟨_, 0, none⟩ 1 1 [.string nm, .bool b4] rfl rfl HNW.out (use_one _ _) (by omega) hl1 (by omega) HSZ.out _ rfl ?_); (intro gg cap w4 hown4 hgrow hat hlt2)) | fail)
          go_meet
          exact ⟨_, rfl, by rw [HHD.out]; simp only [if_true, List.length_append, List.length_cons, List.length_nil]; rw [cellsU_snoc]; exact hown4, blk_grown (HX1.out.alloc _) hgrow hvB, gr_grown ((Gr.refl _ W1).alloc _) hgrow (own_new hat)⟩
      case rest =>
        obtain ⟨v1, rfl, hO2, hX2, hG2⟩ := hcut
        clear k0 k2 HX1 HO1 HB2 HB4 HHB HHD
        obtain ⟨L1, hL1⟩ : ∃ l, L ++ headU nm b2 b4 = l := ⟨_, rfl⟩
        have hlen1 : L1.length + (usesL xs).length ≤ 1099511627776 := by rw [← hL1]; simp only [List.length_append] at hlen ⊢; omega
        rw [hL1] at hO2
        have hf := HFIN.out; clear HFIN
        rw [← List.append_assoc, hL1] at hf
        have HFIN := Lib.hid hf; clear hf
        clear hlen hL1
        have HX2 := Lib.hid hX2; clear hX2
        have HO2 := Lib.hid hO2; clear hO2
        have HG2 := Lib.hid hG2; clear hG2
        go_wp2_with fail
        go_loopw [0, 5] (fun y x wr => ∃ (v2 : Value) (i : Nat), v2 = y ∧ x = .int .i64 i ∧ i ≤ xs.length ∧ wr.ownsRow base 86 2 v2 (L1 ++ usesL (xs.take i)).length (cellsU (L1 ++ usesL (xs.take i))) ∧ Blk wr B #[.int .i64 k, .int .i64 n, .string nm, .slice a xs.length c] 42 ∧ Gr v.ownBlock v2.ownBlock W1 wr) (fun _ x _ => xs.length - (intOf x).toNat)
        case atStart => exact ⟨v1, 0, rfl, rfl, by omega, by rw [List.take_zero, usesL, List.append_nil]; exact HO2.out, HX2.out, HG2.out⟩
        case round =>
          obtain ⟨v2, i, rfl, rfl, hi, hOr, hXr, hGr⟩ := hrel
          clear HX2 HO2 HG2
          have e3 : wr.cell? ⟨B, 3, none⟩ = some (.slice a xs.length c) := hXr.cell 3
          have HX := Lib.hid hXr; clear hXr
          have HO := Lib.hid hOr; clear hOr
          have HG := Lib.hid hGr; clear hGr
          by_cases hlt2 : i < xs.length
          · have hbi : (i : Int) + 1 ≤ 9223372036854775807 := by unfold maxLen at hcm1; omega
            have hxl : ¬ xs.length = 0 := by omega
            obtain ⟨b, o, rfl, hrow⟩ := HROW1.out.resolve_left hxl
            have hold1 : Below w0.heap.size w wr := (HG1.out.trans HG.out).old HHW.out.size (fun g hg => Nat.le_trans hB0 (HOR.out g hg).1)
            have hold : Below w0.heap.size w0 wr := HHW.out.trans hold1
            obtain ⟨hty, u0, u1, u2, u3, m0, m1, m2, m3, hnd⟩ := SlIn.item4 rfl hrow i hlt2
            have kk := keeps_below hold
            have k0 := kk _ _ _ m0
            have k1 := kk _ _ _ m1
            have k2 := kk _ _ _ m2
            have k3 := kk _ _ _ m3
            have hsz : base ≤ wr.heap.size := by have := HG.out.size; have := HS1.out; omega
            have hle := usesL_at_le hlt2
            have HC := Lib.hid (HIH.out i hlt2 [u0, u1, u2, u3] _ _ wr hty hnd hold hsz HO.out (by rw [List.length_append]; omega))
            have HTK := Lib.hid (usesL_take hlt2)
            clear m0 m1 m2 m3 hnd hty hold hold1 kk hrow
            go_wp2_with fail
            refine HC.out.mono ?_
            rintro e w2 ⟨v3, rfl, hO3, hG3⟩
            rw [List.append_assoc, ← HTK.out] at hO3
            have hvr : v2.ownBlock ≠ some B := fun e => by
              rcases HG.out.2 with h | h
              · exact hvB (h.symm.trans e)
              · have := h B e; have := HS1.out; omega
            have hX3 := HX.out.gr hG3 hvr
            have hG4 := HG.out.trans hG3
            have HO3 := Lib.hid hO3; clear hO3
            have HX3 := Lib.hid hX3; clear hX3
            clear hG3
            have HG4 := Lib.hid hG4; clear hG4
            go_wp2_with fail
            go_roundw
            case rel => exact ⟨v3, i + 1, rfl, by go_num, by omega, HO3.out, HX3.out, HG4.out⟩
            case measure => simp [intOf]; omega
          · obtain rfl : i = xs.length := by omega
            have h0 := HO.out
            rw [List.take_length, HFIN.out] at h0
            have HO3 := Lib.hid h0; clear h0
            go_wp2_with fail
            go_ret
            exact ⟨v2, rfl, HO3.out, HG1.out.trans HG.out⟩
end Go.Proofs.Ytpildlaloclanaa

/-
  The document's names in a condition (gnomonref3's condUses): proved is that it puts them behind the list that it is handed.
-/
namespace Go.Proofs.Ytpildlaloclanaa
open Go Go.RowKit

set_option maxRecDepth 100000 in
set_option maxHeartbeats 8000000 in
theorem condUses_any (w0 : World) (base : Nat) (hB0 : w0.heap.size ≤ base) : ∀ (N : Nat) (x : Nd) (us : List Value) (L : List Us) (v : Value) (w : World), SizeOf.sizeOf x ≤ N → x.ty = .C → NdIn w0 x us → Below w0.heap.size w0 w → base ≤ w.heap.size → w.ownsRow base 86 2 v L.length (cellsU L) → L.length + (usesN x).length ≤ 1099511627776 →
    Calls Try.prog 82 #[v, .agg us.toArray] w (UsedTo w base v (L ++ usesN x)) := by
  intro N
  induction N with
  | zero =>
    intro x us L v w hN
    obtain ⟨ty, k, n, nm, xs, cs, ts, es⟩ := x
    simp only [Nd.mk.sizeOf_spec] at hN
    omega
  | succ N ih =>
    intro x us L v w hN hty hin hw hbw hown hlen
    have hmem := fun y h => Nd.mem_size (x := x) (y := y) h
    obtain ⟨ty, k, n, nm, xs, cs, ts, es⟩ := x
    simp only [Nd.ty] at hty
    subst hty
    simp only [Nd.xs, Nd.cs, Nd.ts, Nd.es] at hmem
    unfold NdIn at hin
    obtain ⟨⟨rfl, rfl, rfl⟩, -, -, -, vx, vc, vt, ve, rfl, hx, hc, -, -⟩ := hin
    obtain ⟨a1, c1, rfl, hnc1, hcm1, hrow1⟩ := hx
    obtain ⟨a2, c2, rfl, hnc2, hcm2, hrow2⟩ := hc
    change Calls _ _ #[v, .agg #[.int .i64 k, .int .i64 n, .slice a1 xs.length c1, .slice a2 cs.length c2]] w _
    have hu : usesN (.mk .C k n ⟨#[]⟩ xs cs [] []) = usesL xs ++ usesL cs := by unfold usesN; rfl
    rw [hu] at hlen ⊢
    clear hu
    rw [List.length_append] at hlen
    have HIH1 := Lib.hid (fun (i : Nat) (hi : i < xs.length) us L v w => exprUses_any w0 base hB0 _ xs[i] us L v w (Nat.le_refl _))
    have HIH2 := Lib.hid (fun (i : Nat) (hi : i < cs.length) us L v w => ih cs[i] us L v w (by have := hmem _ (.inr (.inl (List.getElem_mem hi))); omega))
    clear ih hmem hN
    have HROW1 := Lib.hid hrow1; clear hrow1
    have HROW2 := Lib.hid hrow2; clear hrow2
    obtain ⟨FIN, hFIN⟩ : ∃ l, L ++ (usesL xs ++ usesL cs) = l := ⟨_, rfl⟩
    rw [hFIN]
    have HFIN := Lib.hid hFIN; clear hFIN
    have hor : ∀ g, v.ownBlock = some g → base ≤ g ∧ g < w.heap.size := hown.lt
    obtain ⟨W1, hW1⟩ : ∃ W1, w.alloc (.cells #[.int .i64 k, .int .i64 n, .slice a1 xs.length c1, .slice a2 cs.length c2] 45) = W1 := ⟨_, rfl⟩
    obtain ⟨B, hBe⟩ : ∃ B, w.heap.size = B := ⟨_, rfl⟩
    have hX2 : Blk W1 B #[.int .i64 k, .int .i64 n, .slice a1 xs.length c1, .slice a2 cs.length c2] 45 := by rw [← hW1, ← hBe]; exact Blk.new w _ _
    have hO2 : W1.ownsRow base 86 2 v L.length (cellsU L) := by rw [← hW1]; exact hown.alloc _
    have hG1 : Gr v.ownBlock v.ownBlock w W1 := by rw [← hW1]; exact (Gr.refl _ w).alloc _
    have hS1 : W1.heap.size = B + 1 := by rw [← hW1, ← hBe, World.size_alloc]
    rw [hBe] at hbw hor
    have hvB : v.ownBlock ≠ some B := fun e => by have := (hor B e).2; omega
    have HX2 := Lib.hid hX2; clear hX2
    have HO2 := Lib.hid hO2; clear hO2 hown
    have HG1 := Lib.hid hG1; clear hG1
    have HG2 := Lib.hid (Gr.refl v.ownBlock W1)
    have HS1 := Lib.hid hS1; clear hS1
    have HW1 := Lib.hid hW1; clear hW1
    have HBE := Lib.hid hBe; clear hBe
    have HOR := Lib.hid (fun g hg => (hor g hg).1); clear hor
    have HWB := Lib.hid (hw.trans (HG1.out.old hw.size (fun g hg => Nat.le_trans hB0 (HOR.out g hg)))); clear hw
    go_enter Try.func82, Try.ntmps82
    go_upto_block 0 with fail
    rw [HW1.out, HBE.out]
    clear HW1
    go_cut [0, 5] (fun s _ wx => ∃ v1, v1 = s ∧ wx.ownsRow base 86 2 v1 (L ++ usesL xs).length (cellsU (L ++ usesL xs)) ∧ Blk wx B #[.int .i64 k, .int .i64 n, .slice a1 xs.length c1, .slice a2 cs.length c2] 45 ∧ Gr v.ownBlock v1.ownBlock W1 wx)
    case first =>
      go_wp2_with fail
      go_loopw [0, 5] (fun y x wr => ∃ (v2 : Value) (i : Nat), v2 = y ∧ x = .int .i64 i ∧ i ≤ xs.length ∧ wr.ownsRow base 86 2 v2 (L ++ usesL (xs.take i)).length (cellsU (L ++ usesL (xs.take i))) ∧ Blk wr B #[.int .i64 k, .int .i64 n, .slice a1 xs.length c1, .slice a2 cs.length c2] 45 ∧ Gr v.ownBlock v2.ownBlock W1 wr) (fun _ x _ => xs.length - (intOf x).toNat)
      case atStart => exact ⟨v, 0, rfl, rfl, by omega, by rw [List.take_zero, usesL, List.append_nil]; exact HO2.out, HX2.out, HG2.out⟩
      case round =>
        obtain ⟨v2, i, rfl, rfl, hi, hOr, hXr, hGr⟩ := hrel
        clear HX2 HO2 HG2
        have e3 : wr.cell? ⟨B, 2, none⟩ = some (.slice a1 xs.length c1) := hXr.cell 2
        have HX := Lib.hid hXr; clear hXr
        have HO := Lib.hid hOr; clear hOr
        have HG := Lib.hid hGr; clear hGr
        by_cases hlt2 : i < xs.length
        · have hbi : (i : Int) + 1 ≤ 9223372036854775807 := by unfold maxLen at hcm1; omega
          have hxl : ¬ xs.length = 0 := by omega
          obtain ⟨b, o, rfl, hrow⟩ := HROW1.out.resolve_left hxl
          have hold : Below w0.heap.size w0 wr := HWB.out.trans (HG.out.old HWB.out.size (fun g hg => Nat.le_trans hB0 (HOR.out g hg)))
          obtain ⟨hty, u0, u1, u2, u3, m0, m1, m2, m3, hnd⟩ := SlIn.item4 rfl hrow i hlt2
          have kk := keeps_below hold
          have k0 := kk _ _ _ m0
          have k1 := kk _ _ _ m1
          have k2 := kk _ _ _ m2
          have k3 := kk _ _ _ m3
          have hsz : base ≤ wr.heap.size := by have := HG.out.size; have := HS1.out; omega
          have hle := usesL_at_le hlt2
          have HC := Lib.hid (HIH1.out i hlt2 [u0, u1, u2, u3] _ _ wr hty hnd hold hsz HO.out (by rw [List.length_append]; omega))
          have HTK := Lib.hid (usesL_take hlt2)
          clear m0 m1 m2 m3 hnd hty hold kk hrow
          go_wp2_with fail
          refine HC.out.mono ?_
          rintro e w2 ⟨v3, rfl, hO3, hG3⟩
          rw [List.append_assoc, ← HTK.out] at hO3
          have hvr : v2.ownBlock ≠ some B := fun e => by
            rcases HG.out.2 with h | h
            · exact hvB (h.symm.trans e)
            · have := h B e; have := HS1.out; omega
          have hX3 := HX.out.gr hG3 hvr
          have hG4 := HG.out.trans hG3
          have HO3 := Lib.hid hO3; clear hO3
          have HX3 := Lib.hid hX3; clear hX3
          clear hG3
          have HG4 := Lib.hid hG4; clear hG4
          go_wp2_with fail
          go_roundw
          case rel => exact ⟨v3, i + 1, rfl, by go_num, by omega, HO3.out, HX3.out, HG4.out⟩
          case measure => simp [intOf]; omega
        · obtain rfl : i = xs.length := by omega
          have h0 := HO.out
          rw [List.take_length] at h0
          have HO3 := Lib.hid h0; clear h0
          go_wp2_with fail
          go_meet
          exact ⟨v2, rfl, HO3.out, HX.out, HG.out⟩
    case rest =>
      obtain ⟨v1, rfl, hO2, hX2, hG2⟩ := hcut
      clear HX2 HO2 HG2
      obtain ⟨L1, hLL⟩ : ∃ l, L ++ usesL xs = l := ⟨_, rfl⟩
      rw [hLL] at hO2
      have hlL := congrArg List.length hLL
      rw [List.length_append] at hlL
      have hf := HFIN.out; clear HFIN
      rw [← List.append_assoc, hLL] at hf
      have HFIN := Lib.hid hf; clear hf hLL
      have hlenL1 : L1.length + (usesL cs).length ≤ 1099511627776 := by omega
      clear hlL
      have HX2 := Lib.hid hX2; clear hX2
      have HO2 := Lib.hid hO2; clear hO2
      have HG2 := Lib.hid hG2; clear hG2
      go_upto_block 2 with fail
      go_wp2_with fail
      go_loopw [0, 6] (fun y x wr => ∃ (v2 : Value) (i : Nat), v2 = y ∧ x = .int .i64 i ∧ i ≤ cs.length ∧ wr.ownsRow base 86 2 v2 (L1 ++ usesL (cs.take i)).length (cellsU (L1 ++ usesL (cs.take i))) ∧ Blk wr B #[.int .i64 k, .int .i64 n, .slice a1 xs.length c1, .slice a2 cs.length c2] 45 ∧ Gr v.ownBlock v2.ownBlock W1 wr) (fun _ x _ => cs.length - (intOf x).toNat)
      case atStart => exact ⟨v1, 0, rfl, rfl, by omega, by rw [List.take_zero, usesL, List.append_nil]; exact HO2.out, HX2.out, HG2.out⟩
      case round =>
        obtain ⟨v2, i, rfl, rfl, hi, hOr, hXr, hGr⟩ := hrel
        clear HX2 HO2 HG2
        have e3 : wr.cell? ⟨B, 3, none⟩ = some (.slice a2 cs.length c2) := hXr.cell 3
        have HX := Lib.hid hXr; clear hXr
        have HO := Lib.hid hOr; clear hOr
        have HG := Lib.hid hGr; clear hGr
        by_cases hlt2 : i < cs.length
        · have hbi : (i : Int) + 1 ≤ 9223372036854775807 := by unfold maxLen at hcm2; omega
          have hxl : ¬ cs.length = 0 := by omega
          obtain ⟨b, o, rfl, hrow⟩ := HROW2.out.resolve_left hxl
          have hold : Below w0.heap.size w0 wr := HWB.out.trans (HG.out.old HWB.out.size (fun g hg => Nat.le_trans hB0 (HOR.out g hg)))
          obtain ⟨hty, u0, u1, u2, u3, m0, m1, m2, m3, hnd⟩ := SlIn.item4 rfl hrow i hlt2
          have kk := keeps_below hold
          have k0 := kk _ _ _ m0
          have k1 := kk _ _ _ m1
          have k2 := kk _ _ _ m2
          have k3 := kk _ _ _ m3
          have hsz : base ≤ wr.heap.size := by have := HG.out.size; have := HS1.out; omega
          have hle := usesL_at_le hlt2
          have HC := Lib.hid (HIH2.out i hlt2 [u0, u1, u2, u3] _ _ wr hty hnd hold hsz HO.out (by rw [List.length_append]; omega))
          have HTK := Lib.hid (usesL_take hlt2)
          clear m0 m1 m2 m3 hnd hty hold kk hrow
          go_wp2_with fail
          refine HC.out.mono ?_
          rintro e w2 ⟨v3, rfl, hO3, hG3⟩
          rw [List.append_assoc, ← HTK.out] at hO3
          have hvr : v2.ownBlock ≠ some B := fun e => by
            rcases HG.out.2 with h | h
            · exact hvB (h.symm.trans e)
            · have := h B e; have := HS1.out; omega
          have hX3 := HX.out.gr hG3 hvr
          have hG4 := HG.out.trans hG3
          have HO3 := Lib.hid hO3; clear hO3
          have HX3 := Lib.hid hX3; clear hX3
          clear hG3
          have HG4 := Lib.hid hG4; clear hG4
          go_wp2_with fail
          go_roundw
          case rel => exact ⟨v3, i + 1, rfl, by go_num, by omega, HO3.out, HX3.out, HG4.out⟩
          case measure => simp [intOf]; omega
        · obtain rfl : i = cs.length := by omega
          have h0 := HO.out
          rw [List.take_length, HFIN.out] at h0
          have HO3 := Lib.hid h0; clear h0
          go_wp2_with fail
          go_ret
          exact ⟨v2, rfl, HO3.out, HG1.out.trans HG.out⟩
end Go.Proofs.Ytpildlaloclanaa

/-
  The document's names in statements (gnomonref3's stmtUses, Uses): proved is that they are put behind the list that is handed on.
-/
namespace Go.Proofs.Ytpildlaloclanaa
open Go Go.RowKit

set_option maxRecDepth 100000 in
set_option maxHeartbeats 16000000 in
theorem stmtUses_any (w0 : World) (base : Nat) (hB0 : w0.heap.size ≤ base) : ∀ (N : Nat) (l : List Nd) (vl : Value) (L : List Us) (v : Value) (w : World), SizeOf.sizeOf l ≤ N → SlIn w0 .S l vl → Below w0.heap.size w0 w → base ≤ w.heap.size → w.ownsRow base 86 2 v L.length (cellsU L) → L.length + (usesL l).length ≤ 1099511627776 →
    Calls Try.prog 62 #[v, vl] w (UsedTo w base v (L ++ usesL l)) := by
  intro N
  induction N with
  | zero =>
    intro l vl L v w hN
    cases l <;> simp at hN
  | succ N ih =>
    intro l vl L v w hN hl hw hbw hown hlen
    obtain ⟨A, C, rfl, hlC, hcmC, hROW⟩ := hl
    have HROW := Lib.hid hROW; clear hROW
    have HIH := Lib.hid ih; clear ih
    obtain ⟨i0, hi0, hz0, hz1, hz2⟩ := info_parts info_use
    have HI0 := Lib.hid hi0; clear hi0
    have HZ0 := Lib.hid hz0; clear hz0
    have HZ1 := Lib.hid hz1; clear hz1
    have HZ2 := Lib.hid hz2; clear hz2
    obtain ⟨POST, hPOST⟩ : ∃ l', L ++ usesL l = l' := ⟨_, rfl⟩
    rw [hPOST]
    have HPOST := Lib.hid hPOST; clear hPOST
    have HOR0 := Lib.hid (fun g hg => (hown.lt g hg).1)
    have HO0 := Lib.hid hown; clear hown
    have HHW := Lib.hid hw; clear hw
    go_enter Try.func62, Try.ntmps62
    go_wp2_with fail
    go_loopw [0, 5] (fun y x wr => ∃ (vo : Value) (ii : Nat), vo = y ∧ x = .int .i64 ii ∧ ii ≤ l.length ∧ wr.ownsRow base 86 2 vo (L ++ usesL (l.take ii)).length (cellsU (L ++ usesL (l.take ii))) ∧ Gr v.ownBlock vo.ownBlock w wr) (fun _ x _ => l.length - (intOf x).toNat)
    case atStart => exact ⟨v, 0, rfl, rfl, by omega, by rw [List.take_zero, usesL, List.append_nil]; exact HO0.out, Gr.refl _ _⟩
    case round =>
      obtain ⟨vo, ii, rfl, rfl, hii, hOo, hGo⟩ := hrel
      have HOO := Lib.hid hOo; clear hOo
      have HGO := Lib.hid hGo; clear hGo
      by_cases hlt : ii < l.length
      · have hbii : (ii : Int) + 1 ≤ 9223372036854775807 := by unfold maxLen at hcmC; omega
        have hxl0 : ¬ l.length = 0 := by omega
        obtain ⟨b0, o0, rfl, hrow⟩ := HROW.out.resolve_left hxl0
        have hold0 : Below w0.heap.size w0 wr := HHW.out.trans (HGO.out.old HHW.out.size (fun g hg => Nat.le_trans hB0 (HOR0.out g hg)))
        obtain ⟨hty, u0, u1, u2, u3, u4, u5, m0, m1, m2, m3, m4, m5, hnd⟩ := SlIn.item6 rfl hrow ii hlt
        have hsz0 := List.sizeOf_lt_of_mem (List.getElem_mem hlt)
        have kk := keeps_below hold0
        have g0 := kk _ _ _ m0
        have g1 := kk _ _ _ m1
        have g2 := kk _ _ _ m2
        have g3 := kk _ _ _ m3
        have g4 := kk _ _ _ m4
        have g5 := kk _ _ _ m5
        have hle0 := usesL_at_le hlt
        have htk0 := usesL_take hlt
        clear m0 m1 m2 m3 m4 m5 kk hrow
        obtain ⟨X, hX⟩ : ∃ X, l[ii] = X := ⟨_, rfl⟩
        rw [hX] at hnd hty htk0 hle0 hsz0
        clear hX
        obtain ⟨ty, k, n, nm, xs, cs, ts, es⟩ := X
        simp only [Nd.ty] at hty
        subst hty
        unfold NdIn at hnd
        obtain ⟨hz, -, -, -, vx, vc, vt, ve, hvs, hxs, hcs, hts, hes⟩ := hnd
        simp only [fits] at hz
        subst hz
        simp only [lay, List.cons.injEq, and_true] at hvs
        obtain ⟨rfl, rfl, rfl, rfl, rfl, rfl⟩ := hvs
        have hu : usesN (.mk .S k 0 nm xs cs ts es) = headU nm (k == 1) (k == 2) ++ (usesL cs ++ (usesL xs ++ (usesL ts ++ usesL es))) := by unfold usesN; rfl
        rw [hu] at htk0 hle0
        clear hu
        simp only [Nd.mk.sizeOf_spec] at hsz0
        have HT := Lib.hid (fun L v w => HIH.out ts _ L v w (by omega) hts)
        have HE := Lib.hid (fun L v w => HIH.out es _ L v w (by omega) hes)
        have HIH1 := Lib.hid (fun (i : Nat) (hi : i < cs.length) us L v w => condUses_any w0 base hB0 _ cs[i] us L v w (Nat.le_refl _))
        have HIH2 := Lib.hid (fun (i : Nat) (hi : i < xs.length) us L v w => exprUses_any w0 base hB0 _ xs[i] us L v w (Nat.le_refl _))
        obtain ⟨a1, c1, rfl, hlc1, hcm1, hrow1⟩ := hcs
        obtain ⟨a2, c2, rfl, hlc2, hcm2, hrow2⟩ := hxs
        obtain ⟨a3, c3, rfl, -⟩ := hts
        obtain ⟨a4, c4, rfl, -⟩ := hes
        have HROW1 := Lib.hid hrow1; clear hrow1
        have HROW2 := Lib.hid hrow2; clear hrow2
        obtain ⟨LB, hLB⟩ : ∃ x, L ++ usesL (l.take ii) = x := ⟨_, rfl⟩
        have hOo := HOO.out; clear HOO
        rw [hLB] at hOo
        obtain ⟨b2, hb2⟩ : ∃ b, (k == 1) = b := ⟨_, rfl⟩
        obtain ⟨b4, hb4⟩ : ∃ b, (k == 2) = b := ⟨_, rfl⟩
        rw [hb2, hb4] at htk0 hle0
        obtain ⟨FIN, hFN⟩ : ∃ x, L ++ usesL (l.take (ii + 1)) = x := ⟨_, rfl⟩
        have hfin : LB ++ (headU nm b2 b4 ++ (usesL cs ++ (usesL xs ++ (usesL ts ++ usesL es)))) = FIN := by rw [← hLB, ← hFN, htk0, List.append_assoc]
        have hlenLB : LB.length + ((headU nm b2 b4).length + ((usesL cs).length + ((usesL xs).length + ((usesL ts).length + (usesL es).length)))) ≤ 1099511627776 := by
          have := congrArg List.length hLB
          simp only [List.length_append] at this hle0
          omega
        have HFN := Lib.hid hFN; clear hFN
        have HFIN := Lib.hid hfin; clear hfin htk0 hle0 hLB hsz0
        have HB2 := Lib.hid hb2; clear hb2
        have HB4 := Lib.hid hb4; clear hb4
        have hor : ∀ g, vo.ownBlock = some g → base ≤ g ∧ g < wr.heap.size := hOo.lt
        obtain ⟨W1, hW1⟩ : ∃ W1, wr.alloc (.cells #[.int .i64 k, .string nm, .slice a2 xs.length c2, .slice a1 cs.length c1, .slice a3 ts.length c3, .slice a4 es.length c4] 67) = W1 := ⟨_, rfl⟩
        obtain ⟨B, hBe⟩ : ∃ B, wr.heap.size = B := ⟨_, rfl⟩
        have hX1 : Blk W1 B #[.int .i64 k, .string nm, .slice a2 xs.length c2, .slice a1 cs.length c1, .slice a3 ts.length c3, .slice a4 es.length c4] 67 := by rw [← hW1, ← hBe]; exact Blk.new wr _ _
        have hO1 : W1.ownsRow base 86 2 vo LB.length (cellsU LB) := by rw [← hW1]; exact hOo.alloc _
        have hG1 : Gr vo.ownBlock vo.ownBlock wr W1 := by rw [← hW1]; exact (Gr.refl _ wr).alloc _
        have hS1 : W1.heap.size = B + 1 := by rw [← hW1, ← hBe, World.size_alloc]
        have hbw2 : base ≤ B := by have := HGO.out.size; omega
        rw [hBe] at hor
        have hvB : vo.ownBlock ≠ some B := fun e => by have := (hor B e).2; omega
        have HX1 := Lib.hid hX1; clear hX1
        have HO1 := Lib.hid hO1; clear hO1 hOo
        have HG1 := Lib.hid hG1; clear hG1
        have HS1 := Lib.hid hS1; clear hS1
        have HW1 := Lib.hid hW1; clear hW1
        have HBE := Lib.hid hBe; clear hBe
        have HOR := Lib.hid (fun g hg => (hor g hg).1); clear hor
        have HWB := Lib.hid (hold0.trans (HG1.out.old hold0.size (fun g hg => Nat.le_trans hB0 (HOR.out g hg)))); clear hold0
        go_upto_region 5 with fail
        rw [HW1.out, HBE.out]
        clear HW1 g0 g1 g2 g3 g4 g5
        obtain ⟨hb, hhb⟩ : ∃ h, (b2 || b4) = h := ⟨_, rfl⟩
        have hhead : headU nm b2 b4 = if hb then [(nm, b4)] else [] := by unfold headU; rw [hhb]
        have HHB := Lib.hid hhb; clear hhb
        have HHD := Lib.hid hhead; clear hhead
        have k0 : W1.cell? ⟨B, 0, none⟩ = some (.int .i64 k) := HX1.out.cell 0
        have k1 : W1.cell? ⟨B, 1, none⟩ = some (.string nm) := HX1.out.cell 1
        go_cut [26] (fun s wx => s = .bool hb ∧ W1 = wx)
        case first =>
          have hb2 := HB2.out
          have hb4 := HB4.out
          cases b2 with
          | true =>
            have e : hb = true := by rw [← HHB.out]; rfl
            clear HHB HHD
            subst e
            go_wp2_with fail
            go_meet
            exact ⟨rfl, rfl⟩
          | false =>
            have e : hb = b4 := by rw [← HHB.out]; rfl
            clear HHB HHD
            subst e
            go_wp2_with fail
            go_meet
            exact ⟨rfl, rfl⟩
        case rest =>
          obtain ⟨rfl, hwc⟩ := hcut
          subst hwc
          go_upto_if 26 with fail
          go_cut [0] (fun s wx => ∃ v1, v1 = s ∧ wx.ownsRow base 86 2 v1 (LB ++ headU nm b2 b4).length (cellsU (LB ++ headU nm b2 b4)) ∧ Blk wx B #[.int .i64 k, .string nm, .slice a2 xs.length c2, .slice a1 cs.length c1, .slice a3 ts.length c3, .slice a4 es.length c4] 67 ∧ Gr vo.ownBlock v1.ownBlock W1 wx)
          case first =>
            cases hb with
            | false =>
              go_wp2_with fail
              go_meet
              exact ⟨vo, rfl, by rw [HHD.out]; simpa using HO1.out, HX1.out, Gr.refl _ _⟩
            | true =>
              have hb4 := HB4.out
              have hN := news_use W1 nm b4 (B + 1) HS1.out
              have HNW := Lib.hid hN; clear hN
              have hSZ : base ≤ (W1.alloc (.cells #[.string nm, .bool b4] 86)).heap.size := by rw [World.size_alloc, HS1.out]; omega
              have HSZ := Lib.hid hSZ; clear hSZ
              have hl1 : LB.length + 1 ≤ maxLen := by unfold maxLen; omega
              have hs1 : W1.heap.size = B + 1 := HS1.out
              go_wp2_with (first | (at_builtin; (with_reducible refine wpList_append_lies _ rfl (.tmp 27) (.tmp 34) 83 rfl base 86 i0 _ 2 24 Try.underlying83 HI0.out HZ0.out HZ1.out HZ2.out rfl (by omega) vo LB.length (cellsU LB) rfl (HO1.out.alloc _) ⟨_, 0, none⟩ 1 1 [.string nm, .bool b4] rfl rfl HNW.out (use_one _ _) (by omega) hl1 (by omega) HSZ.out _ rfl ?_); (intro gg cap w4 hown4 hgrow hat hlt2)) | fail)
              go_meet
              exact ⟨_, rfl, by rw [HHD.out]; simp only [if_true, List.length_append, List.length_cons, List.length_nil]; rw [cellsU_snoc]; exact hown4, blk_grown (HX1.out.alloc _) hgrow hvB, gr_grown ((Gr.refl _ W1).alloc _) hgrow (own_new hat)⟩
          case rest =>
            obtain ⟨v1, rfl, hO2, hX2, hG2⟩ := hcut
            clear k0 k1 HX1 HO1 HB2 HB4 HHB HHD
            obtain ⟨L1, hL1⟩ : ∃ l, LB ++ headU nm b2 b4 = l := ⟨_, rfl⟩
            have hlen1 : L1.length + ((usesL cs).length + ((usesL xs).length + ((usesL ts).length + (usesL es).length))) ≤ 1099511627776 := by rw [← hL1]; simp only [List.length_append] at hlenLB ⊢; omega
            rw [hL1] at hO2
            have hf := HFIN.out; clear HFIN
            rw [← List.append_assoc, hL1] at hf
            have HFIN := Lib.hid hf; clear hf
            clear hlenLB hL1
            have HX2 := Lib.hid hX2; clear hX2
            have HO2 := Lib.hid hO2; clear hO2
            have HG2 := Lib.hid hG2; clear hG2
            go_upto_block 2 with fail
            go_cut [0, 7] (fun s _ wx => ∃ v1, v1 = s ∧ wx.ownsRow base 86 2 v1 (L1 ++ usesL cs).length (cellsU (L1 ++ usesL cs)) ∧ Blk wx B #[.int .i64 k, .string nm, .slice a2 xs.length c2, .slice a1 cs.length c1, .slice a3 ts.length c3, .slice a4 es.length c4] 67 ∧ Gr vo.ownBlock v1.ownBlock W1 wx)
            case first =>
              go_wp2_with fail
              go_loopw [0, 7] (fun y x wr => ∃ (v2 : Value) (i : Nat), v2 = y ∧ x = .int .i64 i ∧ i ≤ cs.length ∧ wr.ownsRow base 86 2 v2 (L1 ++ usesL (cs.take i)).length (cellsU (L1 ++ usesL (cs.take i))) ∧ Blk wr B #[.int .i64 k, .string nm, .slice a2 xs.length c2, .slice a1 cs.length c1, .slice a3 ts.length c3, .slice a4 es.length c4] 67 ∧ Gr vo.ownBlock v2.ownBlock W1 wr) (fun _ x _ => cs.length - (intOf x).toNat)
              case atStart => exact ⟨v1, 0, rfl, rfl, by omega, by rw [List.take_zero, usesL, List.append_nil]; exact HO2.out, HX2.out, HG2.out⟩
              case round =>
                obtain ⟨v2, i, rfl, rfl, hi, hOr, hXr, hGr⟩ := hrel
                clear HX2 HO2 HG2
                have e3 : wr.cell? ⟨B, 3, none⟩ = some (.slice a1 cs.length c1) := hXr.cell 3
                have HX := Lib.hid hXr; clear hXr
                have HO := Lib.hid hOr; clear hOr
                have HG := Lib.hid hGr; clear hGr
                by_cases hlt2 : i < cs.length
                · have hbi : (i : Int) + 1 ≤ 9223372036854775807 := by unfold maxLen at hcm1; omega
                  have hxl : ¬ cs.length = 0 := by omega
                  obtain ⟨b, o, rfl, hrow⟩ := HROW1.out.resolve_left hxl
                  have hold : Below w0.heap.size w0 wr := HWB.out.trans (HG.out.old HWB.out.size (fun g hg => Nat.le_trans hB0 (HOR.out g hg)))
                  obtain ⟨hty, u0, u1, u2, u3, m0, m1, m2, m3, hnd⟩ := SlIn.item4 rfl hrow i hlt2
                  have kk := keeps_below hold
                  have k0 := kk _ _ _ m0
                  have k1 := kk _ _ _ m1
                  have k2 := kk _ _ _ m2
                  have k3 := kk _ _ _ m3
                  have hsz : base ≤ wr.heap.size := by have := HG.out.size; have := HS1.out; omega
                  have hle := usesL_at_le hlt2
                  have HC := Lib.hid (HIH1.out i hlt2 [u0, u1, u2, u3] _ _ wr hty hnd hold hsz HO.out (by rw [List.length_append]; omega))
                  have HTK := Lib.hid (usesL_take hlt2)
                  clear m0 m1 m2 m3 hnd hty hold kk hrow
                  go_wp2_with fail
                  refine HC.out.mono ?_
                  rintro e w2 ⟨v3, rfl, hO3, hG3⟩
                  rw [List.append_assoc, ← HTK.out] at hO3
                  have hvr : v2.ownBlock ≠ some B := fun e => by
                    rcases HG.out.2 with h | h
                    · exact hvB (h.symm.trans e)
                    · have := h B e; have := HS1.out; omega
                  have hX3 := HX.out.gr hG3 hvr
                  have hG4 := HG.out.trans hG3
                  have HO3 := Lib.hid hO3; clear hO3
                  have HX3 := Lib.hid hX3; clear hX3
                  clear hG3
                  have HG4 := Lib.hid hG4; clear hG4
                  go_wp2_with fail
                  go_roundw
                  case rel => exact ⟨v3, i + 1, rfl, by go_num, by omega, HO3.out, HX3.out, HG4.out⟩
                  case measure => simp [intOf]; omega
                · obtain rfl : i = cs.length := by omega
                  have h0 := HO.out
                  rw [List.take_length] at h0
                  have HO3 := Lib.hid h0; clear h0
                  go_wp2_with fail
                  go_meet
                  exact ⟨v2, rfl, HO3.out, HX.out, HG.out⟩
            case rest =>
              obtain ⟨v1b, rfl, hO2, hX2, hG2⟩ := hcut
              clear HX2 HO2 HG2
              obtain ⟨L2, hLL⟩ : ∃ l, L1 ++ usesL cs = l := ⟨_, rfl⟩
              rw [hLL] at hO2
              have hlL := congrArg List.length hLL
              rw [List.length_append] at hlL
              have hf := HFIN.out; clear HFIN
              rw [← List.append_assoc, hLL] at hf
              have HFIN := Lib.hid hf; clear hf hLL
              have hlenL2 : L2.length + ((usesL xs).length + ((usesL ts).length + (usesL es).length)) ≤ 1099511627776 := by omega
              clear hlL
              have HX2 := Lib.hid hX2; clear hX2
              have HO2 := Lib.hid hO2; clear hO2
              have HG2 := Lib.hid hG2; clear hG2
              go_upto_block 4 with fail
              go_cut [0, 8] (fun s _ wx => ∃ v1, v1 = s ∧ wx.ownsRow base 86 2 v1 (L2 ++ usesL xs).length (cellsU (L2 ++ usesL xs)) ∧ Blk wx B #[.int .i64 k, .string nm, .slice a2 xs.length c2, .slice a1 cs.length c1, .slice a3 ts.length c3, .slice a4 es.length c4] 67 ∧ Gr vo.ownBlock v1.ownBlock W1 wx)
              case first =>
                go_wp2_with fail
                go_loopw [0, 8] (fun y x wr => ∃ (v2 : Value) (i : Nat), v2 = y ∧ x = .int .i64 i ∧ i ≤ xs.length ∧ wr.ownsRow base 86 2 v2 (L2 ++ usesL (xs.take i)).length (cellsU (L2 ++ usesL (xs.take i))) ∧ Blk wr B #[.int .i64 k, .string nm, .slice a2 xs.length c2, .slice a1 cs.length c1, .slice a3 ts.length c3, .slice a4 es.length c4] 67 ∧ Gr vo.ownBlock v2.ownBlock W1 wr) (fun _ x _ => xs.length - (intOf x).toNat)
                case atStart => exact ⟨v1b, 0, rfl, rfl, by omega, by rw [List.take_zero, usesL, List.append_nil]; exact HO2.out, HX2.out, HG2.out⟩
                case round =>
                  obtain ⟨v2, i, rfl, rfl, hi, hOr, hXr, hGr⟩ := hrel
                  clear HX2 HO2 HG2
                  have e3 : wr.cell? ⟨B, 2, none⟩ = some (.slice a2 xs.length c2) := hXr.cell 2
                  have HX := Lib.hid hXr; clear hXr
                  have HO := Lib.hid hOr; clear hOr
                  have HG := Lib.hid hGr; clear hGr
                  by_cases hlt2 : i < xs.length
                  · have hbi : (i : Int) + 1 ≤ 9223372036854775807 := by unfold maxLen at hcm2; omega
                    have hxl : ¬ xs.length = 0 := by omega
                    obtain ⟨b, o, rfl, hrow⟩ := HROW2.out.resolve_left hxl
                    have hold : Below w0.heap.size w0 wr := HWB.out.trans (HG.out.old HWB.out.size (fun g hg => Nat.le_trans hB0 (HOR.out g hg)))
                    obtain ⟨hty, u0, u1, u2, u3, m0, m1, m2, m3, hnd⟩ := SlIn.item4 rfl hrow i hlt2
                    have kk := keeps_below hold
                    have k0 := kk _ _ _ m0
                    have k1 := kk _ _ _ m1
                    have k2 := kk _ _ _ m2
                    have k3 := kk _ _ _ m3
                    have hsz : base ≤ wr.heap.size := by have := HG.out.size; have := HS1.out; omega
                    have hle := usesL_at_le hlt2
                    have HC := Lib.hid (HIH2.out i hlt2 [u0, u1, u2, u3] _ _ wr hty hnd hold hsz HO.out (by rw [List.length_append]; omega))
                    have HTK := Lib.hid (usesL_take hlt2)
                    clear m0 m1 m2 m3 hnd hty hold kk hrow
                    go_wp2_with fail
                    refine HC.out.mono ?_
                    rintro e w2 ⟨v3, rfl, hO3, hG3⟩
                    rw [List.append_assoc, ← HTK.out] at hO3
                    have hvr : v2.ownBlock ≠ some B := fun e => by
                      rcases HG.out.2 with h | h
                      · exact hvB (h.symm.trans e)
                      · have := h B e; have := HS1.out; omega
                    have hX3 := HX.out.gr hG3 hvr
                    have hG4 := HG.out.trans hG3
                    have HO3 := Lib.hid hO3; clear hO3
                    have HX3 := Lib.hid hX3; clear hX3
                    clear hG3
                    have HG4 := Lib.hid hG4; clear hG4
                    go_wp2_with fail
                    go_roundw
                    case rel => exact ⟨v3, i + 1, rfl, by go_num, by omega, HO3.out, HX3.out, HG4.out⟩
                    case measure => simp [intOf]; omega
                  · obtain rfl : i = xs.length := by omega
                    have h0 := HO.out
                    rw [List.take_length] at h0
                    have HO3 := Lib.hid h0; clear h0
                    go_wp2_with fail
                    go_meet
                    exact ⟨v2, rfl, HO3.out, HX.out, HG.out⟩
              case rest =>
                obtain ⟨v1c, rfl, hO2, hX2, hG2⟩ := hcut
                clear HX2 HO2 HG2
                obtain ⟨L3, hLL⟩ : ∃ l, L2 ++ usesL xs = l := ⟨_, rfl⟩
                rw [hLL] at hO2
                have hlL := congrArg List.length hLL
                rw [List.length_append] at hlL
                have hf := HFIN.out; clear HFIN
                rw [← List.append_assoc, hLL] at hf
                have HFIN := Lib.hid hf; clear hf hLL
                have hlenL3 : L3.length + ((usesL ts).length + (usesL es).length) ≤ 1099511627776 := by omega
                clear hlL
                have HX2 := Lib.hid hX2; clear hX2
                have HO2 := Lib.hid hO2; clear hO2
                have HG2 := Lib.hid hG2; clear hG2
                have j4 : wc.cell? ⟨B, 4, none⟩ = some (.slice a3 ts.length c3) := HX2.out.cell 4
                have hold : Below w0.heap.size w0 wc := HWB.out.trans (HG2.out.old HWB.out.size (fun g hg => Nat.le_trans hB0 (HOR.out g hg)))
                have hsz : base ≤ wc.heap.size := by have := HG2.out.size; have := HS1.out; omega
                have HC := Lib.hid (HT.out _ _ wc hold hsz HO2.out (by omega))
                clear hold hsz
                go_wp2_with fail
                refine HC.out.mono ?_
                rintro e w2 ⟨v3, rfl, hO3, hG3⟩
                have hvr : v1c.ownBlock ≠ some B := fun e => by
                  rcases HG2.out.2 with h | h
                  · exact hvB (h.symm.trans e)
                  · have := h B e; have := HS1.out; omega
                have hX3 := HX2.out.gr hG3 hvr
                have hG4 := HG2.out.trans hG3
                have j5 : w2.cell? ⟨B, 5, none⟩ = some (.slice a4 es.length c4) := hX3.cell 5
                have hold : Below w0.heap.size w0 w2 := HWB.out.trans (hG4.old HWB.out.size (fun g hg => Nat.le_trans hB0 (HOR.out g hg)))
                have hsz : base ≤ w2.heap.size := by have := hG4.size; have := HS1.out; omega
                have HC2 := Lib.hid (HE.out _ _ w2 hold hsz hO3 (by rw [List.length_append]; omega))
                have hf := HFIN.out; clear HFIN
                rw [← List.append_assoc] at hf
                rw [hf] at HC2
                clear hold hsz hO3 hX3 hf hG3 j4 HC HO2 HX2
                have HG4 := Lib.hid hG4; clear hG4
                go_wp2_with fail
                refine HC2.out.mono ?_
                rintro e w3 ⟨v4, rfl, hO5, hG5⟩
                rw [← HFN.out] at hO5
                have HO5 := Lib.hid hO5; clear hO5
                have HG5 := Lib.hid (HGO.out.trans (HG1.out.trans (HG4.out.trans hG5))); clear hG5
                go_wp2_with fail
                go_roundw
                case rel => exact ⟨v4, ii + 1, rfl, by go_num, by omega, HO5.out, HG5.out⟩
                case measure => simp [intOf]; omega
      · obtain rfl : ii = l.length := by omega
        have h0 := HOO.out
        rw [List.take_length, HPOST.out] at h0
        have HO3 := Lib.hid h0; clear h0
        go_wp2_with fail
        go_ret
        exact ⟨vo, rfl, HO3.out, HGO.out⟩
end Go.Proofs.Ytpildlaloclanaa

/-
  The document's put and Uses (gnomonref3's): proved is that put puts a name behind a list of one's own unless it is there, and that Uses tells all names in statements.
-/
namespace Go.Proofs.Ytpildlaloclanaa
open Go Go.RowKit

/-- A list of names with one more, unless it is there. -/
def putL (l : List ByteArray) (s : ByteArray) : List ByteArray := if l.any (fun x => x.toList == s.toList) then l else l ++ [s]
theorem putL_len (l : List ByteArray) (s : ByteArray) : (putL l s).length ≤ l.length + 1 := by
  unfold putL
  split
  · omega
  · simp
def cellsT (l : List ByteArray) : List Value := l.map Value.string
theorem cellsT_len (l : List ByteArray) : (cellsT l).length = l.length := List.length_map ..
def PutTo (w : World) (base : Nat) (v : Value) (L : List ByteArray) : Ending → World → Prop := fun e w' => ∃ v', e = .returned v' ∧ w'.ownsRow base 9 1 v' L.length (cellsT L) ∧ Gr v.ownBlock v'.ownBlock w w'
/-- What a list of names of one's own looks like. -/
theorem own_str {w : World} {base : Nat} {v : Value} {l : List ByteArray} (h : w.ownsRow base 9 1 v l.length (cellsT l)) : ∃ a c, v = .slice a l.length c ∧ l.length ≤ c ∧ (l.length = 0 ∨ ∃ g, a = some ⟨g, 0, none⟩ ∧ ∀ i (hi : i < l.length), w.cell? ⟨g, i, none⟩ = some (.string l[i])) := by
  by_cases h0 : l.length = 0
  · rcases h.2 with ⟨rfl, _⟩ | ⟨g, cap, cur, rfl, _, _, hn, _⟩
    · exact ⟨none, 0, by rw [h0], by omega, .inl h0⟩
    · exact ⟨_, cap, rfl, hn, .inl h0⟩
  · have hc := fun g hg => h.cells (g := g) hg
    rcases h.2 with ⟨_, h1⟩ | ⟨g, cap, cur, rfl, _, _, hn, _⟩
    · exact absurd h1 h0
    · refine ⟨_, cap, rfl, hn, .inr ⟨g, rfl, fun i hi => ?_⟩⟩
      have := hc g rfl i (.string l[i]) (by simp [cellsT, hi])
      rwa [add_none, Nat.zero_add] at this
theorem news_str (w : World) (s : ByteArray) (c : Nat) (hc : w.heap.size = c) : ∀ j u, ([.string s] : List Value)[j]? = some u → (w.alloc (.cells #[.string s] 9)).cell? ((⟨c, 0, none⟩ : Addr).add j) = some u := by
  rw [← hc]
  exact World.news_of_block (cs := #[.string s]) (t := 9) (fr := (0, 0)) (heap_alloc_new w _)
theorem str_one (s : ByteArray) : ∀ u ∈ ([.string s] : List Value), u.oneCell' = true := by
  intro u hu
  simp at hu
  subst hu
  rfl

set_option maxRecDepth 100000 in
set_option maxHeartbeats 4000000 in
theorem put_any (base : Nat) (l : List ByteArray) (s : ByteArray) (v : Value) (w : World) (hbw : base ≤ w.heap.size) (hown : w.ownsRow base 9 1 v l.length (cellsT l)) (hlen : l.length ≤ 1099511627776) :
    Calls Try.prog 34 #[v, .string s] w (PutTo w base v (putL l s)) := by
  obtain ⟨a, c, hv, hlc, hcells⟩ := own_str hown
  obtain ⟨i0, hi0, hz0, hz1, hz2⟩ := info_parts info_str
  have HI0 := Lib.hid hi0; clear hi0
  have HZ0 := Lib.hid hz0; clear hz0
  have HZ1 := Lib.hid hz1; clear hz1
  have HZ2 := Lib.hid hz2; clear hz2
  subst hv
  have HO := Lib.hid hown; clear hown
  have HCL := Lib.hid hcells; clear hcells
  obtain ⟨P, hP⟩ : ∃ P, putL l s = P := ⟨_, rfl⟩
  rw [hP]
  have HP := Lib.hid hP; clear hP
  go_enter Try.func34, Try.ntmps34
  go_wp2_with fail
  go_loopw [5] (fun x wr => ∃ i : Nat, x = .int .i64 i ∧ i ≤ l.length ∧ Hid ((l.take i).any (fun x => x.toList == s.toList) = false) ∧ w = wr) (fun x _ => l.length - (intOf x).toNat)
  case atStart => exact ⟨0, rfl, by omega, Lib.hid (by simp), rfl⟩
  case round =>
    obtain ⟨i, rfl, hi, hany, rfl⟩ := hrel
    by_cases hlt : i < l.length
    · have hbi : (i : Int) + 1 ≤ 9223372036854775807 := by omega
      have hxl : ¬ l.length = 0 := by omega
      obtain ⟨g, rfl, hcell⟩ := HCL.out.resolve_left hxl
      have hc0 := hcell i hlt
      have hst : (l.take (i + 1)).any (fun x => x.toList == s.toList) = ((l.take i).any (fun x => x.toList == s.toList) || (l[i].toList == s.toList)) := by
        rw [← List.take_append_getElem hlt, List.any_append]
        simp
      have hin : (l[i].toList == s.toList) = true → P = l := fun h => by
        rw [← HP.out]
        unfold putL
        rw [if_pos (List.any_eq_true.2 ⟨l[i], List.getElem_mem hlt, h⟩)]
      rw [hany.out, Bool.false_or] at hst
      clear hcell hany
      obtain ⟨X, hX⟩ : ∃ X, l[i] = X := ⟨_, rfl⟩
      rw [hX] at hc0 hst hin
      clear hX
      cases h1 : (X.toList == s.toList) with
      | true =>
        have e := Lib.hid (hin h1)
        clear hst hin
        go_wp2_with fail
        go_ret
        exact ⟨_, rfl, by rw [e.out]; exact HO.out, Gr.refl _ _⟩
      | false =>
        rw [h1] at hst
        have HST := Lib.hid hst
        clear hst hin
        go_wp2_with fail
        go_roundw
        case rel => exact ⟨i + 1, by go_num, by omega, HST, by first | rfl | trivial⟩
        case measure => simp [intOf]; omega
    · obtain rfl : i = l.length := by omega
      have hp : P = l ++ [s] := by
        rw [← HP.out]
        have := hany.out
        rw [List.take_length] at this
        unfold putL
        rw [if_neg (by rw [this]; simp)]
      have HPE := Lib.hid hp; clear hp hany
      have hl1 : l.length + 1 ≤ maxLen := by unfold maxLen; omega
      have HNW := Lib.hid (news_str w s _ rfl)
      have HSZ := Lib.hid (show base ≤ (w.alloc (.cells #[.string s] 9)).heap.size by rw [World.size_alloc]; omega)
      go_wp2_with (first | (at_builtin; (with_reducible refine wpList_append_lies _ rfl (.tmp 19) (.tmp 21) 31 rfl base 9 i0 _ 1 16 Try.underlying31 HI0.out HZ0.out HZ1.out HZ2.out rfl (by omega) (.slice a l.length c) l.length (cellsT l) rfl (HO.out.alloc _) ⟨_, 0, none⟩ 1 1 [.string s] rfl rfl HNW.out (str_one _) (by omega) hl1 (by omega) HSZ.out _ rfl ?_); (intro gg cap w4 hown4 hgrow hat hlt2)) | fail)
      go_ret
      exact ⟨_, rfl, by rw [HPE.out]; simpa [cellsT] using hown4, gr_grown ((Gr.refl _ w).alloc _) hgrow (own_new hat)⟩

/-- Uses: all names in the statements. -/
theorem uses_any (ds ss : List Nd) (v0 v1 : Value) (w : World) (hd : SlIn w .D ds v0) (hs : SlIn w .S ss v1) (hlen : (usesL ss).length ≤ 1099511627776) :
    Calls Try.prog 35 #[.agg #[v0, v1]] w (fun e w' => ∃ v', e = .returned v' ∧ w'.ownsRow w.heap.size 86 2 v' (usesL ss).length (cellsU (usesL ss)) ∧ Below w.heap.size w w') := by
  have hb0 : Below w.heap.size w (w.alloc (.cells #[v0, v1] 25)) := (Below.refl _ w).alloc (Nat.le_refl _) _
  have hC := stmtUses_any w w.heap.size (Nat.le_refl _) _ ss v1 [] (.slice none 0 0) (w.alloc (.cells #[v0, v1] 25)) (Nat.le_refl _) hs hb0 hb0.size (World.ownsRow_nil _ _ _ _) (by simpa using hlen)
  rw [List.nil_append] at hC
  obtain ⟨a0, c0, rfl, -⟩ := hd
  obtain ⟨a1, c1, rfl, -⟩ := hs
  obtain ⟨L, hL⟩ : ∃ L, usesL ss = L := ⟨_, rfl⟩
  rw [hL] at hC ⊢
  clear hL hlen
  have HC := Lib.hid hC; clear hC
  have HB0 := Lib.hid hb0; clear hb0
  go_enter Try.func35, Try.ntmps35
  go_wp2_with fail
  refine HC.out.mono ?_
  rintro e w1 ⟨v', rfl, hO, hG⟩
  have HOO := Lib.hid hO; clear hO
  have HG := Lib.hid (HB0.out.trans (hG.old HB0.out.size (fun g hg => by cases hg))); clear hG
  go_wp2_with fail
  go_ret
  exact ⟨v', rfl, HOO.out, HG.out⟩
end Go.Proofs.Ytpildlaloclanaa

/-
  The document's Names of a program (gnomonref3's): proved is what it tells: all names in order, each once, in a list of its own.
-/
namespace Go.Proofs.Ytpildlaloclanaa
open Go Go.RowKit

/-- The document's names: of the declarations, then of the statements. -/
def namesR (ds ss : List Nd) : List ByteArray := ((usesL ss).map Prod.fst).foldl putL ((ds.map ownNm).foldl putL [])
theorem foldl_len : ∀ (m l : List ByteArray), (m.foldl putL l).length ≤ l.length + m.length
  | [], l => by simp
  | x :: r, l => by
    have h := foldl_len r (putL l x)
    have := putL_len l x
    simp only [List.foldl_cons, List.length_cons]
    omega
theorem foldl_take {l m : List ByteArray} {i : Nat} (hi : i < m.length) : (m.take (i + 1)).foldl putL l = putL ((m.take i).foldl putL l) m[i] := by
  rw [← List.take_append_getElem hi, List.foldl_append]
  rfl
theorem own_ne {w : World} {b s n b' s' n' : Nat} {e e' : TypeId} {v v' : Value} {xs xs' : List Value} (h : w.ownsRow b e s v n xs) (h' : w.ownsRow b' e' s' v' n' xs') (hne : e ≠ e') : v.ownBlock = none ∨ v.ownBlock ≠ v'.ownBlock := by
  rcases h.2 with ⟨rfl, _⟩ | ⟨g, cap, cur, rfl, _, hg, _⟩
  · exact .inl rfl
  · right
    rcases h'.2 with ⟨rfl, _⟩ | ⟨g', cap', cur', rfl, _, hg', _⟩
    · simp [Value.ownBlock]
    · simp only [Value.ownBlock]
      intro e1
      obtain rfl : g = g' := by simpa using e1
      rw [hg] at hg'
      simp at hg'
      exact hne hg'.2
theorem own_use {w : World} {base : Nat} {v : Value} {l : List Us} (h : w.ownsRow base 86 2 v l.length (cellsU l)) : ∃ a c, v = .slice a l.length c ∧ l.length ≤ c ∧ (l.length = 0 ∨ ∃ g, a = some ⟨g, 0, none⟩ ∧ ∀ i (hi : i < l.length), w.cell? ⟨g, i * 2, none⟩ = some (.string l[i].1)) := by
  by_cases h0 : l.length = 0
  · rcases h.2 with ⟨rfl, _⟩ | ⟨g, cap, cur, rfl, _, _, hn, _⟩
    · exact ⟨none, 0, by rw [h0], by omega, .inl h0⟩
    · exact ⟨_, cap, rfl, hn, .inl h0⟩
  · have hc := fun g hg => h.cells (g := g) hg
    rcases h.2 with ⟨_, h1⟩ | ⟨g, cap, cur, rfl, _, _, hn, _⟩
    · exact absurd h1 h0
    · refine ⟨_, cap, rfl, hn, .inr ⟨g, rfl, fun i hi => ?_⟩⟩
      have hx : ∀ (l : List Us) (i : Nat) (hi : i < l.length), (cellsU l)[i * 2]? = some (.string l[i].1) := by
        intro l
        induction l with
        | nil => intro i hi; simp at hi
        | cons x r ih =>
          intro i hi
          cases i with
          | zero => rfl
          | succ j =>
            have := ih j (by simpa using hi)
            rw [show (j + 1) * 2 = j * 2 + 1 + 1 by omega]
            simpa [cellsU] using this
      have := hc g rfl (i * 2) _ (hx l i hi)
      rwa [add_none, Nat.zero_add] at this

set_option maxRecDepth 100000 in
set_option maxHeartbeats 8000000 in
theorem rnames_any (ds ss : List Nd) (v0 v1 : Value) (w : World) (hd : SlIn w .D ds v0) (hs : SlIn w .S ss v1) (hlen : ds.length + (usesL ss).length ≤ 1099511627776) :
    Calls Try.prog 15 #[.agg #[v0, v1]] w (fun e w' => ∃ v', e = .returned v' ∧ w'.ownsRow w.heap.size 9 1 v' (namesR ds ss).length (cellsT (namesR ds ss)) ∧ Below w.heap.size w w') := by
  have HU := Lib.hid (fun w1 (hb : Below w.heap.size w w1) => uses_any ds ss v0 v1 w1 (hd.keep (keeps_below hb)) (hs.keep (keeps_below hb)) (by omega))
  obtain ⟨a0, c0, rfl, hlc0, hcm1, hrow0⟩ := hd
  obtain ⟨a1, c1, rfl, -⟩ := hs
  have HROW1 := Lib.hid hrow0; clear hrow0
  obtain ⟨FIN, hFIN⟩ : ∃ l, namesR ds ss = l := ⟨_, rfl⟩
  rw [hFIN]
  unfold namesR at hFIN
  have HFIN := Lib.hid hFIN; clear hFIN
  obtain ⟨B, hBe⟩ : ∃ B, w.heap.size = B := ⟨_, rfl⟩
  obtain ⟨W1, hW1⟩ : ∃ W1, w.alloc (.cells #[.slice a0 ds.length c0, .slice a1 ss.length c1] 25) = W1 := ⟨_, rfl⟩
  have hX1 : Blk W1 B #[.slice a0 ds.length c0, .slice a1 ss.length c1] 25 := by rw [← hW1, ← hBe]; exact Blk.new w _ _
  have hS1 : W1.heap.size = B + 1 := by rw [← hW1, ← hBe, World.size_alloc]
  have hb1 : Below w.heap.size w W1 := by rw [← hW1]; exact (Below.refl _ w).alloc (Nat.le_refl _) _
  have HX1 := Lib.hid hX1; clear hX1
  have HS1 := Lib.hid hS1; clear hS1
  have HB1 := Lib.hid hb1; clear hb1
  have HW1 := Lib.hid hW1; clear hW1
  have HBE := Lib.hid hBe; clear hBe
  have HOS := Lib.hid (World.ownsRow_nil W1 (B + 1) 9 1)
  have HGS := Lib.hid (Gr.refl none W1)
  go_enter Try.func15, Try.ntmps15
  go_upto_block 0 with fail
  rw [HW1.out, HBE.out]
  clear HW1
  go_cut [3, 4] (fun s _ wx => ∃ v1, v1 = s ∧ wx.ownsRow (B + 1) 9 1 v1 ((ds.map ownNm).foldl putL []).length (cellsT ((ds.map ownNm).foldl putL [])) ∧ Blk wx B #[.slice a0 ds.length c0, .slice a1 ss.length c1] 25 ∧ Gr none v1.ownBlock W1 wx)
  case first =>
    go_wp2_with fail
    go_loopw [3, 4] (fun y x wr => ∃ (v2 : Value) (i : Nat), v2 = y ∧ x = .int .i64 i ∧ i ≤ ds.length ∧ wr.ownsRow (B + 1) 9 1 v2 (((ds.map ownNm).take i).foldl putL []).length (cellsT (((ds.map ownNm).take i).foldl putL [])) ∧ Blk wr B #[.slice a0 ds.length c0, .slice a1 ss.length c1] 25 ∧ Gr none v2.ownBlock W1 wr) (fun _ x _ => ds.length - (intOf x).toNat)
    case atStart => exact ⟨.slice none 0 0, 0, rfl, rfl, by omega, by rw [List.take_zero]; exact HOS.out, HX1.out, HGS.out⟩
    case round =>
      obtain ⟨v2, i, rfl, rfl, hi, hOr, hXr, hGr⟩ := hrel
      clear HX1 HOS HGS
      have e3 : wr.cell? ⟨B, 0, none⟩ = some (.slice a0 ds.length c0) := hXr.cell 0
      have HX := Lib.hid hXr; clear hXr
      have HO := Lib.hid hOr; clear hOr
      have HG := Lib.hid hGr; clear hGr
      by_cases hlt2 : i < ds.length
      · have hbi : (i : Int) + 1 ≤ 9223372036854775807 := by unfold maxLen at hcm1; omega
        have hxl : ¬ ds.length = 0 := by omega
        obtain ⟨b, o, rfl, hrow⟩ := HROW1.out.resolve_left hxl
        have hold : Below w.heap.size w wr := HB1.out.trans (HG.out.old HB1.out.size (fun g hg => by cases hg))
        obtain ⟨hty, u0, u1, m0, m1, hnd⟩ := SlIn.item2 rfl hrow i hlt2
        have kk := keeps_below hold
        have k0 := kk _ _ _ m0
        have htk := foldl_take (l := []) (m := ds.map ownNm) (i := i) (by simpa using hlt2)
        rw [List.getElem_map] at htk
        obtain ⟨X, hX⟩ : ∃ X, ds[i] = X := ⟨_, rfl⟩
        rw [hX] at hnd hty htk
        clear hX m0 m1 kk hold hrow
        obtain ⟨ty, k, n, nm, xs, cs, ts, es⟩ := X
        simp only [Nd.ty] at hty
        subst hty
        unfold NdIn at hnd
        obtain ⟨hz, -, -, -, vx, vc, vt, ve, hvs, -⟩ := hnd
        simp only [lay, List.cons.injEq, and_true] at hvs
        obtain ⟨rfl, rfl⟩ := hvs
        clear hz
        simp only [ownNm] at htk
        have hsz : B + 1 ≤ wr.heap.size := by have := HG.out.size; have := HS1.out; omega
        have hle := foldl_len ((ds.map ownNm).take i) []
        rw [List.length_take, List.length_map] at hle
        have HC := Lib.hid (put_any (B + 1) _ nm v2 wr hsz HO.out (by simp at hle; omega))
        have HTK := Lib.hid htk; clear htk hle
        have hvB : v2.ownBlock ≠ some B := fun e => by have := (HO.out.lt B e).1; omega
        go_wp2_with fail
        refine HC.out.mono ?_
        rintro e w2 ⟨v3, rfl, hO3, hG3⟩
        rw [← HTK.out] at hO3
        have hX3 := HX.out.gr hG3 hvB
        have hG4 := HG.out.trans hG3
        have HO3 := Lib.hid hO3; clear hO3
        have HX3 := Lib.hid hX3; clear hX3
        clear hG3
        have HG4 := Lib.hid hG4; clear hG4
        go_wp2_with fail
        go_roundw
        case rel => exact ⟨v3, i + 1, rfl, by go_num, by omega, HO3.out, HX3.out, HG4.out⟩
        case measure => simp [intOf]; omega
      · obtain rfl : i = ds.length := by omega
        have h0 := HO.out
        rw [List.take_of_length_le (by simp)] at h0
        have HO3 := Lib.hid h0; clear h0
        go_wp2_with fail
        go_meet
        exact ⟨v2, rfl, HO3.out, HX.out, HG.out⟩
  case rest =>
    obtain ⟨v1, rfl, hO2, hX2, hG2⟩ := hcut
    clear HX1 HOS HGS HROW1
    obtain ⟨L1, hL1⟩ : ∃ l, (ds.map ownNm).foldl putL [] = l := ⟨_, rfl⟩
    have hll : L1.length ≤ ds.length := by have := foldl_len (ds.map ownNm) []; rw [hL1] at this; simpa using this
    rw [hL1] at hO2
    have hf := HFIN.out; clear HFIN
    rw [hL1] at hf
    have HFIN := Lib.hid hf; clear hf hL1
    have e0 : wc.cell? ⟨B, 0, none⟩ = some (.slice a0 ds.length c0) := hX2.cell 0
    have e1 : wc.cell? ⟨B, 1, none⟩ = some (.slice a1 ss.length c1) := hX2.cell 1
    have hb2 : Below w.heap.size w wc := HB1.out.trans (hG2.old HB1.out.size (fun g hg => by cases hg))
    have hc := HU.out wc hb2
    obtain ⟨us, hus⟩ : ∃ u, usesL ss = u := ⟨_, rfl⟩
    rw [hus] at hc hlen
    have hf := HFIN.out; clear HFIN
    rw [hus] at hf
    have HFIN := Lib.hid hf; clear hf hus
    have HC := Lib.hid hc; clear hc HU
    have HO2 := Lib.hid hO2; clear hO2
    have HG2 := Lib.hid hG2; clear hG2
    have HB2 := Lib.hid hb2; clear hb2
    clear hX2
    go_upto_block 2 with (first | (go_at_call 35; (with_reducible refine HC.out.mono ?_); rintro e w3 ⟨vu, rfl, hOU, hbU⟩) | fail)
    have hO3 := ownsRow_below HO2.out hbU
    have hb3 : Below w.heap.size w w3 := HB2.out.trans (hbU.mono HB2.out.size)
    have hsz3 : B + 1 ≤ w3.heap.size := by have := HG2.out.size; have := hbU.size; have := HS1.out; omega
    obtain ⟨au, cu, hvu, hlcu, -⟩ := own_use hOU
    subst hvu
    have HO3 := Lib.hid hO3; clear hO3
    have HB3 := Lib.hid hb3; clear hb3
    have HOU := Lib.hid hOU; clear hOU hbU
    clear e0 e1 HO2 HG2 HB2 HC HB1
    go_wp2_with fail
    go_loopw [3, 6] (fun y x wr => ∃ (v2 : Value) (i : Nat), v2 = y ∧ x = .int .i64 i ∧ i ≤ us.length ∧ wr.ownsRow (B + 1) 9 1 v2 (((us.map Prod.fst).take i).foldl putL L1).length (cellsT (((us.map Prod.fst).take i).foldl putL L1)) ∧ wr.ownsRow wc.heap.size 86 2 (.slice au us.length cu) us.length (cellsU us) ∧ Gr v1.ownBlock v2.ownBlock w3 wr) (fun _ x _ => us.length - (intOf x).toNat)
    case atStart => exact ⟨v1, 0, rfl, rfl, by omega, by rw [List.take_zero]; exact HO3.out, HOU.out, Gr.refl _ _⟩
    case round =>
      obtain ⟨v2, i, rfl, rfl, hi, hOr, hUr, hGr⟩ := hrel
      have HO := Lib.hid hOr; clear hOr
      have HU := Lib.hid hUr; clear hUr
      have HG := Lib.hid hGr; clear hGr
      by_cases hlt2 : i < us.length
      · have hbi : (i : Int) + 1 ≤ 9223372036854775807 := by omega
        have hxl : ¬ us.length = 0 := by omega
        obtain ⟨a', c', he, -, hcells⟩ := own_use HU.out
        simp only [Value.slice.injEq] at he
        obtain ⟨rfl, -, rfl⟩ := he
        obtain ⟨g, rfl, hcell⟩ := hcells.resolve_left hxl
        have k0 := hcell i hlt2
        have htk := foldl_take (l := L1) (m := us.map Prod.fst) (i := i) (by simpa using hlt2)
        rw [List.getElem_map] at htk
        obtain ⟨nm, hnm⟩ : ∃ nm, us[i].1 = nm := ⟨_, rfl⟩
        rw [hnm] at htk k0
        clear hnm hcell
        have hsz : B + 1 ≤ wr.heap.size := by have := HG.out.size; omega
        have hle := foldl_len ((us.map Prod.fst).take i) L1
        rw [List.length_take, List.length_map] at hle
        have HC := Lib.hid (put_any (B + 1) _ nm v2 wr hsz HO.out (by omega))
        have HTK := Lib.hid htk; clear htk hle
        have hne := Lib.hid (own_ne HU.out HO.out (by decide))
        go_wp2_with fail
        refine HC.out.mono ?_
        rintro e w4 ⟨v3, rfl, hO4, hG4⟩
        rw [← HTK.out] at hO4
        have hU4 := HU.out.kept hG4.1 hne.out
        have hG5 := HG.out.trans hG4
        have HO4 := Lib.hid hO4; clear hO4
        have HU4 := Lib.hid hU4; clear hU4
        clear hG4
        have HG5 := Lib.hid hG5; clear hG5
        go_wp2_with fail
        go_roundw
        case rel => exact ⟨v3, i + 1, rfl, by go_num, by omega, HO4.out, HU4.out, HG5.out⟩
        case measure => simp [intOf]; omega
      · obtain rfl : i = us.length := by omega
        have h0 := HO.out
        rw [List.take_of_length_le (by simp), HFIN.out] at h0
        have hb4 := HB3.out.trans (HG.out.old HB3.out.size (fun g hg => by have := (HO3.out.lt g hg).1; have := HBE.out; omega))
        have h1 := h0.mono (base' := w.heap.size) (by have := HBE.out; omega)
        have HO4 := Lib.hid h1; clear h0 h1
        have HB4 := Lib.hid hb4; clear hb4
        go_wp2_with fail
        go_ret
        exact ⟨v2, rfl, HO4.out, HB4.out⟩
end Go.Proofs.Ytpildlaloclanaa

/-
  The project's Names of a program (tree's): proved is what it tells: the names of all nodes in order, each once, in a list of its own, or the error.
-/
namespace Go.Proofs.Ytpildlaloclanaa
open Go Go.RowKit Go.Maps

/-- The project's names: of the nodes that must have one. -/
def nmsOf (l : List Nd) : List ByteArray := (l.filter mustN).map ownNm
def namesP (l : List Nd) : List ByteArray := (nmsOf l).foldl putL []
theorem nmsOf_app (l m : List Nd) : nmsOf (l ++ m) = nmsOf l ++ nmsOf m := by simp [nmsOf]
theorem namesP_take {l : List Nd} {i : Nat} (hi : i < l.length) : namesP (l.take (i + 1)) = if mustN l[i] then putL (namesP (l.take i)) (ownNm l[i]) else namesP (l.take i) := by
  unfold namesP
  rw [← List.take_append_getElem hi, nmsOf_app, List.foldl_append]
  cases h : mustN l[i] <;> simp [nmsOf, h]
theorem namesP_len (l : List Nd) (i : Nat) : (namesP (l.take i)).length ≤ i := by
  have h := foldl_len (nmsOf (l.take i)) []
  have h2 : (nmsOf (l.take i)).length ≤ (l.take i).length := by unfold nmsOf; rw [List.length_map]; exact List.length_filter_le ..
  rw [List.length_take] at h2
  unfold namesP
  simp at h
  omega
def keyS (s : ByteArray) : Lit := .string s.data.toList
/-- The names that were met, as a set. -/
def metD (l : List ByteArray) : DataW Unit := setOf (.agg []) (l.map keyS)
theorem has_metD (l : List ByteArray) (s : ByteArray) : Maps.has (metD l) (keyS s) = l.any (fun x => x.toList == s.toList) := by
  unfold metD
  rw [has_setOf _ _ _ (fun x hx => by obtain ⟨y, _, rfl⟩ := List.mem_map.1 hx; exact True.intro), List.any_map]
  congr 1
  funext x
  simp [keyS, Lit.sameKey, ByteArray.toList_eq]
theorem metD_snoc (l : List ByteArray) (s : ByteArray) : metD (l ++ [s]) = (metD l).put (keyS s) (.agg []) := by
  unfold metD
  rw [List.map_append]
  exact setOf_snoc _ _ _
theorem nodes_named {w : World} {x : Nd} {vs : List Value} (h : NdIn w x vs) : (ownNm x).size ≤ maxLen := by
  obtain ⟨ty, k, n, nm, xs, cs, ts, es⟩ := x
  unfold NdIn at h
  obtain ⟨-, -, -, h4, -⟩ := h
  cases ty <;> first | exact h4 | exact Nat.zero_le _
theorem nameB_size {s : ByteArray} (h : nameB s = true) : s.size ≤ 128 := by
  unfold nameB at h
  split at h
  · rename_i N hN
    have h2 := nmG_size s s.size 0 0 N (by omega) hN (Nat.zero_le _)
    simp at h
    omega
  · cases h
theorem fault_names {t : Tr} (h : faultT t = 0) : ∀ x ∈ t.l, mustN x = true → (ownNm x).size ≤ 128 := by
  unfold faultT at h
  split at h
  · omega
  · split at h
    · omega
    · split at h
      · omega
      · rename_i hn
        intro x hx hm
        refine nameB_size ?_
        cases hb : nameB (ownNm x) with
        | true => rfl
        | false =>
          exact absurd (List.any_eq_true.2 ⟨x, hx, by unfold namelessB; rw [hm, hb]; rfl⟩) hn
theorem law9 : Keyed Try.prog 9 := string_keyed (by kernel_rfl)
theorem zeroU (w : World) : (zeroValue 79).run Try.prog w = .ok (.agg #[]) w := by kernel_rfl
theorem clone_any (s : ByteArray) (w : World) (hs : s.size ≤ 65536) : Calls Try.prog 33 #[.string s] w fun e w' => e = .returned (.string s) ∧ Below w.heap.size w w' := by
  go_enter Try.func33, Try.ntmps33
  go_wp2_with (go_at_call 61; refine (Try.stringslite_Clone _ _ (by omega)).mono ?_; rintro e w' ⟨rfl, hb⟩)
  go_ret
  exact ⟨rfl, hb⟩
/-- What Names tells. -/
def NamesTo (w : World) (f : Int) (L : List ByteArray) : Ending → World → Prop := fun e w' => ∃ v', e = .returned (.tuple #[v', .int .i64 f]) ∧ w'.ownsRow w.heap.size 9 1 v' L.length (cellsT L) ∧ Below w.heap.size w w'
theorem grown_below {w w' : World} (hb : Below w.heap.size w w') : w.grownBy w' none := ⟨hb.os, hb.tape, hb.output, hb.size, fun k hk _ => hb.block k hk⟩
theorem below_grown {B : Nat} {a w w' : World} {row : Option Nat} (h : Below B a w) (hB : B ≤ w.heap.size) (hg : w.grownBy w' row) (hr : ∀ r, row = some r → B ≤ r) : Below B a w' :=
  h.trans ⟨hg.os, hg.tape, hg.output, hg.size, fun k hk => hg.block k (by omega) (fun e => by have := hr k e.symm; omega)⟩

set_option maxRecDepth 100000 in
set_option maxHeartbeats 8000000 in
theorem tnames_any (ds ss : List Nd) (v0 v1 : Value) (w : World) (hd : SlIn w .D ds v0) (hs : SlIn w .S ss v1) :
    Calls Try.prog 11 #[.agg #[v0, v1]] w (NamesTo w (faultT (progT ds ss)) (if faultT (progT ds ss) = 0 then namesP (progT ds ss).l else [])) := by
  have hlen := (progT_ok ds ss).1
  have hb0 : Below w.heap.size w (w.alloc (.cells #[v0, v1] 25)) := (Below.refl _ w).alloc (Nat.le_refl _) _
  have hT := through_any ds ss v0 v1 (w.alloc (.cells #[v0, v1] 25)) (hd.keep (keeps_below hb0)) (hs.keep (keeps_below hb0))
  obtain ⟨Q, hQ⟩ : ∃ Q, progT ds ss = Q := ⟨_, rfl⟩
  rw [hQ] at hT hlen ⊢
  clear hQ
  have hfn := fault_names (t := Q)
  obtain ⟨FT, hFT⟩ : ∃ FT, faultT Q = FT := ⟨_, rfl⟩
  rw [hFT] at hfn ⊢
  have HFT := Lib.hid hFT; clear hFT
  obtain ⟨PST, hPST⟩ : ∃ l, (if FT = 0 then namesP Q.l else []) = l := ⟨_, rfl⟩
  rw [hPST]
  have HPST := Lib.hid hPST; clear hPST
  obtain ⟨a0, c0, rfl, -⟩ := hd
  obtain ⟨a1, c1, rfl, -⟩ := hs
  obtain ⟨W0, hW0⟩ : ∃ W0, w.alloc (.cells #[.slice a0 ds.length c0, .slice a1 ss.length c1] 25) = W0 := ⟨_, rfl⟩
  rw [hW0] at hT hb0
  have e0 : W0.cell? ⟨w.heap.size, 0, none⟩ = some (.slice a0 ds.length c0) := by rw [← hW0]; exact (Blk.new w _ _).cell 0
  have e1 : W0.cell? ⟨w.heap.size, 1, none⟩ = some (.slice a1 ss.length c1) := by rw [← hW0]; exact (Blk.new w _ _).cell 1
  have HT := Lib.hid hT; clear hT
  have HB0 := Lib.hid hb0; clear hb0
  have HW0 := Lib.hid hW0; clear hW0
  have HFN := Lib.hid hfn; clear hfn
  have hmm := @run_makeMap Try.prog
  go_enter Try.func11, Try.ntmps11
  go_upto_region 1 with fail
  rw [HW0.out]
  clear HW0
  go_upto_region 2 with (first | (go_at_call 30; (with_reducible refine HT.out.mono ?_); rintro e w1 ⟨v, rfl, hl, hb1⟩; obtain ⟨a, b, c, rfl, hl⟩ := hl; have HL := Lib.hid hl; clear hl; have HB1 := Lib.hid (HB0.out.trans (hb1.mono HB0.out.size)); clear hb1) | fail)
  have hX : Blk (w1.alloc (.cells #[.slice a Q.l.length c, .int .i64 Q.dep, .int .i64 Q.lim] 71)) w1.heap.size #[.slice a Q.l.length c, .int .i64 Q.dep, .int .i64 Q.lim] 71 := Blk.new w1 _ _
  have hb2 : Below w.heap.size w (w1.alloc (.cells #[.slice a Q.l.length c, .int .i64 Q.dep, .int .i64 Q.lim] 71)) := HB1.out.alloc HB1.out.size _
  have hl2 : ListOf W0 (w1.alloc (.cells #[.slice a Q.l.length c, .int .i64 Q.dep, .int .i64 Q.lim] 71)) Q.l (.slice a Q.l.length c) := ListOf.keep ⟨a, b, c, rfl, HL.out⟩ ((Below.refl _ w1).alloc (Nat.le_refl _) _)
  obtain ⟨W2, hW2⟩ : ∃ W2, w1.alloc (.cells #[.slice a Q.l.length c, .int .i64 Q.dep, .int .i64 Q.lim] 71) = W2 := ⟨_, rfl⟩
  rw [hW2] at hX hb2 hl2 ⊢
  have HF := Lib.hid (fault_list W0 W2 w1.heap.size Q _ hX hl2 hlen)
  rw [HFT.out] at HF
  clear HFT HL HB1 HT HB0 e0 e1 hW2
  have HB2 := Lib.hid hb2; clear hb2
  by_cases hz : FT = 0
  · subst hz
    have hfin := HPST.out; clear HPST
    rw [if_pos rfl] at hfin
    have HFIN := Lib.hid hfin; clear hfin
    have hll := HFN.out rfl
    clear HFN
    have HNM := Lib.hid hll; clear hll
    have HLL := Lib.hid hl2; clear hl2
    obtain ⟨i0, hi0, hz0, hz1, hz2⟩ := info_parts info_str
    have HI0 := Lib.hid hi0; clear hi0
    have HZ0 := Lib.hid hz0; clear hz0
    have HZ1 := Lib.hid hz1; clear hz1
    have HZ2 := Lib.hid hz2; clear hz2
    obtain ⟨B1, hB1⟩ : ∃ B, w1.heap.size = B := ⟨_, rfl⟩
    rw [hB1] at hX HF ⊢
    clear hB1
    go_upto_block 0 with (first | (go_at_call 31; (with_reducible refine HF.out.mono ?_); rintro e w3 ⟨rfl, hb3⟩; have hX3 := (hX.below hb3 hX.lt); have q0 := hX3.cell 0; have q1 := (hX3.alloc (.map #[] 0)).cell 0; simp at q0 q1; have HL3 := Lib.hid (HLL.out.keep hb3); have HB3 := Lib.hid (HB2.out.trans (hb3.mono HB2.out.size)); clear hb3) | fail)
    have hbM : Below w3.heap.size w3 (w3.alloc (.map #[] 0)) := (Below.refl _ _).alloc (Nat.le_refl _) _
    have hmap := World.ownsMap_made (H := Unit) w3 Try.prog 9 unitElem
    have hms : w3.heap.size + 1 ≤ (w3.alloc (.map #[] 0)).heap.size := by simp
    obtain ⟨WM, hWM⟩ : ∃ W, w3.alloc (.map #[] 0) = W := ⟨_, rfl⟩
    rw [hWM] at hbM hmap hms ⊢
    obtain ⟨M, hM⟩ : ∃ M, w3.heap.size = M := ⟨_, rfl⟩
    rw [hM] at hbM hmap hms ⊢
    have HBM := Lib.hid hbM; clear hbM
    have HM := Lib.hid hmap; clear hmap
    have HMS := Lib.hid hms; clear hms
    have HME := Lib.hid hM; clear hM
    clear hWM q0 q1 hX3 HLL HF hX hmm
    have HBW := Lib.hid HB3.out.size
    go_wp2_with fail
    go_loopw [6, 24] (fun y x wr => ∃ (v2 : Value) (i : Nat), v2 = y ∧ x = .int .i64 i ∧ i ≤ Q.l.length ∧ wr.ownsRow (M + 1) 9 1 v2 (namesP (Q.l.take i)).length (cellsT (namesP (Q.l.take i))) ∧ wr.ownsMap Try.prog 9 (unitElem (H := Unit)) M i (metD (namesP (Q.l.take i))) ∧ Below M w3 wr ∧ M + 1 ≤ wr.heap.size) (fun _ x _ => Q.l.length - (intOf x).toNat)
    case atStart => exact ⟨.slice none 0 0, 0, rfl, rfl, by omega, by rw [List.take_zero]; exact World.ownsRow_nil _ _ _ _, HM.out, HBM.out, HMS.out⟩
    case round =>
      obtain ⟨v2, i, rfl, rfl, hi, hOr, hMr, hBr, hSr⟩ := hrel
      clear HM HBM HMS
      have HO := Lib.hid hOr; clear hOr
      have HM := Lib.hid hMr; clear hMr
      have HBM := Lib.hid hBr; clear hBr
      have HMS := Lib.hid hSr
      have hms : M ≤ wr.heap.size := by omega
      clear hSr
      by_cases hlt : i < Q.l.length
      · have hbi : (i : Int) + 1 ≤ 9223372036854775807 := by omega
        have hxl : ¬ Q.l.length = 0 := by omega
        obtain ⟨a', b', c', he, hl0⟩ := HL3.out
        simp only [Value.slice.injEq] at he
        obtain ⟨rfl, -, rfl⟩ := he
        obtain ⟨rfl, hcells, -⟩ := hl0.resolve_left hxl
        obtain ⟨vs, hcell, hnd⟩ := hcells i hlt
        have hbl0 : b' < w3.heap.size := World.block_lt_of_cell? w3 ⟨b', _, none⟩ hcell
        have hbl : b' < M := by have := HME.out; omega
        have k0 := (HBM.out.cell (p := ⟨b', 0 + i, none⟩) hbl).trans hcell
        rw [Nat.zero_add] at k0
        have htk := namesP_take hlt
        have hmn := HNM.out Q.l[i] (List.getElem_mem hlt)
        have hle := namesP_len Q.l i
        have hnmx := nodes_named hnd
        obtain ⟨X, hX⟩ : ∃ X, Q.l[i] = X := ⟨_, rfl⟩
        rw [hX] at hnd htk hmn k0 hnmx
        have hc := treename_any X vs W0 wr hnd
        obtain ⟨nm, hnme⟩ : ∃ nm, ownNm X = nm := ⟨_, rfl⟩
        obtain ⟨mb, hmb⟩ : ∃ mb, mustN X = mb := ⟨_, rfl⟩
        obtain ⟨NV, hNV⟩ : ∃ V, nodeV X.ty vs = V := ⟨_, rfl⟩
        rw [hnme] at hc htk hmn hnmx
        rw [hmb] at hc htk hmn
        rw [hNV] at hc k0
        obtain ⟨L, hL⟩ : ∃ L, namesP (Q.l.take i) = L := ⟨_, rfl⟩
        have ho := HO.out; clear HO
        have hm := HM.out; clear HM
        rw [hL] at ho hm htk hle
        have HO := Lib.hid ho; clear ho
        have hvM : v2.ownBlock ≠ some M := fun e => by have := (HO.out.lt M e).1; omega
        have hag0 := has_metD L nm
        obtain ⟨ag, hage⟩ : ∃ ag, L.any (fun x => x.toList == nm.toList) = ag := ⟨_, rfl⟩
        have hput : putL L nm = if ag then L else L ++ [nm] := by unfold putL; rw [hage]
        rw [hage] at hag0
        have hsn := metD_snoc L nm
        obtain ⟨D, hD⟩ : ∃ D, metD L = D := ⟨_, rfl⟩
        rw [hD] at hag0 hsn hm
        have hkey : keyOf Try.prog 9 (.string nm) = some (keyS nm) := WideMaps.keyOf_string_mk (by kernel_rfl) hnmx
        obtain ⟨K0, hK0⟩ : ∃ k, keyS nm = k := ⟨_, rfl⟩
        rw [hK0] at hag0 hsn hkey
        rw [hput] at htk
        have HM := Lib.hid hm; clear hm
        have HKEY := Lib.hid hkey; clear hkey
        have HC := Lib.hid hc; clear hc
        have HTK := Lib.hid htk; clear htk
        have HDE := Lib.hid hD; clear hD
        have HSN := Lib.hid hsn; clear hsn
        have HMN := Lib.hid hmn; clear hmn
        have hl1 : L.length + 1 ≤ maxLen := by unfold maxLen; omega
        clear hX hnd hnme hmb hNV hL hage hput hK0 hcell hcells hl0 hnmx hbl hbl0
        cases mb with
        | false =>
          have hti := HTK.out
          simp only [Bool.false_eq_true, if_false] at hti
          have HTI := Lib.hid hti; clear hti HTK HSN HMN
          go_wp2_with (first | (go_at_call 32; (with_reducible refine HC.out.mono ?_); rintro e w4 ⟨rfl, hb4⟩; have HM4 := Lib.hid (HM.out.kept (row := none) (grown_below hb4) (by simp)); have HO4 := Lib.hid (ownsRow_below HO.out hb4); have HB4 := Lib.hid (HBM.out.trans (hb4.mono hms)); have HS4 := Lib.hid (Nat.le_trans HMS.out hb4.size); clear hb4) | (at_lookup; (refine wpList_lookup_own_unit _ rfl _ _ 74 rfl 9 79 law9 Try.underlying74 (zeroU _) M i D rfl HM4.out _ _ rfl HKEY.out ?_)) | fail)
          go_roundw
          case rel => exact ⟨v2, i + 1, rfl, by go_num, by omega, by rw [HTI.out]; exact HO4.out.alloc _, by rw [HTI.out, HDE.out]; exact (HM4.out.alloc _).mono (by omega), HB4.out.alloc (by have := HS4.out; omega) _, by have := HS4.out; simp; omega⟩
          case measure => simp [intOf]; omega
        | true =>
          cases ag with
          | true =>
            have hti := HTK.out
            simp only [if_true] at hti
            have HTI := Lib.hid hti; clear hti HTK HSN HMN
            go_wp2_with (first | (go_at_call 32; (with_reducible refine HC.out.mono ?_); rintro e w4 ⟨rfl, hb4⟩; have HM4 := Lib.hid (HM.out.kept (row := none) (grown_below hb4) (by simp)); have HO4 := Lib.hid (ownsRow_below HO.out hb4); have HB4 := Lib.hid (HBM.out.trans (hb4.mono hms)); have HS4 := Lib.hid (Nat.le_trans HMS.out hb4.size); clear hb4) | (at_lookup; (refine wpList_lookup_own_unit _ rfl _ _ 74 rfl 9 79 law9 Try.underlying74 (zeroU _) M i D rfl HM4.out _ _ rfl HKEY.out ?_)) | fail)
            go_roundw
            case rel => exact ⟨v2, i + 1, rfl, by go_num, by omega, by rw [HTI.out]; exact HO4.out.alloc _, by rw [HTI.out, HDE.out]; exact (HM4.out.alloc _).mono (by omega), HB4.out.alloc (by have := HS4.out; omega) _, by have := HS4.out; simp; omega⟩
            case measure => simp [intOf]; omega
          | false =>
            have hti := HTK.out
            simp only [if_true, Bool.false_eq_true, if_false] at hti
            have HTI := Lib.hid hti; clear hti HTK
            have hnm : nm.size ≤ 65536 := by have := HMN.out rfl; omega
            clear HMN
            go_wp2_with (first | (go_at_call 32; (with_reducible refine HC.out.mono ?_); rintro e w4 ⟨rfl, hb4⟩; have HM4 := Lib.hid (HM.out.kept (row := none) (grown_below hb4) (by simp)); have HO4 := Lib.hid (ownsRow_below HO.out hb4); have HB4 := Lib.hid (HBM.out.trans (hb4.mono hms)); have HS4 := Lib.hid (Nat.le_trans HMS.out hb4.size); clear hb4) | (at_lookup; (refine wpList_lookup_own_unit _ rfl _ _ 74 rfl 9 79 law9 Try.underlying74 (zeroU _) M i D rfl HM4.out _ _ rfl HKEY.out ?_)) | (at_mapUpdate; (refine wpList_mapUpdate_own _ rfl _ _ _ 74 rfl 9 79 law9 Try.underlying74 (unitElem (H := Unit)) M i D rfl (HM4.out.alloc _) (by unfold maxLen; omega) _ _ _ rfl rfl HKEY.out _ [] unitElem_mk ?_); (intro w5 hown5 hgrow5; have HM5 := Lib.hid hown5; have hs5 : M + 1 ≤ w5.heap.size := Nat.le_trans (Nat.le_trans HS4.out (by simp)) hgrow5.size; have HO5 := Lib.hid ((HO4.out.alloc (.cells #[] 79)).kept hgrow5 (Or.inr hvM)); have HB5 := Lib.hid (below_grown (HB4.out.alloc (by have := HS4.out; omega) _) (by have := HS4.out; simp; omega) hgrow5 (fun r hr => by cases hr; exact Nat.le_refl _)); have HS5 := Lib.hid hs5; clear hown5 hgrow5 hs5)) | (go_at_call 33; (with_reducible refine (clone_any _ _ hnm).mono ?_); rintro e w6 ⟨rfl, hb6⟩; have HM6 := Lib.hid (HM5.out.kept (row := none) (grown_below hb6) (by simp)); have HO6 := Lib.hid (ownsRow_below HO5.out hb6); have HB6 := Lib.hid (HB5.out.trans (hb6.mono (by have := HS5.out; omega))); have hs6 : M + 1 ≤ w6.heap.size := Nat.le_trans HS5.out hb6.size; have HSZ := Lib.hid (show M + 1 ≤ (w6.alloc (.cells #[.string nm] 9)).heap.size by simp; omega); have HNW := Lib.hid (news_str w6 nm _ rfl); clear hb6) | (at_builtin; (with_reducible refine wpList_append_lies _ rfl (.tmp 47) (.tmp 50) 31 rfl (M + 1) 9 i0 _ 1 16 Try.underlying31 HI0.out HZ0.out HZ1.out HZ2.out rfl (by omega) v2 L.length (cellsT L) rfl (HO6.out.alloc _) ⟨_, 0, none⟩ 1 1 [.string nm] rfl rfl HNW.out (str_one _) (by omega) hl1 (by omega) HSZ.out _ rfl ?_); (intro gg cap w7 hown7 hgrow7 hat hlt7)) | fail)
            have hM7 := (HM6.out.alloc (.cells #[.string nm] 9)).kept hgrow7 (fun e => hvM e.symm)
            have hB7 := below_grown (HB6.out.alloc (by omega) (.cells #[.string nm] 9)) (by simp; omega) hgrow7 (fun r hr => by have := (HO6.out.lt r hr).1; omega)
            have HM7 := Lib.hid hM7; clear hM7
            have HB7 := Lib.hid hB7; clear hB7
            have HS7 := Lib.hid (Nat.le_trans HSZ.out hgrow7.size)
            have HO7 := Lib.hid hown7
            clear hgrow7 hown7 hat
            go_roundw
            case rel => exact ⟨_, i + 1, rfl, by go_num, by omega, by rw [HTI.out]; simpa [cellsT] using HO7.out, by rw [HTI.out, HSN.out]; exact HM7.out, HB7.out, HS7.out⟩
            case measure => simp [intOf]; omega
      · obtain rfl : i = Q.l.length := by omega
        have h0 := HO.out
        rw [List.take_length, HFIN.out] at h0
        have h1 := h0.mono (base' := w.heap.size) (by have := HBW.out; have := HME.out; omega)
        have HO7 := Lib.hid h1; clear h0 h1
        have hb7 : Below w.heap.size w wr := HB3.out.trans (HBM.out.mono (by have := HBW.out; have := HME.out; omega))
        have HB7 := Lib.hid hb7; clear hb7
        go_wp2_with fail
        go_ret2
        exact ⟨v2, rfl, HO7.out, HB7.out⟩
  · have hz2 : (FT != 0) = true := by simpa using hz
    have hfin := HPST.out; clear HPST
    rw [if_neg hz] at hfin
    have HFIN := Lib.hid hfin; clear hfin
    clear hX
    go_wp2_with (first | (go_at_call 31; (with_reducible refine HF.out.mono ?_); rintro e w3 ⟨rfl, hb3⟩) | fail)
    go_ret2
    exact ⟨_, rfl, by rw [← HFIN.out]; exact World.ownsRow_nil _ _ _ _, HB2.out.trans (hb3.mono HB2.out.size)⟩
end Go.Proofs.Ytpildlaloclanaa

/-
  Two lists of texts held against one another (gnomonhelp's Texts): proved is that it answers whether they are the same; and plain: the names of both sides are the same.
-/
namespace Go.Proofs.Ytpildlaloclanaa
open Go Go.RowKit

/-- Two lists of texts are the same. -/
def sameT : List ByteArray → List ByteArray → Bool
  | [], [] => true
  | x :: r, y :: s => (x.toList == y.toList) && sameT r s
  | [], _ :: _ => false
  | _ :: _, [] => false
theorem sameT_refl : ∀ l : List ByteArray, sameT l l = true
  | [] => rfl
  | x :: r => by simp [sameT, sameT_refl r]
theorem sameT_len : ∀ {l m : List ByteArray}, sameT l m = true → l.length = m.length
  | [], [], _ => rfl
  | x :: r, y :: s, h => by
    simp only [sameT, Bool.and_eq_true] at h
    simpa using sameT_len h.2
theorem sameT_drop {l m : List ByteArray} {i : Nat} (h : i < l.length) (h2 : i < m.length) : sameT (l.drop i) (m.drop i) = ((l[i].toList == m[i].toList) && sameT (l.drop (i + 1)) (m.drop (i + 1))) := by
  rw [List.drop_eq_getElem_cons h, List.drop_eq_getElem_cons h2, sameT]
theorem sameT_end {l m : List ByteArray} (h : l.length = m.length) : sameT (l.drop l.length) (m.drop l.length) = true := by
  rw [List.drop_length, h, List.drop_length, sameT]
/-- A list of texts lies at a slice. -/
def StrsIn (w : World) (l : List ByteArray) (v : Value) : Prop := ∃ a c, v = .slice a l.length c ∧ l.length ≤ c ∧ (l.length = 0 ∨ ∃ g o, a = some ⟨g, o, none⟩ ∧ ∀ i (hi : i < l.length), w.cell? ⟨g, o + i, none⟩ = some (.string l[i]))
theorem strs_own {w : World} {base : Nat} {v : Value} {l : List ByteArray} (h : w.ownsRow base 9 1 v l.length (cellsT l)) : StrsIn w l v := by
  obtain ⟨a, c, h1, h2, h3⟩ := own_str h
  exact ⟨a, c, h1, h2, h3.imp id fun ⟨g, hg, hc⟩ => ⟨g, 0, hg, fun i hi => by rw [Nat.zero_add]; exact hc i hi⟩⟩
theorem StrsIn.keep {w w' : World} {l : List ByteArray} {v : Value} (h : StrsIn w l v) (hb : Below w.heap.size w w') : StrsIn w' l v := by
  obtain ⟨a, c, h1, h2, h3⟩ := h
  exact ⟨a, c, h1, h2, h3.imp id fun ⟨g, o, hg, hc⟩ => ⟨g, o, hg, fun i hi => (hb.cell (p := ⟨g, o + i, none⟩) (World.block_lt_of_cell? w ⟨g, o + i, none⟩ (hc i hi))).trans (hc i hi)⟩⟩

set_option maxRecDepth 100000 in
set_option maxHeartbeats 4000000 in
theorem texts_any (l m : List ByteArray) (v u : Value) (w : World) (hv : StrsIn w l v) (hu : StrsIn w m u) (hll : l.length ≤ 1099511627776) :
    Calls Try.prog 14 #[v, u] w (fun e w' => e = .returned (.bool (sameT l m)) ∧ Below w.heap.size w w') := by
  obtain ⟨a, c, rfl, hlc, hc1⟩ := hv
  obtain ⟨a', c', rfl, hlc', hc2⟩ := hu
  have HC1 := Lib.hid hc1; clear hc1
  have HC2 := Lib.hid hc2; clear hc2
  obtain ⟨Q, hQ⟩ : ∃ Q, sameT l m = Q := ⟨_, rfl⟩
  rw [hQ]
  cases hne : ((l.length : Int) != (m.length : Int)) with
  | true =>
    have e : Q = false := by
      rw [← hQ]
      cases hs : sameT l m with
      | false => rfl
      | true =>
        have := sameT_len hs
        simp [this] at hne
    clear hQ HC1 HC2
    subst e
    go_enter Try.func14, Try.ntmps14
    go_wp2_with fail
    go_ret
    exact ⟨rfl, Below.refl _ _⟩
  | false =>
  have HLEN := Lib.hid (show l.length = m.length by rw [bne, Bool.not_eq_false', beq_iff_eq] at hne; omega)
  have HQ := Lib.hid hQ.symm; clear hQ
  go_enter Try.func14, Try.ntmps14
  go_wp2_with fail
  go_loopw [5] (fun x wr => ∃ i : Nat, x = .int .i64 i ∧ i ≤ l.length ∧ Hid (Q = sameT (l.drop i) (m.drop i)) ∧ Below w.heap.size w wr) (fun x _ => l.length - (intOf x).toNat)
  case atStart => exact ⟨0, rfl, by omega, HQ, Below.refl _ _⟩
  case round =>
    obtain ⟨i, rfl, hi, heq, hbr⟩ := hrel
    by_cases hlt : i < l.length
    · have hlt2 : i < m.length := by have := HLEN.out; omega
      have hbi : (i : Int) + 1 ≤ 9223372036854775807 := by omega
      have hxl : ¬ l.length = 0 := by omega
      have hxl2 : ¬ m.length = 0 := by omega
      obtain ⟨g, o, rfl, hcell⟩ := HC1.out.resolve_left hxl
      obtain ⟨g', o', rfl, hcell'⟩ := HC2.out.resolve_left hxl2
      have m0 := hcell i hlt
      have m1 := hcell' i hlt2
      have k0 := (hbr.cell (p := ⟨g, o + i, none⟩) (World.block_lt_of_cell? w ⟨g, o + i, none⟩ m0)).trans m0
      have k1 := (hbr.cell (p := ⟨g', o' + i, none⟩) (World.block_lt_of_cell? w ⟨g', o' + i, none⟩ m1)).trans m1
      have HD := heq.out.trans (sameT_drop hlt hlt2)
      obtain ⟨X, hX⟩ : ∃ X, l[i] = X := ⟨_, rfl⟩
      obtain ⟨Y, hY⟩ : ∃ Y, m[i] = Y := ⟨_, rfl⟩
      rw [hX] at k0 HD
      rw [hY] at k1 HD
      clear hX hY hcell hcell' m0 m1 heq HQ
      have HBR := Lib.hid hbr; clear hbr
      have HDD := Lib.hid HD; clear HD
      obtain ⟨S, hS⟩ : ∃ S, (X.toList != Y.toList) = S := ⟨_, rfl⟩
      have HS := Lib.hid hS; clear hS
      go_upto_region 6 with fail
      go_cut [25] (fun s wx => s = .bool S ∧ Below w.heap.size w wx)
      case first =>
        go_region
        go_wp2_with fail
        go_meet
        exact ⟨by first | rfl | (rw [← HS.out]; rfl), HBR.out.drew⟩
      case rest =>
        obtain ⟨rfl, hb⟩ := hcut
        clear k0 k1 HBR
        cases S with
        | true =>
          have h1 : (X.toList == Y.toList) = false := by have := HS.out; rw [bne, Bool.not_eq_true'] at this; exact this
          have e : Q = false := by rw [HDD.out, h1]; rfl
          clear HDD HS h1
          subst e
          go_wp2_with fail
          go_ret
          exact ⟨rfl, hb⟩
        | false =>
          have h1 : (X.toList == Y.toList) = true := by have := HS.out; rw [bne, Bool.not_eq_false'] at this; exact this
          have e : Q = sameT (l.drop (i + 1)) (m.drop (i + 1)) := by rw [HDD.out, h1]; rfl
          have HE2 := Lib.hid e; clear e HDD HS h1
          go_wp2_with fail
          go_roundw
          case rel => exact ⟨i + 1, by go_num, by omega, HE2, hb⟩
          case measure => simp [intOf]; omega
    · obtain rfl : i = l.length := by omega
      have e : Q = true := heq.out.trans (sameT_end HLEN.out)
      clear heq HQ
      subst e
      go_wp2_with fail
      go_ret
      exact ⟨rfl, hbr⟩

/-! ### plain -/
theorem nmsOf_cons (x : Nd) (l : List Nd) : nmsOf (x :: l) = (if mustN x then [ownNm x] else []) ++ nmsOf l := by
  unfold nmsOf
  cases h : mustN x <;> simp [h]
theorem headU_fst (nm : ByteArray) (a b : Bool) : (headU nm a b).map Prod.fst = if (a || b) then [nm] else [] := by
  unfold headU
  split <;> simp_all
mutual
theorem nms_N : ∀ (x : Nd), (∀ y ∈ allN x, y.ty ≠ .D) → nmsOf (allN x) = (usesN x).map Prod.fst
  | .mk ty k n nm xs cs ts es, h => by
    cases ty with
    | E =>
      unfold allN at h ⊢
      have hx := nms_L xs (fun y hy => h y (by simp [hy]))
      unfold usesN
      simp only [nmsOf_cons, List.map_append, headU_fst, hx]
      simp [mustN, ownNm]
    | C =>
      unfold allN at h ⊢
      have hx := nms_L xs (fun y hy => h y (by simp [hy]))
      have hc := nms_L cs (fun y hy => h y (by simp [hy]))
      unfold usesN
      simp only [nmsOf_cons, nmsOf_app, List.map_append, hx, hc]
      simp [mustN]
    | S =>
      unfold allN at h ⊢
      have hx := nms_L xs (fun y hy => h y (by simp [hy]))
      have hc := nms_L cs (fun y hy => h y (by simp [hy]))
      have ht := nms_L ts (fun y hy => h y (by simp [hy]))
      have he := nms_L es (fun y hy => h y (by simp [hy]))
      unfold usesN
      simp only [nmsOf_cons, nmsOf_app, List.map_append, headU_fst, hx, hc, ht, he]
      simp [mustN, ownNm]
    | D =>
      unfold allN at h
      exact absurd rfl (h _ (List.mem_cons_self ..))
theorem nms_L : ∀ (l : List Nd), (∀ y ∈ allL l, y.ty ≠ .D) → nmsOf (allL l) = (usesL l).map Prod.fst
  | [], _ => by unfold allL usesL; rfl
  | x :: r, h => by
    unfold allL at h ⊢
    unfold usesL
    rw [nmsOf_app, List.map_append, nms_N x (fun y hy => h y (by simp [hy])), nms_L r (fun y hy => h y (by simp [hy]))]
end
theorem nms_D : ∀ (ds : List Nd), fitL .D ds → nmsOf (allL ds) = ds.map ownNm
  | [], _ => by unfold allL; rfl
  | x :: r, h => by
    unfold fitL at h
    obtain ⟨hty, hx, hr⟩ := h
    obtain ⟨ty, k, n, nm, xs, cs, ts, es⟩ := x
    simp only [Nd.ty] at hty
    subst hty
    unfold fitN at hx
    obtain ⟨⟨rfl, rfl, rfl, rfl, rfl⟩, -⟩ := hx
    unfold allL
    rw [nmsOf_app, nms_D r hr, List.map_cons]
    have e : allN (.mk .D 0 n nm [] [] [] []) = [.mk .D 0 n nm [] [] [] []] := by
      unfold allN
      simp
    rw [e, nmsOf_cons]
    simp [mustN, ownNm, nmsOf]
theorem names_same {ds ss : List Nd} (hd : fitL .D ds) (hs : ∀ y ∈ allL ss, y.ty ≠ .D) (hz : (progT ds ss).lim = 0) : namesP (progT ds ss).l = namesR ds ss := by
  rw [progT_list hz, allL_app]
  unfold namesP namesR
  rw [nmsOf_app, nms_D ds hd, nms_L ss hs, List.foldl_append]
theorem names_few {ds ss : List Nd} (hd : fitL .D ds) (hs : ∀ y ∈ allL ss, y.ty ≠ .D) (hz : (progT ds ss).lim = 0) : ds.length + (usesL ss).length ≤ 4096 := by
  have h := (progT_ok ds ss).1
  rw [progT_list hz, allL_app, List.length_append] at h
  have h1 := congrArg List.length (nms_D ds hd)
  have h2 := congrArg List.length (nms_L ss hs)
  have h3 : ∀ l, (nmsOf l).length ≤ l.length := fun l => by unfold nmsOf; rw [List.length_map]; exact List.length_filter_le ..
  have h4 := h3 (allL ds)
  have h5 := h3 (allL ss)
  simp only [List.length_map] at h1 h2
  omega
theorem fault_lim {t : Tr} (h : faultT t = 0) : t.lim = 0 := by
  unfold faultT at h
  split at h
  · exact h
  · rename_i hn
    simpa using hn
end Go.Proofs.Ytpildlaloclanaa
