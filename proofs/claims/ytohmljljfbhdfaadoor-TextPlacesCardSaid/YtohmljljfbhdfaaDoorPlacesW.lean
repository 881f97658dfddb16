/-
  The walk of gnomonlaw1.TextPlaces (P1.3, P1.4): proved is that it answers true for every text and every two numbers, and turns nothing that lay.
-/
import Derived.Test.YtohmljljfbhdfaaDoorKnown
import Derived.Test.YtohmljljfbhdfaaDoorPlaces
import Derived.Test.YtohmljljfbhdfaaDoorTextP
import Derived.Deep.RegionHeld3
import Derived.IntWalk
namespace Go.Proofs.YtohmljljfbhdfaaDoor
open Go Go.RowKit Go.Shelf
attribute [local go_sem] Oper.semAt_some

/-- Between two rounds of the first loop: the boxes of s, stop, the result, the captured s, k. -/
def PlI (s : ByteArray) (stop : Int) (w w3 : World) (k : Nat) (A : World) : Prop :=
  Blk A w.heap.size #[.string s] 9 ∧ Blk A (w.heap.size + 1) #[.int .i64 stop] 3 ∧ Blk A (w.heap.size + 1 + 1) #[.bool false] 4 ∧ Blk A w3.heap.size #[.string s] 9 ∧ Blk A (w3.heap.size + 1) #[.int .i64 k] 3 ∧ Below w.heap.size w A
theorem PlI.below {s : ByteArray} {stop : Int} {w w3 : World} {k : Nat} {A B : World} {m : Nat} (h : PlI s stop w w3 k A) (hm : w3.heap.size + 2 ≤ m) (hgt : w.heap.size + 3 ≤ w3.heap.size) (hb : Below m A B) : PlI s stop w w3 k B :=
  ⟨h.1.below hb (by omega), h.2.1.below hb (by omega), h.2.2.1.below hb (by omega), h.2.2.2.1.below hb (by omega), h.2.2.2.2.1.below hb (by omega), h.2.2.2.2.2.trans (hb.mono (by omega))⟩

/-- Between two rounds of the second loop: the boxes of s, the result, at; the first loop's mark. -/
def Pl2 (s : ByteArray) (w : World) (c D : Nat) (pre : List Spot) (A : World) : Prop :=
  Blk A w.heap.size #[.string s] 9 ∧ Blk A (w.heap.size + 1 + 1) #[.bool false] 4 ∧ Blk A c #[.int .i64 (endFrom s 0 pre)] 3 ∧ A.heap[D]? = some (.deferred (some [])) ∧ Below w.heap.size w A
theorem Pl2.below {s : ByteArray} {w : World} {c D : Nat} {pre : List Spot} {A B : World} {m : Nat} (h : Pl2 s w c D pre A) (hm : c < m) (hD : D < m) (hgt : w.heap.size + 3 ≤ m) (hb : Below m A B) : Pl2 s w c D pre B :=
  ⟨h.1.below hb (by omega), h.2.1.below hb (by omega), h.2.2.1.below hb hm, (hb.block D hD).trans h.2.2.2.1, h.2.2.2.2.trans (hb.mono (by omega))⟩

theorem close_above {C c : Nat} {B2 w6 : World} (hb : Below B2.drew.heap.size B2.drew w6) (hp : c < C) (u : Value) : Above C B2 (w6.setCell ⟨c, 0, none⟩ u) :=
  ((((Above.refl C B2).drew).below hb)).setCell hp u
theorem close_pl2 {s : ByteArray} {w : World} {c D : Nat} {pre : List Spot} {x : Spot} {B2 w6 : World} (hb : Below B2.drew.heap.size B2.drew w6)
    (h1 : Blk B2 w.heap.size #[.string s] 9) (h3 : Blk B2 (w.heap.size + 1 + 1) #[.bool false] 4) (h5 : Blk w6 c #[.int .i64 x.pos] 3) (h7 : B2.heap[D]? = some (.deferred (some []))) (h6 : Below w.heap.size w B2)
    (hc : w.heap.size + 2 < c) (hD : D ≠ c) : Pl2 s w c D (pre ++ [x]) (w6.setCell ⟨c, 0, none⟩ (.int .i64 ((x.pos : Int) + wd s x.pos))) := by
  have h1' : Blk B2.drew w.heap.size #[.string s] 9 := h1
  have h3' : Blk B2.drew (w.heap.size + 1 + 1) #[.bool false] 4 := h3
  have h7' : B2.drew.heap[D]? = some (.deferred (some [])) := h7
  have hDl : D < B2.drew.heap.size := (Array.getElem?_eq_some_iff.1 h7').1
  refine ⟨(h1'.below hb h1'.lt).other (by simp; omega) _, (h3'.below hb h3'.lt).other (by simp; omega) _, ?_, (Below.heap_setCell _ _ _ _ hD).trans ((hb.block _ hDl).trans h7'), (h6.drew.trans (hb.mono h6.size)).setCell (by simp; omega) _⟩
  rw [endFrom_snoc, Int.natCast_add]
  exact h5.set 0 _

set_option maxRecDepth 100000 in
set_option maxHeartbeats 4000000 in
theorem places_walk (s : ByteArray) (n stop : Int) (w : World) (hs : s.size ≤ 140737488351232) (hT : Lib.Utf8Tabs 0 1 w) :
    Calls Tryd.prog 5 #[.string s, .int .i64 n, .int .i64 stop] w fun e w' => e = .returned (.bool true) ∧ Below w.heap.size w w' := by
  have hB0 : Below w.heap.size w (((w.alloc (.cells #[.string s] 9)).alloc (.cells #[.int .i64 stop] 3)).alloc (.cells #[.bool false] 4)) := (((Below.refl _ w).alloc (Nat.le_refl _) _).alloc (by simp) _).alloc (by simp; omega) _
  have b1 := ((Blk.new w #[.string s] 9).alloc (.cells #[.int .i64 stop] 3)).alloc (.cells #[.bool false] 4)
  have b2 := (Blk.new (w.alloc (.cells #[.string s] 9)) #[.int .i64 stop] 3).alloc (.cells #[.bool false] 4)
  have b3 := Blk.new ((w.alloc (.cells #[.string s] 9)).alloc (.cells #[.int .i64 stop] 3)) #[.bool false] 4
  simp only [World.size_alloc] at b2 b3
  have hkn := known_any _ (Utf8Tabs_below hT hB0)
  refine calls_of_wp_marks Tryd.func5 rfl ?_
  simp only [Tryd.ntmps5, List.size_toArray, List.length_cons, List.length_nil, Nat.reduceAdd, Nat.reduceSub, Array.replicate_succ, Array.replicate_zero, List.push_toArray, List.append_toArray, List.nil_append, List.cons_append]
  go_wp2_with (fail)
  refine hkn.mono ?_
  clear hkn
  rintro e w1 ⟨rfl, hb1⟩
  have k1 := b1.below hb1 b1.lt
  have k2 := b2.below hb1 b2.lt
  have k3 := b3.below hb1 b3.lt
  have B1 : Below w.heap.size w w1 := hB0.trans (hb1.mono (by simp; omega))
  clear b1 b2 b3 hb1 hB0
  have cs1 : w1.cell? ⟨w.heap.size, 0, none⟩ = some (.string s) := k1.cell 0
  have cr1 : w1.cell? ⟨w.heap.size + 1 + 1, 0, none⟩ = some (.bool false) := k3.cell 0
  have fr1 := k3.free 0
  by_cases hl : 3000 < s.size
  · have K3 := Lib.hid k3
    clear k1 k2 k3
    go_wp2
    have hZ := K3.out.set 0 (.bool true)
    have z0 := hZ.cell 0
    simp at z0
    refine ⟨.bool true, by simp [results, Tryd.results5, go_sem, z0], ?_⟩
    exact ⟨rfl, B1.setCell (by simp; omega) _⟩
  · have K1 := Lib.hid k1
    have K2 := Lib.hid k2
    have K3 := Lib.hid k3
    clear k1 k2 k3
    have hlt1 := K1.out.lt
    go_wp2_with (fail)
    have c1 := fun w => at_any s n w (by omega)
    have c2 := fun w => refat_any s n w (by omega)
    obtain ⟨P, hP⟩ : ∃ P, atV s n = P := ⟨_, rfl⟩
    rw [hP] at c1 c2
    clear hP
    go_region_held3 (fun w' => w'.cell? ⟨w.heap.size, 0, none⟩ = some (.string s) ∧ Below w1.heap.size w1 w')
      (first
        | exact ⟨cs1, (Below.refl _ _).drew⟩
        | exact ⟨(hb2.cell (p := ⟨w.heap.size, 0, none⟩) hlt1).trans cs1, (Below.refl w1.heap.size w1).drew.trans hb2⟩
        | exact ⟨(hb3.cell (p := ⟨w.heap.size, 0, none⟩) (Nat.lt_of_lt_of_le hlt1 hb2.size)).trans ((hb2.cell (p := ⟨w.heap.size, 0, none⟩) hlt1).trans cs1), (Below.refl w1.heap.size w1).drew.trans (hb2.trans (hb3.mono hb2.size))⟩)
      (first | (go_at_call 13; refine (c1 _).mono ?_; rintro e w2 ⟨rfl, hb2⟩) | (go_at_call 14; refine (c2 _).mono ?_; rintro e w3 ⟨rfl, hb3⟩))
    have hb13 : Below w1.heap.size w1 w3 := (Below.refl w1.heap.size w1).drew.trans (hb2.trans (hb3.mono hb2.size))
    have m1 := K1.out.below hb13 K1.out.lt
    have m2 := K2.out.below hb13 K2.out.lt
    have m3 := K3.out.below hb13 K3.out.lt
    have B3 : Below w.heap.size w w3 := below_then B1 hb13
    clear K1 K2 K3 hb2 hb3 hb13 B1 cs1 cr1 fr1 hlt1 c1 c2
    have cs3 : w3.cell? ⟨w.heap.size, 0, none⟩ = some (.string s) := m1.cell 0
    have M1 := Lib.hid m1
    have M2 := Lib.hid m2
    have M3 := Lib.hid m3
    clear m1 m2 m3
    go_wp2_with (go_at_call 15; refine (places_any _ _).mono ?_; rintro e w4 ⟨rfl, rfl⟩)
    have n1 := (M1.out.alloc (.cells #[.string s] 9)).alloc (.cells #[.int .i64 0] 3)
    have n2 := (M2.out.alloc (.cells #[.string s] 9)).alloc (.cells #[.int .i64 0] 3)
    have n3 := (M3.out.alloc (.cells #[.string s] 9)).alloc (.cells #[.int .i64 0] 3)
    have n4 := (Blk.new w3 #[.string s] 9).alloc (.cells #[.int .i64 0] 3)
    have n5 := Blk.new (w3.alloc (.cells #[.string s] 9)) #[.int .i64 0] 3
    rw [World.size_alloc] at n5
    have B4 : Below w.heap.size w ((w3.alloc (.cells #[.string s] 9)).alloc (.cells #[.int .i64 0] 3)) := below_then B3 (((Below.refl _ w3).alloc (Nat.le_refl _) _).alloc (by simp) _)
    have hgt : w.heap.size + 3 ≤ w3.heap.size := by have := M3.out.lt; omega
    obtain ⟨W0, hW0⟩ : ∃ W0, (w3.alloc (.cells #[.string s] 9)).alloc (.cells #[.int .i64 0] 3) = W0 := ⟨_, rfl⟩
    have hz0 : W0.heap.size = w3.heap.size + 2 := by rw [← hW0]; simp
    rw [hW0] at n1 n2 n3 n4 n5 B4 ⊢
    clear hW0 M1 M2 M3 cs3 B3
    refine wp_rangeFunc_one (gf := 23) (lb := #[.pointer (some ⟨w3.heap.size, 0, none⟩)]) rfl (enters_of Tryd.func23 (by kernel_rfl) rfl)
      (places1_seq s w3.heap.size W0 (by omega) (n4.cell 0) n4.lt) (Below.refl _ _) (fun _ => rfl)
      (fun pre A => PlI s stop w w3 pre.length A) (fun c pre A => c = .exit 0 ∧ ∃ k, PlI s stop w w3 k A)
      (fun pre A B h hb => h.below (by omega) hgt hb) (fun c pre A B ⟨hc, k, h⟩ hb => ⟨hc, k, h.below (by omega) hgt hb⟩)
      ⟨n1, n2, n3, n4, n5, B4⟩ ?round ?done ?stop
    case round =>
      intro l pre x A hI hpre hle hl2
      dsimp only [encPlace]
      gi_wp2
      refine ⟨Above.refl _ _, fun r o' hr => ?_⟩
      have hI2 := hI.below (m := W0.heap.size) (by omega) hgt (below_put _ _ hl2 (.loop o'))
      obtain ⟨A2, hA2⟩ : ∃ A2, A.putObj l (.loop o') = A2 := ⟨_, rfl⟩
      rw [hA2] at hI2 ⊢
      clear hA2 hr hI hle
      have hlen := pre_len s pre x hpre
      obtain ⟨i1, i2, i3, i4, i5, i6⟩ := hI2
      have hk : A2.cell? ⟨w3.heap.size + 1, 0, none⟩ = some (.int .i64 pre.length) := i5.cell 0
      have hst : A2.cell? ⟨w.heap.size + 1, 0, none⟩ = some (.int .i64 stop) := i2.cell 0
      have hfk := i5.free 0
      have I1 := Lib.hid i1; have I2 := Lib.hid i2; have I3 := Lib.hid i3; have I4 := Lib.hid i4; have I5 := Lib.hid i5
      clear i1 i2 i3 i4 i5
      cases hq : ((pre.length : Int) == stop) with
      | true =>
        gi_wp2
        exact ⟨Above.refl _ _, rfl, pre.length, I1.out, I2.out, I3.out, I4.out, I5.out, i6⟩
      | false =>
        gi_wp2
        refine ⟨(Above.refl _ _).setCell (by simp; omega) _, I1.out.other (by simp; omega) _, I2.out.other (by simp; omega) _, I3.out.other (by simp; omega) _, I4.out.other (by simp) _, ?_, i6.setCell (by simp; omega) _⟩
        have h := I5.out.set 0 (.int .i64 (pre.length + 1))
        simp only [List.length_append, List.length_cons, List.length_nil, Nat.zero_add, Int.natCast_add, Int.cast_ofNat_Int]
        exact h
    case done =>
      intro D A hD hI hK
      obtain ⟨i1, i2, i3, i4, _, i6⟩ := hI
      have I1 := Lib.hid i1; have I3 := Lib.hid i3; have I4 := Lib.hid i4
      have HK := Lib.hid hK
      have hDA : D < A.heap.size := (Array.getElem?_eq_some_iff.1 hK).1
      have hg4 := i4.lt
      clear i1 i2 i3 i4 hK n1 n2 n3 n4 n5
      go_wp2
      have o1 := I1.out.alloc (.cells #[.int .i64 0] 3)
      have o3 := I3.out.alloc (.cells #[.int .i64 0] 3)
      have o4 := I4.out.alloc (.cells #[.int .i64 0] 3)
      have o5 := Blk.new A #[.int .i64 0] 3
      have B5 : Below w.heap.size w (A.alloc (.cells #[.int .i64 0] 3)) := below_then i6 ((Below.refl _ A).alloc (Nat.le_refl _) _)
      have K5 : (A.alloc (.cells #[.int .i64 0] 3)).heap[D]? = some (.deferred (some [])) := (Below.heap_alloc _ _ _ hDA).trans HK.out
      obtain ⟨V0, hV0⟩ : ∃ V0, A.alloc (.cells #[.int .i64 0] 3) = V0 := ⟨_, rfl⟩
      have hy0 : V0.heap.size = A.heap.size + 1 := by rw [← hV0]; simp
      rw [hV0] at o1 o3 o4 o5 B5 K5 ⊢
      clear hV0 I1 I3 I4 HK
      refine wp_rangeFunc_one (gf := 23) (lb := #[.pointer (some ⟨w3.heap.size, 0, none⟩)]) rfl (enters_of Tryd.func23 (by kernel_rfl) rfl)
        (places1_seq s w3.heap.size V0 (by omega) (o4.cell 0) o4.lt) (Below.refl _ _) (fun _ => rfl)
        (fun pre B => Pl2 s w A.heap.size D pre B) (fun _ _ _ => False)
        (fun pre X Y h hb => h.below (m := V0.heap.size) (by omega) (by omega) (by omega) hb) (fun _ _ _ _ h _ => h)
        ⟨o1, o3, o5, K5, B5⟩ ?round2 ?done2 ?stop2
      case round2 =>
        intro l pre x B hI hpre hle hl2
        dsimp only [encPlace]
        gi_wp2
        refine ⟨(Above.refl _ _).alloc _, fun r o' hr => ?_⟩
        have hI2 := (hI.below (m := V0.heap.size) (by omega) (by omega) (by omega) ((Below.refl _ B).alloc hle (.cells #[.int .i64 x.line, .int .i64 x.col] 33))).below (m := V0.heap.size) (by omega) (by omega) (by omega) (below_put _ _ hl2 (.loop o'))
        have hp2 := (Blk.new B #[.int .i64 x.line, .int .i64 x.col] 33).putLoop hr (.loop o')
        obtain ⟨B2, hB2⟩ : ∃ B2, (B.alloc (.cells #[.int .i64 x.line, .int .i64 x.col] 33)).putObj l (.loop o') = B2 := ⟨_, rfl⟩
        have hzB : B.heap.size + 1 = B2.heap.size := by rw [← hB2]; simp
        rw [hB2] at hI2 hp2 ⊢
        clear hB2 hr hI
        obtain ⟨hx0, hx1, hx2, hx3⟩ := spots_next s pre x hpre
        obtain ⟨i1, i3, i5, i7, i6⟩ := hI2
        rw [← hx0] at i5
        have cR := fun w => rune_any s x.pos w (by omega) hx1
        rw [← hx2] at cR
        have cA := fun w => refat_any s x.pos w (by omega)
        rw [hx3] at cA
        have hbd : x.r ≤ 1114111 := (spots_bounds s x (hpre.subset (by simp))).2.2.2.2.2.2
        have hd := dec_facts s x.pos hx1
        have cs : B2.cell? ⟨w.heap.size, 0, none⟩ = some (.string s) := i1.cell 0
        have ca : B2.cell? ⟨A.heap.size, 0, none⟩ = some (.int .i64 x.pos) := i5.cell 0
        have cp1 : B2.cell? ⟨B.heap.size, 0, none⟩ = some (.int .i64 x.line) := hp2.cell 0
        have cp2 : B2.cell? ⟨B.heap.size, 1, none⟩ = some (.int .i64 x.col) := hp2.cell 1
        have HX0 := Lib.hid hx0; clear hx0 hx2 hx3
        have I1 := Lib.hid i1; have I3 := Lib.hid i3; have I5 := Lib.hid i5; have I7 := Lib.hid i7; have HP2 := Lib.hid hp2
        clear i1 i3 i5 i7 hp2
        simp only at cA cR
        gi_wp2_with (refine ⟨trivial, ?_⟩; gi_at_call 16; refine (CallsIn.inRound l (callsIn_wide.2 (cR _))).mono ?_; rintro e w5 ⟨rfl, rfl⟩)
        have hlt2 := HP2.out.lt
        have hmix : Tryd.prog.follows .mixedOrders = true := by kernel_rfl
        have hwr1 : IntKind.i64.wrap (x.r : Int) = (x.r : Int) := IntWalk.i64_in _ (by omega)
        have hwr2 : wrap64 (x.r : Int) = (x.r : Int) := IntWalk.wrap64_in _ (by omega)
        gi_region_with_o ((refine ⟨trivial, ?_⟩; gi_at_call 14; refine (CallsIn.inRound l (callsIn_wide.2 (cA _))).mono ?_; rintro e w6 ⟨rfl, hb6⟩; have d1 : w6.cell? ⟨B.heap.size, 0, none⟩ = some (.int .i64 x.line) := (hb6.cell (p := ⟨B.heap.size, 0, none⟩) hlt2).trans cp1; have d2 : w6.cell? ⟨B.heap.size, 1, none⟩ = some (.int .i64 x.col) := (hb6.cell (p := ⟨B.heap.size, 1, none⟩) hlt2).trans cp2))
        all_goals
          have q5 : Blk w6 A.heap.size #[.int .i64 x.pos] 3 := (show Blk B2.drew A.heap.size #[.int .i64 x.pos] 3 from I5.out).below hb6 I5.out.lt
          have ca6 : w6.cell? ⟨A.heap.size, 0, none⟩ = some (.int .i64 x.pos) := q5.cell 0
          have fa6 := q5.free 0
          have Q5 := Lib.hid q5
          clear q5 hwr1 hwr2 d1 d2 cs ca cp1 cp2 cR cA
          gi_wp2
          exact ⟨close_above hb6 (by omega) _, close_pl2 hb6 I1.out I3.out Q5.out I7.out i6 (by omega) (by omega)⟩
      case done2 =>
        intro E B hE hI hK2
        obtain ⟨i1, i3, i5, i7, i6⟩ := hI
        rw [spots_last] at i5
        have cs : B.cell? ⟨w.heap.size, 0, none⟩ = some (.string s) := i1.cell 0
        have ca : B.cell? ⟨A.heap.size, 0, none⟩ = some (.int .i64 s.size) := i5.cell 0
        have cr : B.cell? ⟨w.heap.size + 1 + 1, 0, none⟩ = some (.bool false) := i3.cell 0
        have fr := i3.free 0
        have I3 := Lib.hid i3; have I7 := Lib.hid i7; have HK2 := Lib.hid hK2
        clear i1 i3 i5 i7 hK2
        go_wp2
        have e1 : (B.setCell ⟨w.heap.size + 1 + 1, 0, none⟩ (.bool true)).heap[E]? = some (.deferred (some [])) := (Below.heap_setCell _ _ _ _ (by simp; omega)).trans HK2.out
        have e2 : ((B.setCell ⟨w.heap.size + 1 + 1, 0, none⟩ (.bool true)).putObj E (.deferred none)).heap[D]? = some (.deferred (some [])) := (World.putObj_heap_other (by omega)).trans ((Below.heap_setCell _ _ _ _ (by simp; omega)).trans I7.out)
        refine ⟨by simp, .inl ⟨E, _, rfl, run_takeDeferred e1, by simp, .inl ⟨D, _, rfl, run_takeDeferred e2, ?_⟩⟩⟩
        have hZ := ((I3.out.set 0 (.bool true)).put (l := E) (by omega) (.deferred none)).put (l := D) (by omega) (.deferred none)
        have z0 := hZ.cell 0
        simp at z0
        refine ⟨.bool true, by simp [results, Tryd.results5, go_sem, z0], rfl, ?_⟩
        exact ((i6.setCell (by simp; omega) _).trans (below_put _ _ (by omega) _)).trans (below_put _ _ (by omega) _)
      case stop2 =>
        intro E c pre B _ _ h
        exact h.elim
    case stop =>
      rintro D c pre A hD hpre ⟨rfl, k, hI⟩ hK
      clear hpre
      obtain ⟨i1, i2, i3, i4, _, i6⟩ := hI
      have I1 := Lib.hid i1; have I3 := Lib.hid i3; have I4 := Lib.hid i4
      have HK := Lib.hid hK
      have hDA : D < A.heap.size := (Array.getElem?_eq_some_iff.1 hK).1
      have hg4 := i4.lt
      clear i1 i2 i3 i4 hK n1 n2 n3 n4 n5
      go_wp2
      have o1 := I1.out.alloc (.cells #[.int .i64 0] 3)
      have o3 := I3.out.alloc (.cells #[.int .i64 0] 3)
      have o4 := I4.out.alloc (.cells #[.int .i64 0] 3)
      have o5 := Blk.new A #[.int .i64 0] 3
      have B5 : Below w.heap.size w (A.alloc (.cells #[.int .i64 0] 3)) := below_then i6 ((Below.refl _ A).alloc (Nat.le_refl _) _)
      have K5 : (A.alloc (.cells #[.int .i64 0] 3)).heap[D]? = some (.deferred (some [])) := (Below.heap_alloc _ _ _ hDA).trans HK.out
      obtain ⟨V0, hV0⟩ : ∃ V0, A.alloc (.cells #[.int .i64 0] 3) = V0 := ⟨_, rfl⟩
      have hy0 : V0.heap.size = A.heap.size + 1 := by rw [← hV0]; simp
      rw [hV0] at o1 o3 o4 o5 B5 K5 ⊢
      clear hV0 I1 I3 I4 HK
      refine wp_rangeFunc_one (gf := 23) (lb := #[.pointer (some ⟨w3.heap.size, 0, none⟩)]) rfl (enters_of Tryd.func23 (by kernel_rfl) rfl)
        (places1_seq s w3.heap.size V0 (by omega) (o4.cell 0) o4.lt) (Below.refl _ _) (fun _ => rfl)
        (fun pre B => Pl2 s w A.heap.size D pre B) (fun _ _ _ => False)
        (fun pre X Y h hb => h.below (m := V0.heap.size) (by omega) (by omega) (by omega) hb) (fun _ _ _ _ h _ => h)
        ⟨o1, o3, o5, K5, B5⟩ ?round2 ?done2 ?stop2
      case round2 =>
        intro l pre x B hI hpre hle hl2
        dsimp only [encPlace]
        gi_wp2
        refine ⟨(Above.refl _ _).alloc _, fun r o' hr => ?_⟩
        have hI2 := (hI.below (m := V0.heap.size) (by omega) (by omega) (by omega) ((Below.refl _ B).alloc hle (.cells #[.int .i64 x.line, .int .i64 x.col] 33))).below (m := V0.heap.size) (by omega) (by omega) (by omega) (below_put _ _ hl2 (.loop o'))
        have hp2 := (Blk.new B #[.int .i64 x.line, .int .i64 x.col] 33).putLoop hr (.loop o')
        obtain ⟨B2, hB2⟩ : ∃ B2, (B.alloc (.cells #[.int .i64 x.line, .int .i64 x.col] 33)).putObj l (.loop o') = B2 := ⟨_, rfl⟩
        have hzB : B.heap.size + 1 = B2.heap.size := by rw [← hB2]; simp
        rw [hB2] at hI2 hp2 ⊢
        clear hB2 hr hI
        obtain ⟨hx0, hx1, hx2, hx3⟩ := spots_next s pre x hpre
        obtain ⟨i1, i3, i5, i7, i6⟩ := hI2
        rw [← hx0] at i5
        have cR := fun w => rune_any s x.pos w (by omega) hx1
        rw [← hx2] at cR
        have cA := fun w => refat_any s x.pos w (by omega)
        rw [hx3] at cA
        have hbd : x.r ≤ 1114111 := (spots_bounds s x (hpre.subset (by simp))).2.2.2.2.2.2
        have hd := dec_facts s x.pos hx1
        have cs : B2.cell? ⟨w.heap.size, 0, none⟩ = some (.string s) := i1.cell 0
        have ca : B2.cell? ⟨A.heap.size, 0, none⟩ = some (.int .i64 x.pos) := i5.cell 0
        have cp1 : B2.cell? ⟨B.heap.size, 0, none⟩ = some (.int .i64 x.line) := hp2.cell 0
        have cp2 : B2.cell? ⟨B.heap.size, 1, none⟩ = some (.int .i64 x.col) := hp2.cell 1
        have HX0 := Lib.hid hx0; clear hx0 hx2 hx3
        have I1 := Lib.hid i1; have I3 := Lib.hid i3; have I5 := Lib.hid i5; have I7 := Lib.hid i7; have HP2 := Lib.hid hp2
        clear i1 i3 i5 i7 hp2
        simp only at cA cR
        gi_wp2_with (refine ⟨trivial, ?_⟩; gi_at_call 16; refine (CallsIn.inRound l (callsIn_wide.2 (cR _))).mono ?_; rintro e w5 ⟨rfl, rfl⟩)
        have hlt2 := HP2.out.lt
        have hmix : Tryd.prog.follows .mixedOrders = true := by kernel_rfl
        have hwr1 : IntKind.i64.wrap (x.r : Int) = (x.r : Int) := IntWalk.i64_in _ (by omega)
        have hwr2 : wrap64 (x.r : Int) = (x.r : Int) := IntWalk.wrap64_in _ (by omega)
        gi_region_with_o ((refine ⟨trivial, ?_⟩; gi_at_call 14; refine (CallsIn.inRound l (callsIn_wide.2 (cA _))).mono ?_; rintro e w6 ⟨rfl, hb6⟩; have d1 : w6.cell? ⟨B.heap.size, 0, none⟩ = some (.int .i64 x.line) := (hb6.cell (p := ⟨B.heap.size, 0, none⟩) hlt2).trans cp1; have d2 : w6.cell? ⟨B.heap.size, 1, none⟩ = some (.int .i64 x.col) := (hb6.cell (p := ⟨B.heap.size, 1, none⟩) hlt2).trans cp2))
        all_goals
          have q5 : Blk w6 A.heap.size #[.int .i64 x.pos] 3 := (show Blk B2.drew A.heap.size #[.int .i64 x.pos] 3 from I5.out).below hb6 I5.out.lt
          have ca6 : w6.cell? ⟨A.heap.size, 0, none⟩ = some (.int .i64 x.pos) := q5.cell 0
          have fa6 := q5.free 0
          have Q5 := Lib.hid q5
          clear q5 hwr1 hwr2 d1 d2 cs ca cp1 cp2 cR cA
          gi_wp2
          exact ⟨close_above hb6 (by omega) _, close_pl2 hb6 I1.out I3.out Q5.out I7.out i6 (by omega) (by omega)⟩
      case done2 =>
        intro E B hE hI hK2
        obtain ⟨i1, i3, i5, i7, i6⟩ := hI
        rw [spots_last] at i5
        have cs : B.cell? ⟨w.heap.size, 0, none⟩ = some (.string s) := i1.cell 0
        have ca : B.cell? ⟨A.heap.size, 0, none⟩ = some (.int .i64 s.size) := i5.cell 0
        have cr : B.cell? ⟨w.heap.size + 1 + 1, 0, none⟩ = some (.bool false) := i3.cell 0
        have fr := i3.free 0
        have I3 := Lib.hid i3; have I7 := Lib.hid i7; have HK2 := Lib.hid hK2
        clear i1 i3 i5 i7 hK2
        go_wp2
        have e1 : (B.setCell ⟨w.heap.size + 1 + 1, 0, none⟩ (.bool true)).heap[E]? = some (.deferred (some [])) := (Below.heap_setCell _ _ _ _ (by simp; omega)).trans HK2.out
        have e2 : ((B.setCell ⟨w.heap.size + 1 + 1, 0, none⟩ (.bool true)).putObj E (.deferred none)).heap[D]? = some (.deferred (some [])) := (World.putObj_heap_other (by omega)).trans ((Below.heap_setCell _ _ _ _ (by simp; omega)).trans I7.out)
        refine ⟨by simp, .inl ⟨E, _, rfl, run_takeDeferred e1, by simp, .inl ⟨D, _, rfl, run_takeDeferred e2, ?_⟩⟩⟩
        have hZ := ((I3.out.set 0 (.bool true)).put (l := E) (by omega) (.deferred none)).put (l := D) (by omega) (.deferred none)
        have z0 := hZ.cell 0
        simp at z0
        refine ⟨.bool true, by simp [results, Tryd.results5, go_sem, z0], rfl, ?_⟩
        exact ((i6.setCell (by simp; omega) _).trans (below_put _ _ (by omega) _)).trans (below_put _ _ (by omega) _)
      case stop2 =>
        intro E c pre B _ _ h
        exact h.elim
end Go.Proofs.YtohmljljfbhdfaaDoor
