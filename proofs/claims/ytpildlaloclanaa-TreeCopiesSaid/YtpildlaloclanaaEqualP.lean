/-
  The project's Equal of two programs (tree's): proved is that it answers whether both are gone through to their end and their nodes have the same labels, and that it turns nothing that lay.
-/
import Derived.Test.YtpildlaloclanaaAlike
import Derived.Deep.RegionHeld3
namespace Go.Proofs.Ytpildlaloclanaa
open Go Go.RowKit

theorem below_alloc {w wA : World} (h : Below w.heap.size w wA) (o : Obj) : Below w.heap.size w (wA.alloc o) := h.alloc h.size o
theorem below_drew {w wA : World} (h : Below w.heap.size w wA) : Below w.heap.size w wA.drew := h.drew
theorem below_next {w wA w1 : World} (h : Below w.heap.size w wA) (hb : Below wA.heap.size wA w1) : Below w.heap.size w w1 := h.trans (hb.mono h.size)
theorem below_set3 {w wA : World} {b : Nat} (hb : w.heap.size ≤ b) (h : Below w.heap.size w wA) (u0 u1 u2 : Value) : Below w.heap.size w (((wA.setCell ⟨b, 0, none⟩ u0).setCell ⟨b, 1, none⟩ u1).setCell ⟨b, 2, none⟩ u2) :=
  ((h.setCell (p := ⟨b, 0, none⟩) hb u0).setCell (p := ⟨b, 1, none⟩) hb u1).setCell (p := ⟨b, 2, none⟩) hb u2
theorem Blk.next {w w' : World} {b : Nat} {cs : Array Value} {t : TypeId} (h : Blk w b cs t) (hb : Below w.heap.size w w') : Blk w' b cs t := h.below hb h.lt
theorem blk_facts {w : World} {B : Nat} {v0 v1 v2 : Value} {t : TypeId} (h : Blk w B #[v0, v1, v2] t) : w.cell? ⟨B, 0, none⟩ = some v0 ∧ w.cell? ⟨B, 1, none⟩ = some v1 ∧ w.cell? ⟨B, 2, none⟩ = some v2 ∧ w.frozen? ⟨B, 0, none⟩ = false ∧ w.frozen? ⟨B, 1, none⟩ = false ∧ w.frozen? ⟨B, 2, none⟩ = false :=
  ⟨h.cell 0, h.cell 1, h.cell 2, h.free 0, h.free 1, h.free 2⟩
theorem blk_set3 {w : World} {b : Nat} {v0 v1 v2 : Value} {t : TypeId} (h : Blk w b #[v0, v1, v2] t) (a0 a1 a2 : Value) : Blk (((w.setCell ⟨b, 0, none⟩ a0).setCell ⟨b, 1, none⟩ a1).setCell ⟨b, 2, none⟩ a2) b #[a0, a1, a2] t := ((h.set 0 a0).set 1 a1).set 2 a2
theorem blk_other3 {w : World} {b b' : Nat} {cs : Array Value} {t : TypeId} (hne : b ≠ b') (h : Blk w b cs t) (a0 a1 a2 : Value) : Blk (((w.setCell ⟨b', 0, none⟩ a0).setCell ⟨b', 1, none⟩ a1).setCell ⟨b', 2, none⟩ a2) b cs t := ((h.other (a := ⟨b', 0, none⟩) hne a0).other (a := ⟨b', 1, none⟩) hne a1).other (a := ⟨b', 2, none⟩) hne a2
/-- A list of nodes lies at a, in none of the blocks bs. -/
def LS (W : World) (l : List Nd) (a : Option Addr) (bs : List Nat) : Prop := l.length = 0 ∨ ∃ b wA, a = some ⟨b, 0, none⟩ ∧ CellsAre wA W l b 0 ∧ (l.length ≠ 0 → b < W.heap.size) ∧ ∀ k ∈ bs, b ≠ k
theorem CellsAre.lt {w0 w : World} {l : List Nd} {b o : Nat} (h : CellsAre w0 w l b o) (hl : l.length ≠ 0) : b < w.heap.size := by
  obtain ⟨vs, h1, _⟩ := h 0 (by omega)
  exact World.block_lt_of_cell? w ⟨b, o + 0, none⟩ h1
theorem LS.of {wA W : World} {l : List Nd} {a : Option Addr} {b : Nat} {bs : List Nat} (h : l.length = 0 ∨ (a = some ⟨b, 0, none⟩ ∧ CellsAre wA W l b 0 ∧ wA.heap.size ≤ b)) (hk : ∀ k ∈ bs, k < wA.heap.size) : LS W l a bs :=
  h.imp id fun ⟨h1, h2, h3⟩ => ⟨b, wA, h1, h2, h2.lt, fun k hb => by have := hk k hb; omega⟩
theorem LS.below {W W' : World} {l : List Nd} {a : Option Addr} {bs : List Nat} (h : LS W l a bs) (hb : Below W.heap.size W W') : LS W' l a bs :=
  h.imp id fun ⟨b, wA, h1, h2, h3, h4⟩ => ⟨b, wA, h1, h2.keep hb, fun hl => Nat.lt_of_lt_of_le (h3 hl) hb.size, h4⟩
theorem LS.alloc {W : World} {l : List Nd} {a : Option Addr} {bs : List Nat} (h : LS W l a bs) (o : Obj) : LS (W.alloc o) l a (W.heap.size :: bs) := by
  have hb : Below W.heap.size W (W.alloc o) := (Below.refl _ W).alloc (Nat.le_refl _) o
  rcases h with h | ⟨b, wA, h1, h2, h3, h4⟩
  · exact .inl h
  · by_cases hl : l.length = 0
    · exact .inl hl
    · exact .inr ⟨b, wA, h1, h2.keep hb, fun hl => Nat.lt_of_lt_of_le (h3 hl) hb.size, List.forall_mem_cons.2 ⟨Nat.ne_of_lt (h3 hl), h4⟩⟩
theorem LS.set {W : World} {l : List Nd} {a : Option Addr} {bs : List Nat} (h : LS W l a bs) {b : Nat} (hb : b ∈ bs) (o : Nat) (u : Value) : LS (W.setCell ⟨b, o, none⟩ u) l a bs :=
  h.imp id fun ⟨b', wA, h1, h2, h3, h4⟩ => ⟨b', wA, h1, fun i hi => by
    obtain ⟨vs, h5, h6⟩ := h2 i hi
    exact ⟨vs, (World.cell?_of_block (w := W) (Below.heap_setCell W ⟨b, o, none⟩ u b' (h4 b hb))).trans h5, h6⟩, fun hl => by rw [World.size_setCell]; exact h3 hl, h4⟩
theorem LS.set3 {W : World} {l : List Nd} {a : Option Addr} {bs : List Nat} (h : LS W l a bs) {b : Nat} (hb : b ∈ bs) (u0 u1 u2 : Value) : LS (((W.setCell ⟨b, 0, none⟩ u0).setCell ⟨b, 1, none⟩ u1).setCell ⟨b, 2, none⟩ u2) l a bs := ((h.set hb 0 u0).set hb 1 u1).set hb 2 u2
/-- A list of nodes lies at a. -/
def LL (W : World) (l : List Nd) (a : Option Addr) : Prop := l.length = 0 ∨ ∃ b wA, a = some ⟨b, 0, none⟩ ∧ CellsAre wA W l b 0
theorem LS.list {W : World} {l : List Nd} {a : Option Addr} {bs : List Nat} (h : LS W l a bs) : LL W l a := h.imp id fun ⟨b, wA, h1, h2, _⟩ => ⟨b, wA, h1, h2⟩
theorem LL.keep {W W' : World} {l : List Nd} {a : Option Addr} (h : LL W l a) (hb : Below W.heap.size W W') : LL W' l a := h.imp id fun ⟨b, wA, h1, h2⟩ => ⟨b, wA, h1, h2.keep hb⟩

/-- What the project answers for two programs. -/
def equalP (d1 s1 d2 s2 : List Nd) : Bool := decide ((progT d1 s1).lim = 0) && decide ((progT d2 s2).lim = 0) && eqL (progT d1 s1).l (progT d2 s2).l

set_option maxRecDepth 100000 in
set_option maxHeartbeats 40000000 in
theorem equalP_any (d1 s1 d2 s2 : List Nd) (v0 v1 u0 u1 : Value) (w : World) (hd : SlIn w .D d1 v0) (hs : SlIn w .S s1 v1) (hd2 : SlIn w .D d2 u0) (hs2 : SlIn w .S s2 u1) :
    Calls Try.prog 20 #[.agg #[v0, v1], .agg #[u0, u1]] w (fun e w' => e = .returned (.bool (equalP d1 s1 d2 s2)) ∧ Below w.heap.size w w') := by
  have hlen := (progT_ok d1 s1).1
  have hb0 : Below w.heap.size w ((w.alloc (.cells #[v0, v1] 25)).alloc (.cells #[u0, u1] 25)) := ((Below.refl _ w).alloc (Nat.le_refl _) _).alloc (by simp) _
  have HT1 := Lib.hid (fun w1 (hb : Below w.heap.size w w1) => through_any d1 s1 v0 v1 w1 (hd.keep (keeps_below hb)) (hs.keep (keeps_below hb)))
  have HT2 := Lib.hid (fun w1 (hb : Below w.heap.size w w1) => through_any d2 s2 u0 u1 w1 (hd2.keep (keeps_below hb)) (hs2.keep (keeps_below hb)))
  unfold equalP
  obtain ⟨Q1, hQ1⟩ : ∃ Q, progT d1 s1 = Q := ⟨_, rfl⟩
  obtain ⟨Q2, hQ2⟩ : ∃ Q, progT d2 s2 = Q := ⟨_, rfl⟩
  rw [hQ1] at HT1 hlen ⊢
  rw [hQ2] at HT2 ⊢
  clear hQ1 hQ2
  obtain ⟨a0, c0, rfl, -⟩ := hd
  obtain ⟨a1, c1, rfl, -⟩ := hs
  obtain ⟨e0, f0, rfl, -⟩ := hd2
  obtain ⟨e1, f1, rfl, -⟩ := hs2
  obtain ⟨W0, hW0⟩ : ∃ W0, (w.alloc (.cells #[.slice a0 d1.length c0, .slice a1 s1.length c1] 25)).alloc (.cells #[.slice e0 d2.length f0, .slice e1 s2.length f1] 25) = W0 := ⟨_, rfl⟩
  rw [hW0] at hb0
  have hX1 : Blk W0 w.heap.size #[.slice a0 d1.length c0, .slice a1 s1.length c1] 25 := by rw [← hW0]; exact (Blk.new w _ _).alloc _
  have hX2 : Blk W0 (w.heap.size + 1) #[.slice e0 d2.length f0, .slice e1 s2.length f1] 25 := by
    have h := Blk.new (w.alloc (.cells #[.slice a0 d1.length c0, .slice a1 s1.length c1] 25)) #[.slice e0 d2.length f0, .slice e1 s2.length f1] 25
    rw [hW0, World.size_alloc] at h
    exact h
  have X1 := Lib.hid hX1; clear hX1
  have X2 := Lib.hid hX2; clear hX2
  have HBW := Lib.hid hb0; clear hb0
  have HW0 := Lib.hid hW0; clear hW0
  have HLEN := Lib.hid hlen; clear hlen
  go_enter Try.func20, Try.ntmps20
  go_upto_region 1 with fail
  rw [HW0.out]
  clear HW0
  go_cut [5, 6] (fun s s2 wx => ∃ b1 b2 v u, s = .pointer (some ⟨b1, 0, none⟩) ∧ s2 = .pointer (some ⟨b2, 0, none⟩) ∧ Blk wx b1 #[v, .int .i64 Q1.dep, .int .i64 Q1.lim] 71 ∧ Blk wx b2 #[u, .int .i64 Q2.dep, .int .i64 Q2.lim] 71 ∧ (∃ a c, v = .slice a Q1.l.length c ∧ LL wx Q1.l a) ∧ (∃ a c, u = .slice a Q2.l.length c ∧ LL wx Q2.l a) ∧ Below w.heap.size w wx)
  case first =>
    refine wp_region_noPanic ?_
    refine wp_region_held_drew (S := fun w' => Blk w' w.heap.size #[.slice a0 d1.length c0, .slice a1 s1.length c1] 25 ∧ Blk w' (w.heap.size + 1) #[.slice e0 d2.length f0, .slice e1 s2.length f1] 25) (by kernel_rfl) ⟨X1.out, X2.out⟩ (fun _ => ?_)
    replace X1 := Lib.hid (show Blk W0.drew _ _ _ from X1.out)
    replace X2 := Lib.hid (show Blk W0.drew _ _ _ from X2.out)
    replace HBW := Lib.hid (below_drew HBW.out)
    obtain ⟨V0, hV0⟩ : ∃ V, W0.drew = V := ⟨_, rfl⟩
    rw [hV0] at X1 X2 HBW ⊢
    clear hV0
    refine wpAnyH_take (i := 0) (v := .agg #[.slice a0 d1.length c0, .slice a1 s1.length c1]) rfl (by kernel_rfl) (by kernel_rfl) (by kernel_rfl) (fun _ _ _ h => h) (Or.inl ⟨by rfl, ?_⟩) ⟨X1.out, X2.out⟩ ?_
    · intro w' hS
      have k0 : w'.cell? ⟨w.heap.size, 0, none⟩ = some (.slice a0 d1.length c0) := hS.1.cell 0
      have k1 : w'.cell? ⟨w.heap.size, 1, none⟩ = some (.slice a1 s1.length c1) := hS.1.cell 1
      clear hS
      go_simp
    refine wpAnyH_take (i := 2) (v := .agg #[.slice e0 d2.length f0, .slice e1 s2.length f1]) rfl (by kernel_rfl) (by kernel_rfl) (by kernel_rfl) (fun _ _ _ h => h) (Or.inl ⟨by rfl, ?_⟩) ⟨X1.out, X2.out⟩ ?_
    · intro w' hS
      have k0 : w'.cell? ⟨w.heap.size + 1, 0, none⟩ = some (.slice e0 d2.length f0) := hS.2.cell 0
      have k1 : w'.cell? ⟨w.heap.size + 1, 1, none⟩ = some (.slice e1 s2.length f1) := hS.2.cell 1
      clear hS
      go_simp
    refine wpAnyH_ready (rs := [1, 4, 5]) (by kernel_rfl) (by simp) ?_
    refine AllReadyH.cons rfl (fun K hK => ?_) ?_
    · go_simp
      go_wp2_with (first | (go_at_call 30; (with_reducible refine (HT1.out _ HBW.out).mono ?_); rintro e V1 ⟨v, rfl, hl, hb⟩; obtain ⟨z1, z2, z3, rfl, hl⟩ := hl; have HL := Lib.hid hl; clear hl; have HBN := Lib.hid hb; clear hb) | fail)
      have L1 : Hid (LS V1 Q1.l z1 []) := Lib.hid (LS.of HL.out (List.forall_mem_nil _))
      replace X1 := Lib.hid (X1.out.next HBN.out)
      replace X2 := Lib.hid (X2.out.next HBN.out)
      replace HBW := Lib.hid (below_next HBW.out HBN.out)
      clear HL HBN
      refine hK.out _ _ ⟨X1.out, X2.out⟩ (fun _ => ?_)
      clear hK K
      refine wpAnyH_ready (rs := [3, 4, 5]) (by kernel_rfl) (by simp) ?_
      refine AllReadyH.cons rfl (fun K hK => ?_) ?_
      · go_simp
        go_wp2_with (first | (go_at_call 30; (with_reducible refine (HT2.out _ HBW.out).mono ?_); rintro e V2 ⟨v, rfl, hl, hb⟩; obtain ⟨p1, p2, p3, rfl, hl⟩ := hl; have HL := Lib.hid hl; clear hl; have HBN := Lib.hid hb; clear hb) | fail)
        have L2 : Hid (LS V2 Q2.l p1 []) := Lib.hid (LS.of HL.out (List.forall_mem_nil _))
        replace X1 := Lib.hid (X1.out.next HBN.out)
        replace X2 := Lib.hid (X2.out.next HBN.out)
        replace L1 := Lib.hid (L1.out.below HBN.out)
        replace HBW := Lib.hid (below_next HBW.out HBN.out)
        clear HL HBN
        refine hK.out _ _ ⟨X1.out, X2.out⟩ (fun _ => ?_)
        clear hK K
        refine wpAnyH_ready (rs := [4, 5]) (by kernel_rfl) (by simp) ?_
        refine AllReadyH.cons rfl (fun K hK => ?_) ?_
        · go_simp
          have G5 := Lib.hid HBW.out.size
          have M51 := Lib.hid (Nat.ne_of_lt X1.out.lt)
          have M52 := Lib.hid (Nat.ne_of_lt X2.out.lt)
          have B5 := Lib.hid (Blk.new V2 #[.slice none 0 0, .int .i64 0, .int .i64 0] 71)
          replace X1 := Lib.hid (X1.out.alloc (.cells #[.slice none 0 0, .int .i64 0, .int .i64 0] 71))
          replace X2 := Lib.hid (X2.out.alloc (.cells #[.slice none 0 0, .int .i64 0, .int .i64 0] 71))
          replace HBW := Lib.hid (below_alloc HBW.out (.cells #[.slice none 0 0, .int .i64 0, .int .i64 0] 71))
          replace L1 := Lib.hid (L1.out.alloc (.cells #[.slice none 0 0, .int .i64 0, .int .i64 0] 71))
          replace L2 := Lib.hid (L2.out.alloc (.cells #[.slice none 0 0, .int .i64 0, .int .i64 0] 71))
          obtain ⟨b5, hb⟩ : ∃ b, V2.heap.size = b := ⟨_, rfl⟩
          obtain ⟨V3, hW⟩ : ∃ W, V2.alloc (.cells #[.slice none 0 0, .int .i64 0, .int .i64 0] 71) = W := ⟨_, rfl⟩
          rw [hW] at X1 X2 HBW B5 L1 L2 ⊢
          rw [hb] at B5 G5 M51 M52 L1 L2 ⊢
          clear hb hW
          refine hK.out _ _ ⟨X1.out, X2.out⟩ (fun _ => ?_)
          clear hK K
          refine wpAnyH_ready (rs := [5]) (by kernel_rfl) (by simp) ?_
          refine AllReadyH.cons rfl (fun K hK => ?_) ?_
          · go_simp
            have G6 := Lib.hid HBW.out.size
            have M61 := Lib.hid (Nat.ne_of_lt X1.out.lt)
            have M62 := Lib.hid (Nat.ne_of_lt X2.out.lt)
            have N := Nat.ne_of_lt B5.out.lt
            have B6 := Lib.hid (Blk.new V3 #[.slice none 0 0, .int .i64 0, .int .i64 0] 71)
            replace X1 := Lib.hid (X1.out.alloc (.cells #[.slice none 0 0, .int .i64 0, .int .i64 0] 71))
            replace X2 := Lib.hid (X2.out.alloc (.cells #[.slice none 0 0, .int .i64 0, .int .i64 0] 71))
            replace HBW := Lib.hid (below_alloc HBW.out (.cells #[.slice none 0 0, .int .i64 0, .int .i64 0] 71))
            replace B5 := Lib.hid (B5.out.alloc (.cells #[.slice none 0 0, .int .i64 0, .int .i64 0] 71))
            replace L1 := Lib.hid (L1.out.alloc (.cells #[.slice none 0 0, .int .i64 0, .int .i64 0] 71))
            replace L2 := Lib.hid (L2.out.alloc (.cells #[.slice none 0 0, .int .i64 0, .int .i64 0] 71))
            obtain ⟨b6, hb⟩ : ∃ b, V3.heap.size = b := ⟨_, rfl⟩
            obtain ⟨V4, hW⟩ : ∃ W, V3.alloc (.cells #[.slice none 0 0, .int .i64 0, .int .i64 0] 71) = W := ⟨_, rfl⟩
            rw [hW] at X1 X2 HBW B6 B5 L1 L2 ⊢
            rw [hb] at B6 G6 M61 M62 N L1 L2 ⊢
            clear hb hW
            refine hK.out _ _ ⟨X1.out, X2.out⟩ (fun _ => ?_)
            clear hK K
            have N65 := Lib.hid (show b6 ≠ b5 from N.symm)
            clear N
            refine wpAnyH_ready (rs := [6]) (by kernel_rfl) (by simp) ?_
            refine AllReadyH.cons rfl (fun K hK => ?_) ?_
            · obtain ⟨c0', c1', c2', f0', f1', f2'⟩ := blk_facts B5.out
              go_simp
              clear c0' c1' c2' f0' f1' f2'
              replace X1 := Lib.hid (blk_other3 M51.out X1.out (.slice z1 Q1.l.length z3) (.int .i64 Q1.dep) (.int .i64 Q1.lim))
              replace X2 := Lib.hid (blk_other3 M52.out X2.out (.slice z1 Q1.l.length z3) (.int .i64 Q1.dep) (.int .i64 Q1.lim))
              replace B5 := Lib.hid (blk_set3 B5.out (.slice z1 Q1.l.length z3) (.int .i64 Q1.dep) (.int .i64 Q1.lim))
              replace B6 := Lib.hid (blk_other3 N65.out B6.out (.slice z1 Q1.l.length z3) (.int .i64 Q1.dep) (.int .i64 Q1.lim))
              replace L1 := Lib.hid (L1.out.set3 (b := b5) (by simp) (.slice z1 Q1.l.length z3) (.int .i64 Q1.dep) (.int .i64 Q1.lim))
              replace L2 := Lib.hid (L2.out.set3 (b := b5) (by simp) (.slice z1 Q1.l.length z3) (.int .i64 Q1.dep) (.int .i64 Q1.lim))
              replace HBW := Lib.hid (below_set3 G5.out HBW.out (.slice z1 Q1.l.length z3) (.int .i64 Q1.dep) (.int .i64 Q1.lim))
              obtain ⟨V5, hW⟩ : ∃ W, ((V4.setCell ⟨b5, 0, none⟩ (.slice z1 Q1.l.length z3)).setCell ⟨b5, 1, none⟩ (.int .i64 Q1.dep)).setCell ⟨b5, 2, none⟩ (.int .i64 Q1.lim) = W := ⟨_, rfl⟩
              rw [hW] at X1 X2 B5 B6 L1 L2 HBW ⊢
              clear hW
              refine hK.out _ _ ⟨X1.out, X2.out⟩ (fun _ => ?_)
              clear hK K
              refine wpAnyH_ready (rs := [7]) (by kernel_rfl) (by simp) ?_
              refine AllReadyH.cons rfl (fun K hK => ?_) ?_
              · obtain ⟨c0', c1', c2', f0', f1', f2'⟩ := blk_facts B6.out
                go_simp
                clear c0' c1' c2' f0' f1' f2'
                replace X1 := Lib.hid (blk_other3 M61.out X1.out (.slice p1 Q2.l.length p3) (.int .i64 Q2.dep) (.int .i64 Q2.lim))
                replace X2 := Lib.hid (blk_other3 M62.out X2.out (.slice p1 Q2.l.length p3) (.int .i64 Q2.dep) (.int .i64 Q2.lim))
                replace B6 := Lib.hid (blk_set3 B6.out (.slice p1 Q2.l.length p3) (.int .i64 Q2.dep) (.int .i64 Q2.lim))
                replace B5 := Lib.hid (blk_other3 N65.out.symm B5.out (.slice p1 Q2.l.length p3) (.int .i64 Q2.dep) (.int .i64 Q2.lim))
                replace L1 := Lib.hid (L1.out.set3 (b := b6) (by simp) (.slice p1 Q2.l.length p3) (.int .i64 Q2.dep) (.int .i64 Q2.lim))
                replace L2 := Lib.hid (L2.out.set3 (b := b6) (by simp) (.slice p1 Q2.l.length p3) (.int .i64 Q2.dep) (.int .i64 Q2.lim))
                replace HBW := Lib.hid (below_set3 G6.out HBW.out (.slice p1 Q2.l.length p3) (.int .i64 Q2.dep) (.int .i64 Q2.lim))
                obtain ⟨V6, hW⟩ : ∃ W, ((V5.setCell ⟨b6, 0, none⟩ (.slice p1 Q2.l.length p3)).setCell ⟨b6, 1, none⟩ (.int .i64 Q2.dep)).setCell ⟨b6, 2, none⟩ (.int .i64 Q2.lim) = W := ⟨_, rfl⟩
                rw [hW] at X1 X2 B5 B6 L1 L2 HBW ⊢
                clear hW
                refine hK.out _ _ ⟨X1.out, X2.out⟩ (fun _ => ?_)
                clear hK K
                refine wpAnyH_done (by kernel_rfl) ?_ _
                refine NoPanic.normal ?_
                go_wp2_with fail
                go_meet
                exact ⟨b5, b6, .slice z1 Q1.l.length z3, .slice p1 Q2.l.length p3, rfl, rfl, B5.out, B6.out, ⟨z1, z3, rfl, L1.out.list⟩, ⟨p1, p3, rfl, L2.out.list⟩, HBW.out⟩
              exact AllReadyH.nil
            exact AllReadyH.nil
          exact AllReadyH.nil
        refine AllReadyH.cons rfl (fun K hK => ?_) ?_
        · go_simp
          have G6 := Lib.hid HBW.out.size
          have M61 := Lib.hid (Nat.ne_of_lt X1.out.lt)
          have M62 := Lib.hid (Nat.ne_of_lt X2.out.lt)
          have B6 := Lib.hid (Blk.new V2 #[.slice none 0 0, .int .i64 0, .int .i64 0] 71)
          replace X1 := Lib.hid (X1.out.alloc (.cells #[.slice none 0 0, .int .i64 0, .int .i64 0] 71))
          replace X2 := Lib.hid (X2.out.alloc (.cells #[.slice none 0 0, .int .i64 0, .int .i64 0] 71))
          replace HBW := Lib.hid (below_alloc HBW.out (.cells #[.slice none 0 0, .int .i64 0, .int .i64 0] 71))
          replace L1 := Lib.hid (L1.out.alloc (.cells #[.slice none 0 0, .int .i64 0, .int .i64 0] 71))
          replace L2 := Lib.hid (L2.out.alloc (.cells #[.slice none 0 0, .int .i64 0, .int .i64 0] 71))
          obtain ⟨b6, hb⟩ : ∃ b, V2.heap.size = b := ⟨_, rfl⟩
          obtain ⟨V3, hW⟩ : ∃ W, V2.alloc (.cells #[.slice none 0 0, .int .i64 0, .int .i64 0] 71) = W := ⟨_, rfl⟩
          rw [hW] at X1 X2 HBW B6 L1 L2 ⊢
          rw [hb] at B6 G6 M61 M62 L1 L2 ⊢
          clear hb hW
          refine hK.out _ _ ⟨X1.out, X2.out⟩ (fun _ => ?_)
          clear hK K
          refine wpAnyH_ready (rs := [4]) (by kernel_rfl) (by simp) ?_
          refine AllReadyH.cons rfl (fun K hK => ?_) ?_
          · go_simp
            have G5 := Lib.hid HBW.out.size
            have M51 := Lib.hid (Nat.ne_of_lt X1.out.lt)
            have M52 := Lib.hid (Nat.ne_of_lt X2.out.lt)
            have N := Nat.ne_of_lt B6.out.lt
            have B5 := Lib.hid (Blk.new V3 #[.slice none 0 0, .int .i64 0, .int .i64 0] 71)
            replace X1 := Lib.hid (X1.out.alloc (.cells #[.slice none 0 0, .int .i64 0, .int .i64 0] 71))
            replace X2 := Lib.hid (X2.out.alloc (.cells #[.slice none 0 0, .int .i64 0, .int .i64 0] 71))
            replace HBW := Lib.hid (below_alloc HBW.out (.cells #[.slice none 0 0, .int .i64 0, .int .i64 0] 71))
            replace B6 := Lib.hid (B6.out.alloc (.cells #[.slice none 0 0, .int .i64 0, .int .i64 0] 71))
            replace L1 := Lib.hid (L1.out.alloc (.cells #[.slice none 0 0, .int .i64 0, .int .i64 0] 71))
            replace L2 := Lib.hid (L2.out.alloc (.cells #[.slice none 0 0, .int .i64 0, .int .i64 0] 71))
            obtain ⟨b5, hb⟩ : ∃ b, V3.heap.size = b := ⟨_, rfl⟩
            obtain ⟨V4, hW⟩ : ∃ W, V3.alloc (.cells #[.slice none 0 0, .int .i64 0, .int .i64 0] 71) = W := ⟨_, rfl⟩
            rw [hW] at X1 X2 HBW B5 B6 L1 L2 ⊢
            rw [hb] at B5 G5 M51 M52 N L1 L2 ⊢
            clear hb hW
            refine hK.out _ _ ⟨X1.out, X2.out⟩ (fun _ => ?_)
            clear hK K
            have N65 := Lib.hid (show b6 ≠ b5 from N)
            clear N
            refine wpAnyH_ready (rs := [6]) (by kernel_rfl) (by simp) ?_
            refine AllReadyH.cons rfl (fun K hK => ?_) ?_
            · obtain ⟨c0', c1', c2', f0', f1', f2'⟩ := blk_facts B5.out
              go_simp
              clear c0' c1' c2' f0' f1' f2'
              replace X1 := Lib.hid (blk_other3 M51.out X1.out (.slice z1 Q1.l.length z3) (.int .i64 Q1.dep) (.int .i64 Q1.lim))
              replace X2 := Lib.hid (blk_other3 M52.out X2.out (.slice z1 Q1.l.length z3) (.int .i64 Q1.dep) (.int .i64 Q1.lim))
              replace B5 := Lib.hid (blk_set3 B5.out (.slice z1 Q1.l.length z3) (.int .i64 Q1.dep) (.int .i64 Q1.lim))
              replace B6 := Lib.hid (blk_other3 N65.out B6.out (.slice z1 Q1.l.length z3) (.int .i64 Q1.dep) (.int .i64 Q1.lim))
              replace L1 := Lib.hid (L1.out.set3 (b := b5) (by simp) (.slice z1 Q1.l.length z3) (.int .i64 Q1.dep) (.int .i64 Q1.lim))
              replace L2 := Lib.hid (L2.out.set3 (b := b5) (by simp) (.slice z1 Q1.l.length z3) (.int .i64 Q1.dep) (.int .i64 Q1.lim))
              replace HBW := Lib.hid (below_set3 G5.out HBW.out (.slice z1 Q1.l.length z3) (.int .i64 Q1.dep) (.int .i64 Q1.lim))
              obtain ⟨V5, hW⟩ : ∃ W, ((V4.setCell ⟨b5, 0, none⟩ (.slice z1 Q1.l.length z3)).setCell ⟨b5, 1, none⟩ (.int .i64 Q1.dep)).setCell ⟨b5, 2, none⟩ (.int .i64 Q1.lim) = W := ⟨_, rfl⟩
              rw [hW] at X1 X2 B5 B6 L1 L2 HBW ⊢
              clear hW
              refine hK.out _ _ ⟨X1.out, X2.out⟩ (fun _ => ?_)
              clear hK K
              refine wpAnyH_ready (rs := [7]) (by kernel_rfl) (by simp) ?_
              refine AllReadyH.cons rfl (fun K hK => ?_) ?_
              · obtain ⟨c0', c1', c2', f0', f1', f2'⟩ := blk_facts B6.out
                go_simp
                clear c0' c1' c2' f0' f1' f2'
                replace X1 := Lib.hid (blk_other3 M61.out X1.out (.slice p1 Q2.l.length p3) (.int .i64 Q2.dep) (.int .i64 Q2.lim))
                replace X2 := Lib.hid (blk_other3 M62.out X2.out (.slice p1 Q2.l.length p3) (.int .i64 Q2.dep) (.int .i64 Q2.lim))
                replace B6 := Lib.hid (blk_set3 B6.out (.slice p1 Q2.l.length p3) (.int .i64 Q2.dep) (.int .i64 Q2.lim))
                replace B5 := Lib.hid (blk_other3 N65.out.symm B5.out (.slice p1 Q2.l.length p3) (.int .i64 Q2.dep) (.int .i64 Q2.lim))
                replace L1 := Lib.hid (L1.out.set3 (b := b6) (by simp) (.slice p1 Q2.l.length p3) (.int .i64 Q2.dep) (.int .i64 Q2.lim))
                replace L2 := Lib.hid (L2.out.set3 (b := b6) (by simp) (.slice p1 Q2.l.length p3) (.int .i64 Q2.dep) (.int .i64 Q2.lim))
                replace HBW := Lib.hid (below_set3 G6.out HBW.out (.slice p1 Q2.l.length p3) (.int .i64 Q2.dep) (.int .i64 Q2.lim))
                obtain ⟨V6, hW⟩ : ∃ W, ((V5.setCell ⟨b6, 0, none⟩ (.slice p1 Q2.l.length p3)).setCell ⟨b6, 1, none⟩ (.int .i64 Q2.dep)).setCell ⟨b6, 2, none⟩ (.int .i64 Q2.lim) = W := ⟨_, rfl⟩
                rw [hW] at X1 X2 B5 B6 L1 L2 HBW ⊢
                clear hW
                refine hK.out _ _ ⟨X1.out, X2.out⟩ (fun _ => ?_)
                clear hK K
                refine wpAnyH_done (by kernel_rfl) ?_ _
                refine NoPanic.normal ?_
                go_wp2_with fail
                go_meet
                exact ⟨b5, b6, .slice z1 Q1.l.length z3, .slice p1 Q2.l.length p3, rfl, rfl, B5.out, B6.out, ⟨z1, z3, rfl, L1.out.list⟩, ⟨p1, p3, rfl, L2.out.list⟩, HBW.out⟩
              exact AllReadyH.nil
            exact AllReadyH.nil
          exact AllReadyH.nil
        exact AllReadyH.nil
      refine AllReadyH.cons rfl (fun K hK => ?_) ?_
      · go_simp
        have G5 := Lib.hid HBW.out.size
        have M51 := Lib.hid (Nat.ne_of_lt X1.out.lt)
        have M52 := Lib.hid (Nat.ne_of_lt X2.out.lt)
        have B5 := Lib.hid (Blk.new V1 #[.slice none 0 0, .int .i64 0, .int .i64 0] 71)
        replace X1 := Lib.hid (X1.out.alloc (.cells #[.slice none 0 0, .int .i64 0, .int .i64 0] 71))
        replace X2 := Lib.hid (X2.out.alloc (.cells #[.slice none 0 0, .int .i64 0, .int .i64 0] 71))
        replace HBW := Lib.hid (below_alloc HBW.out (.cells #[.slice none 0 0, .int .i64 0, .int .i64 0] 71))
        replace L1 := Lib.hid (L1.out.alloc (.cells #[.slice none 0 0, .int .i64 0, .int .i64 0] 71))
        obtain ⟨b5, hb⟩ : ∃ b, V1.heap.size = b := ⟨_, rfl⟩
        obtain ⟨V2, hW⟩ : ∃ W, V1.alloc (.cells #[.slice none 0 0, .int .i64 0, .int .i64 0] 71) = W := ⟨_, rfl⟩
        rw [hW] at X1 X2 HBW B5 L1 ⊢
        rw [hb] at B5 G5 M51 M52 L1 ⊢
        clear hb hW
        refine hK.out _ _ ⟨X1.out, X2.out⟩ (fun _ => ?_)
        clear hK K
        refine wpAnyH_ready (rs := [3, 5]) (by kernel_rfl) (by simp) ?_
        refine AllReadyH.cons rfl (fun K hK => ?_) ?_
        · go_simp
          go_wp2_with (first | (go_at_call 30; (with_reducible refine (HT2.out _ HBW.out).mono ?_); rintro e V3 ⟨v, rfl, hl, hb⟩; obtain ⟨p1, p2, p3, rfl, hl⟩ := hl; have HL := Lib.hid hl; clear hl; have HBN := Lib.hid hb; clear hb) | fail)
          have L2 : Hid (LS V3 Q2.l p1 [b5]) := Lib.hid (LS.of HL.out (List.forall_mem_cons.2 ⟨B5.out.lt, List.forall_mem_nil _⟩))
          replace X1 := Lib.hid (X1.out.next HBN.out)
          replace X2 := Lib.hid (X2.out.next HBN.out)
          replace B5 := Lib.hid (B5.out.next HBN.out)
          replace L1 := Lib.hid (L1.out.below HBN.out)
          replace HBW := Lib.hid (below_next HBW.out HBN.out)
          clear HL HBN
          refine hK.out _ _ ⟨X1.out, X2.out⟩ (fun _ => ?_)
          clear hK K
          refine wpAnyH_ready (rs := [5]) (by kernel_rfl) (by simp) ?_
          refine AllReadyH.cons rfl (fun K hK => ?_) ?_
          · go_simp
            have G6 := Lib.hid HBW.out.size
            have M61 := Lib.hid (Nat.ne_of_lt X1.out.lt)
            have M62 := Lib.hid (Nat.ne_of_lt X2.out.lt)
            have N := Nat.ne_of_lt B5.out.lt
            have B6 := Lib.hid (Blk.new V3 #[.slice none 0 0, .int .i64 0, .int .i64 0] 71)
            replace X1 := Lib.hid (X1.out.alloc (.cells #[.slice none 0 0, .int .i64 0, .int .i64 0] 71))
            replace X2 := Lib.hid (X2.out.alloc (.cells #[.slice none 0 0, .int .i64 0, .int .i64 0] 71))
            replace HBW := Lib.hid (below_alloc HBW.out (.cells #[.slice none 0 0, .int .i64 0, .int .i64 0] 71))
            replace B5 := Lib.hid (B5.out.alloc (.cells #[.slice none 0 0, .int .i64 0, .int .i64 0] 71))
            replace L1 := Lib.hid (L1.out.alloc (.cells #[.slice none 0 0, .int .i64 0, .int .i64 0] 71))
            replace L2 := Lib.hid (L2.out.alloc (.cells #[.slice none 0 0, .int .i64 0, .int .i64 0] 71))
            obtain ⟨b6, hb⟩ : ∃ b, V3.heap.size = b := ⟨_, rfl⟩
            obtain ⟨V4, hW⟩ : ∃ W, V3.alloc (.cells #[.slice none 0 0, .int .i64 0, .int .i64 0] 71) = W := ⟨_, rfl⟩
            rw [hW] at X1 X2 HBW B6 B5 L1 L2 ⊢
            rw [hb] at B6 G6 M61 M62 N L1 L2 ⊢
            clear hb hW
            refine hK.out _ _ ⟨X1.out, X2.out⟩ (fun _ => ?_)
            clear hK K
            have N65 := Lib.hid (show b6 ≠ b5 from N.symm)
            clear N
            refine wpAnyH_ready (rs := [6]) (by kernel_rfl) (by simp) ?_
            refine AllReadyH.cons rfl (fun K hK => ?_) ?_
            · obtain ⟨c0', c1', c2', f0', f1', f2'⟩ := blk_facts B5.out
              go_simp
              clear c0' c1' c2' f0' f1' f2'
              replace X1 := Lib.hid (blk_other3 M51.out X1.out (.slice z1 Q1.l.length z3) (.int .i64 Q1.dep) (.int .i64 Q1.lim))
              replace X2 := Lib.hid (blk_other3 M52.out X2.out (.slice z1 Q1.l.length z3) (.int .i64 Q1.dep) (.int .i64 Q1.lim))
              replace B5 := Lib.hid (blk_set3 B5.out (.slice z1 Q1.l.length z3) (.int .i64 Q1.dep) (.int .i64 Q1.lim))
              replace B6 := Lib.hid (blk_other3 N65.out B6.out (.slice z1 Q1.l.length z3) (.int .i64 Q1.dep) (.int .i64 Q1.lim))
              replace L1 := Lib.hid (L1.out.set3 (b := b5) (by simp) (.slice z1 Q1.l.length z3) (.int .i64 Q1.dep) (.int .i64 Q1.lim))
              replace L2 := Lib.hid (L2.out.set3 (b := b5) (by simp) (.slice z1 Q1.l.length z3) (.int .i64 Q1.dep) (.int .i64 Q1.lim))
              replace HBW := Lib.hid (below_set3 G5.out HBW.out (.slice z1 Q1.l.length z3) (.int .i64 Q1.dep) (.int .i64 Q1.lim))
              obtain ⟨V5, hW⟩ : ∃ W, ((V4.setCell ⟨b5, 0, none⟩ (.slice z1 Q1.l.length z3)).setCell ⟨b5, 1, none⟩ (.int .i64 Q1.dep)).setCell ⟨b5, 2, none⟩ (.int .i64 Q1.lim) = W := ⟨_, rfl⟩
              rw [hW] at X1 X2 B5 B6 L1 L2 HBW ⊢
              clear hW
              refine hK.out _ _ ⟨X1.out, X2.out⟩ (fun _ => ?_)
              clear hK K
              refine wpAnyH_ready (rs := [7]) (by kernel_rfl) (by simp) ?_
              refine AllReadyH.cons rfl (fun K hK => ?_) ?_
              · obtain ⟨c0', c1', c2', f0', f1', f2'⟩ := blk_facts B6.out
                go_simp
                clear c0' c1' c2' f0' f1' f2'
                replace X1 := Lib.hid (blk_other3 M61.out X1.out (.slice p1 Q2.l.length p3) (.int .i64 Q2.dep) (.int .i64 Q2.lim))
                replace X2 := Lib.hid (blk_other3 M62.out X2.out (.slice p1 Q2.l.length p3) (.int .i64 Q2.dep) (.int .i64 Q2.lim))
                replace B6 := Lib.hid (blk_set3 B6.out (.slice p1 Q2.l.length p3) (.int .i64 Q2.dep) (.int .i64 Q2.lim))
                replace B5 := Lib.hid (blk_other3 N65.out.symm B5.out (.slice p1 Q2.l.length p3) (.int .i64 Q2.dep) (.int .i64 Q2.lim))
                replace L1 := Lib.hid (L1.out.set3 (b := b6) (by simp) (.slice p1 Q2.l.length p3) (.int .i64 Q2.dep) (.int .i64 Q2.lim))
                replace L2 := Lib.hid (L2.out.set3 (b := b6) (by simp) (.slice p1 Q2.l.length p3) (.int .i64 Q2.dep) (.int .i64 Q2.lim))
                replace HBW := Lib.hid (below_set3 G6.out HBW.out (.slice p1 Q2.l.length p3) (.int .i64 Q2.dep) (.int .i64 Q2.lim))
                obtain ⟨V6, hW⟩ : ∃ W, ((V5.setCell ⟨b6, 0, none⟩ (.slice p1 Q2.l.length p3)).setCell ⟨b6, 1, none⟩ (.int .i64 Q2.dep)).setCell ⟨b6, 2, none⟩ (.int .i64 Q2.lim) = W := ⟨_, rfl⟩
                rw [hW] at X1 X2 B5 B6 L1 L2 HBW ⊢
                clear hW
                refine hK.out _ _ ⟨X1.out, X2.out⟩ (fun _ => ?_)
                clear hK K
                refine wpAnyH_done (by kernel_rfl) ?_ _
                refine NoPanic.normal ?_
                go_wp2_with fail
                go_meet
                exact ⟨b5, b6, .slice z1 Q1.l.length z3, .slice p1 Q2.l.length p3, rfl, rfl, B5.out, B6.out, ⟨z1, z3, rfl, L1.out.list⟩, ⟨p1, p3, rfl, L2.out.list⟩, HBW.out⟩
              exact AllReadyH.nil
            exact AllReadyH.nil
          exact AllReadyH.nil
        refine AllReadyH.cons rfl (fun K hK => ?_) ?_
        · go_simp
          have G6 := Lib.hid HBW.out.size
          have M61 := Lib.hid (Nat.ne_of_lt X1.out.lt)
          have M62 := Lib.hid (Nat.ne_of_lt X2.out.lt)
          have N := Nat.ne_of_lt B5.out.lt
          have B6 := Lib.hid (Blk.new V2 #[.slice none 0 0, .int .i64 0, .int .i64 0] 71)
          replace X1 := Lib.hid (X1.out.alloc (.cells #[.slice none 0 0, .int .i64 0, .int .i64 0] 71))
          replace X2 := Lib.hid (X2.out.alloc (.cells #[.slice none 0 0, .int .i64 0, .int .i64 0] 71))
          replace HBW := Lib.hid (below_alloc HBW.out (.cells #[.slice none 0 0, .int .i64 0, .int .i64 0] 71))
          replace B5 := Lib.hid (B5.out.alloc (.cells #[.slice none 0 0, .int .i64 0, .int .i64 0] 71))
          replace L1 := Lib.hid (L1.out.alloc (.cells #[.slice none 0 0, .int .i64 0, .int .i64 0] 71))
          obtain ⟨b6, hb⟩ : ∃ b, V2.heap.size = b := ⟨_, rfl⟩
          obtain ⟨V3, hW⟩ : ∃ W, V2.alloc (.cells #[.slice none 0 0, .int .i64 0, .int .i64 0] 71) = W := ⟨_, rfl⟩
          rw [hW] at X1 X2 HBW B6 B5 L1 ⊢
          rw [hb] at B6 G6 M61 M62 N L1 ⊢
          clear hb hW
          refine hK.out _ _ ⟨X1.out, X2.out⟩ (fun _ => ?_)
          clear hK K
          have N65 := Lib.hid (show b6 ≠ b5 from N.symm)
          clear N
          refine wpAnyH_ready (rs := [3]) (by kernel_rfl) (by simp) ?_
          refine AllReadyH.cons rfl (fun K hK => ?_) ?_
          · go_simp
            go_wp2_with (first | (go_at_call 30; (with_reducible refine (HT2.out _ HBW.out).mono ?_); rintro e V4 ⟨v, rfl, hl, hb⟩; obtain ⟨p1, p2, p3, rfl, hl⟩ := hl; have HL := Lib.hid hl; clear hl; have HBN := Lib.hid hb; clear hb) | fail)
            have L2 : Hid (LS V4 Q2.l p1 [b6, b5]) := Lib.hid (LS.of HL.out (List.forall_mem_cons.2 ⟨B6.out.lt, List.forall_mem_cons.2 ⟨B5.out.lt, List.forall_mem_nil _⟩⟩))
            replace X1 := Lib.hid (X1.out.next HBN.out)
            replace X2 := Lib.hid (X2.out.next HBN.out)
            replace B6 := Lib.hid (B6.out.next HBN.out)
            replace B5 := Lib.hid (B5.out.next HBN.out)
            replace L1 := Lib.hid (L1.out.below HBN.out)
            replace HBW := Lib.hid (below_next HBW.out HBN.out)
            clear HL HBN
            refine hK.out _ _ ⟨X1.out, X2.out⟩ (fun _ => ?_)
            clear hK K
            refine wpAnyH_ready (rs := [6]) (by kernel_rfl) (by simp) ?_
            refine AllReadyH.cons rfl (fun K hK => ?_) ?_
            · obtain ⟨c0', c1', c2', f0', f1', f2'⟩ := blk_facts B5.out
              go_simp
              clear c0' c1' c2' f0' f1' f2'
              replace X1 := Lib.hid (blk_other3 M51.out X1.out (.slice z1 Q1.l.length z3) (.int .i64 Q1.dep) (.int .i64 Q1.lim))
              replace X2 := Lib.hid (blk_other3 M52.out X2.out (.slice z1 Q1.l.length z3) (.int .i64 Q1.dep) (.int .i64 Q1.lim))
              replace B5 := Lib.hid (blk_set3 B5.out (.slice z1 Q1.l.length z3) (.int .i64 Q1.dep) (.int .i64 Q1.lim))
              replace B6 := Lib.hid (blk_other3 N65.out B6.out (.slice z1 Q1.l.length z3) (.int .i64 Q1.dep) (.int .i64 Q1.lim))
              replace L1 := Lib.hid (L1.out.set3 (b := b5) (by simp) (.slice z1 Q1.l.length z3) (.int .i64 Q1.dep) (.int .i64 Q1.lim))
              replace L2 := Lib.hid (L2.out.set3 (b := b5) (by simp) (.slice z1 Q1.l.length z3) (.int .i64 Q1.dep) (.int .i64 Q1.lim))
              replace HBW := Lib.hid (below_set3 G5.out HBW.out (.slice z1 Q1.l.length z3) (.int .i64 Q1.dep) (.int .i64 Q1.lim))
              obtain ⟨V5, hW⟩ : ∃ W, ((V4.setCell ⟨b5, 0, none⟩ (.slice z1 Q1.l.length z3)).setCell ⟨b5, 1, none⟩ (.int .i64 Q1.dep)).setCell ⟨b5, 2, none⟩ (.int .i64 Q1.lim) = W := ⟨_, rfl⟩
              rw [hW] at X1 X2 B5 B6 L1 L2 HBW ⊢
              clear hW
              refine hK.out _ _ ⟨X1.out, X2.out⟩ (fun _ => ?_)
              clear hK K
              refine wpAnyH_ready (rs := [7]) (by kernel_rfl) (by simp) ?_
              refine AllReadyH.cons rfl (fun K hK => ?_) ?_
              · obtain ⟨c0', c1', c2', f0', f1', f2'⟩ := blk_facts B6.out
                go_simp
                clear c0' c1' c2' f0' f1' f2'
                replace X1 := Lib.hid (blk_other3 M61.out X1.out (.slice p1 Q2.l.length p3) (.int .i64 Q2.dep) (.int .i64 Q2.lim))
                replace X2 := Lib.hid (blk_other3 M62.out X2.out (.slice p1 Q2.l.length p3) (.int .i64 Q2.dep) (.int .i64 Q2.lim))
                replace B6 := Lib.hid (blk_set3 B6.out (.slice p1 Q2.l.length p3) (.int .i64 Q2.dep) (.int .i64 Q2.lim))
                replace B5 := Lib.hid (blk_other3 N65.out.symm B5.out (.slice p1 Q2.l.length p3) (.int .i64 Q2.dep) (.int .i64 Q2.lim))
                replace L1 := Lib.hid (L1.out.set3 (b := b6) (by simp) (.slice p1 Q2.l.length p3) (.int .i64 Q2.dep) (.int .i64 Q2.lim))
                replace L2 := Lib.hid (L2.out.set3 (b := b6) (by simp) (.slice p1 Q2.l.length p3) (.int .i64 Q2.dep) (.int .i64 Q2.lim))
                replace HBW := Lib.hid (below_set3 G6.out HBW.out (.slice p1 Q2.l.length p3) (.int .i64 Q2.dep) (.int .i64 Q2.lim))
                obtain ⟨V6, hW⟩ : ∃ W, ((V5.setCell ⟨b6, 0, none⟩ (.slice p1 Q2.l.length p3)).setCell ⟨b6, 1, none⟩ (.int .i64 Q2.dep)).setCell ⟨b6, 2, none⟩ (.int .i64 Q2.lim) = W := ⟨_, rfl⟩
                rw [hW] at X1 X2 B5 B6 L1 L2 HBW ⊢
                clear hW
                refine hK.out _ _ ⟨X1.out, X2.out⟩ (fun _ => ?_)
                clear hK K
                refine wpAnyH_done (by kernel_rfl) ?_ _
                refine NoPanic.normal ?_
                go_wp2_with fail
                go_meet
                exact ⟨b5, b6, .slice z1 Q1.l.length z3, .slice p1 Q2.l.length p3, rfl, rfl, B5.out, B6.out, ⟨z1, z3, rfl, L1.out.list⟩, ⟨p1, p3, rfl, L2.out.list⟩, HBW.out⟩
              exact AllReadyH.nil
            exact AllReadyH.nil
          exact AllReadyH.nil
        exact AllReadyH.nil
      refine AllReadyH.cons rfl (fun K hK => ?_) ?_
      · go_simp
        have G6 := Lib.hid HBW.out.size
        have M61 := Lib.hid (Nat.ne_of_lt X1.out.lt)
        have M62 := Lib.hid (Nat.ne_of_lt X2.out.lt)
        have B6 := Lib.hid (Blk.new V1 #[.slice none 0 0, .int .i64 0, .int .i64 0] 71)
        replace X1 := Lib.hid (X1.out.alloc (.cells #[.slice none 0 0, .int .i64 0, .int .i64 0] 71))
        replace X2 := Lib.hid (X2.out.alloc (.cells #[.slice none 0 0, .int .i64 0, .int .i64 0] 71))
        replace HBW := Lib.hid (below_alloc HBW.out (.cells #[.slice none 0 0, .int .i64 0, .int .i64 0] 71))
        replace L1 := Lib.hid (L1.out.alloc (.cells #[.slice none 0 0, .int .i64 0, .int .i64 0] 71))
        obtain ⟨b6, hb⟩ : ∃ b, V1.heap.size = b := ⟨_, rfl⟩
        obtain ⟨V2, hW⟩ : ∃ W, V1.alloc (.cells #[.slice none 0 0, .int .i64 0, .int .i64 0] 71) = W := ⟨_, rfl⟩
        rw [hW] at X1 X2 HBW B6 L1 ⊢
        rw [hb] at B6 G6 M61 M62 L1 ⊢
        clear hb hW
        refine hK.out _ _ ⟨X1.out, X2.out⟩ (fun _ => ?_)
        clear hK K
        refine wpAnyH_ready (rs := [3, 4]) (by kernel_rfl) (by simp) ?_
        refine AllReadyH.cons rfl (fun K hK => ?_) ?_
        · go_simp
          go_wp2_with (first | (go_at_call 30; (with_reducible refine (HT2.out _ HBW.out).mono ?_); rintro e V3 ⟨v, rfl, hl, hb⟩; obtain ⟨p1, p2, p3, rfl, hl⟩ := hl; have HL := Lib.hid hl; clear hl; have HBN := Lib.hid hb; clear hb) | fail)
          have L2 : Hid (LS V3 Q2.l p1 [b6]) := Lib.hid (LS.of HL.out (List.forall_mem_cons.2 ⟨B6.out.lt, List.forall_mem_nil _⟩))
          replace X1 := Lib.hid (X1.out.next HBN.out)
          replace X2 := Lib.hid (X2.out.next HBN.out)
          replace B6 := Lib.hid (B6.out.next HBN.out)
          replace L1 := Lib.hid (L1.out.below HBN.out)
          replace HBW := Lib.hid (below_next HBW.out HBN.out)
          clear HL HBN
          refine hK.out _ _ ⟨X1.out, X2.out⟩ (fun _ => ?_)
          clear hK K
          refine wpAnyH_ready (rs := [4]) (by kernel_rfl) (by simp) ?_
          refine AllReadyH.cons rfl (fun K hK => ?_) ?_
          · go_simp
            have G5 := Lib.hid HBW.out.size
            have M51 := Lib.hid (Nat.ne_of_lt X1.out.lt)
            have M52 := Lib.hid (Nat.ne_of_lt X2.out.lt)
            have N := Nat.ne_of_lt B6.out.lt
            have B5 := Lib.hid (Blk.new V3 #[.slice none 0 0, .int .i64 0, .int .i64 0] 71)
            replace X1 := Lib.hid (X1.out.alloc (.cells #[.slice none 0 0, .int .i64 0, .int .i64 0] 71))
            replace X2 := Lib.hid (X2.out.alloc (.cells #[.slice none 0 0, .int .i64 0, .int .i64 0] 71))
            replace HBW := Lib.hid (below_alloc HBW.out (.cells #[.slice none 0 0, .int .i64 0, .int .i64 0] 71))
            replace B6 := Lib.hid (B6.out.alloc (.cells #[.slice none 0 0, .int .i64 0, .int .i64 0] 71))
            replace L1 := Lib.hid (L1.out.alloc (.cells #[.slice none 0 0, .int .i64 0, .int .i64 0] 71))
            replace L2 := Lib.hid (L2.out.alloc (.cells #[.slice none 0 0, .int .i64 0, .int .i64 0] 71))
            obtain ⟨b5, hb⟩ : ∃ b, V3.heap.size = b := ⟨_, rfl⟩
            obtain ⟨V4, hW⟩ : ∃ W, V3.alloc (.cells #[.slice none 0 0, .int .i64 0, .int .i64 0] 71) = W := ⟨_, rfl⟩
            rw [hW] at X1 X2 HBW B5 B6 L1 L2 ⊢
            rw [hb] at B5 G5 M51 M52 N L1 L2 ⊢
            clear hb hW
            refine hK.out _ _ ⟨X1.out, X2.out⟩ (fun _ => ?_)
            clear hK K
            have N65 := Lib.hid (show b6 ≠ b5 from N)
            clear N
            refine wpAnyH_ready (rs := [6]) (by kernel_rfl) (by simp) ?_
            refine AllReadyH.cons rfl (fun K hK => ?_) ?_
            · obtain ⟨c0', c1', c2', f0', f1', f2'⟩ := blk_facts B5.out
              go_simp
              clear c0' c1' c2' f0' f1' f2'
              replace X1 := Lib.hid (blk_other3 M51.out X1.out (.slice z1 Q1.l.length z3) (.int .i64 Q1.dep) (.int .i64 Q1.lim))
              replace X2 := Lib.hid (blk_other3 M52.out X2.out (.slice z1 Q1.l.length z3) (.int .i64 Q1.dep) (.int .i64 Q1.lim))
              replace B5 := Lib.hid (blk_set3 B5.out (.slice z1 Q1.l.length z3) (.int .i64 Q1.dep) (.int .i64 Q1.lim))
              replace B6 := Lib.hid (blk_other3 N65.out B6.out (.slice z1 Q1.l.length z3) (.int .i64 Q1.dep) (.int .i64 Q1.lim))
              replace L1 := Lib.hid (L1.out.set3 (b := b5) (by simp) (.slice z1 Q1.l.length z3) (.int .i64 Q1.dep) (.int .i64 Q1.lim))
              replace L2 := Lib.hid (L2.out.set3 (b := b5) (by simp) (.slice z1 Q1.l.length z3) (.int .i64 Q1.dep) (.int .i64 Q1.lim))
              replace HBW := Lib.hid (below_set3 G5.out HBW.out (.slice z1 Q1.l.length z3) (.int .i64 Q1.dep) (.int .i64 Q1.lim))
              obtain ⟨V5, hW⟩ : ∃ W, ((V4.setCell ⟨b5, 0, none⟩ (.slice z1 Q1.l.length z3)).setCell ⟨b5, 1, none⟩ (.int .i64 Q1.dep)).setCell ⟨b5, 2, none⟩ (.int .i64 Q1.lim) = W := ⟨_, rfl⟩
              rw [hW] at X1 X2 B5 B6 L1 L2 HBW ⊢
              clear hW
              refine hK.out _ _ ⟨X1.out, X2.out⟩ (fun _ => ?_)
              clear hK K
              refine wpAnyH_ready (rs := [7]) (by kernel_rfl) (by simp) ?_
              refine AllReadyH.cons rfl (fun K hK => ?_) ?_
              · obtain ⟨c0', c1', c2', f0', f1', f2'⟩ := blk_facts B6.out
                go_simp
                clear c0' c1' c2' f0' f1' f2'
                replace X1 := Lib.hid (blk_other3 M61.out X1.out (.slice p1 Q2.l.length p3) (.int .i64 Q2.dep) (.int .i64 Q2.lim))
                replace X2 := Lib.hid (blk_other3 M62.out X2.out (.slice p1 Q2.l.length p3) (.int .i64 Q2.dep) (.int .i64 Q2.lim))
                replace B6 := Lib.hid (blk_set3 B6.out (.slice p1 Q2.l.length p3) (.int .i64 Q2.dep) (.int .i64 Q2.lim))
                replace B5 := Lib.hid (blk_other3 N65.out.symm B5.out (.slice p1 Q2.l.length p3) (.int .i64 Q2.dep) (.int .i64 Q2.lim))
                replace L1 := Lib.hid (L1.out.set3 (b := b6) (by simp) (.slice p1 Q2.l.length p3) (.int .i64 Q2.dep) (.int .i64 Q2.lim))
                replace L2 := Lib.hid (L2.out.set3 (b := b6) (by simp) (.slice p1 Q2.l.length p3) (.int .i64 Q2.dep) (.int .i64 Q2.lim))
                replace HBW := Lib.hid (below_set3 G6.out HBW.out (.slice p1 Q2.l.length p3) (.int .i64 Q2.dep) (.int .i64 Q2.lim))
                obtain ⟨V6, hW⟩ : ∃ W, ((V5.setCell ⟨b6, 0, none⟩ (.slice p1 Q2.l.length p3)).setCell ⟨b6, 1, none⟩ (.int .i64 Q2.dep)).setCell ⟨b6, 2, none⟩ (.int .i64 Q2.lim) = W := ⟨_, rfl⟩
                rw [hW] at X1 X2 B5 B6 L1 L2 HBW ⊢
                clear hW
                refine hK.out _ _ ⟨X1.out, X2.out⟩ (fun _ => ?_)
                clear hK K
                refine wpAnyH_done (by kernel_rfl) ?_ _
                refine NoPanic.normal ?_
                go_wp2_with fail
                go_meet
                exact ⟨b5, b6, .slice z1 Q1.l.length z3, .slice p1 Q2.l.length p3, rfl, rfl, B5.out, B6.out, ⟨z1, z3, rfl, L1.out.list⟩, ⟨p1, p3, rfl, L2.out.list⟩, HBW.out⟩
              exact AllReadyH.nil
            exact AllReadyH.nil
          exact AllReadyH.nil
        refine AllReadyH.cons rfl (fun K hK => ?_) ?_
        · go_simp
          have G5 := Lib.hid HBW.out.size
          have M51 := Lib.hid (Nat.ne_of_lt X1.out.lt)
          have M52 := Lib.hid (Nat.ne_of_lt X2.out.lt)
          have N := Nat.ne_of_lt B6.out.lt
          have B5 := Lib.hid (Blk.new V2 #[.slice none 0 0, .int .i64 0, .int .i64 0] 71)
          replace X1 := Lib.hid (X1.out.alloc (.cells #[.slice none 0 0, .int .i64 0, .int .i64 0] 71))
          replace X2 := Lib.hid (X2.out.alloc (.cells #[.slice none 0 0, .int .i64 0, .int .i64 0] 71))
          replace HBW := Lib.hid (below_alloc HBW.out (.cells #[.slice none 0 0, .int .i64 0, .int .i64 0] 71))
          replace B6 := Lib.hid (B6.out.alloc (.cells #[.slice none 0 0, .int .i64 0, .int .i64 0] 71))
          replace L1 := Lib.hid (L1.out.alloc (.cells #[.slice none 0 0, .int .i64 0, .int .i64 0] 71))
          obtain ⟨b5, hb⟩ : ∃ b, V2.heap.size = b := ⟨_, rfl⟩
          obtain ⟨V3, hW⟩ : ∃ W, V2.alloc (.cells #[.slice none 0 0, .int .i64 0, .int .i64 0] 71) = W := ⟨_, rfl⟩
          rw [hW] at X1 X2 HBW B5 B6 L1 ⊢
          rw [hb] at B5 G5 M51 M52 N L1 ⊢
          clear hb hW
          refine hK.out _ _ ⟨X1.out, X2.out⟩ (fun _ => ?_)
          clear hK K
          have N65 := Lib.hid (show b6 ≠ b5 from N)
          clear N
          refine wpAnyH_ready (rs := [3]) (by kernel_rfl) (by simp) ?_
          refine AllReadyH.cons rfl (fun K hK => ?_) ?_
          · go_simp
            go_wp2_with (first | (go_at_call 30; (with_reducible refine (HT2.out _ HBW.out).mono ?_); rintro e V4 ⟨v, rfl, hl, hb⟩; obtain ⟨p1, p2, p3, rfl, hl⟩ := hl; have HL := Lib.hid hl; clear hl; have HBN := Lib.hid hb; clear hb) | fail)
            have L2 : Hid (LS V4 Q2.l p1 [b5, b6]) := Lib.hid (LS.of HL.out (List.forall_mem_cons.2 ⟨B5.out.lt, List.forall_mem_cons.2 ⟨B6.out.lt, List.forall_mem_nil _⟩⟩))
            replace X1 := Lib.hid (X1.out.next HBN.out)
            replace X2 := Lib.hid (X2.out.next HBN.out)
            replace B5 := Lib.hid (B5.out.next HBN.out)
            replace B6 := Lib.hid (B6.out.next HBN.out)
            replace L1 := Lib.hid (L1.out.below HBN.out)
            replace HBW := Lib.hid (below_next HBW.out HBN.out)
            clear HL HBN
            refine hK.out _ _ ⟨X1.out, X2.out⟩ (fun _ => ?_)
            clear hK K
            refine wpAnyH_ready (rs := [6]) (by kernel_rfl) (by simp) ?_
            refine AllReadyH.cons rfl (fun K hK => ?_) ?_
            · obtain ⟨c0', c1', c2', f0', f1', f2'⟩ := blk_facts B5.out
              go_simp
              clear c0' c1' c2' f0' f1' f2'
              replace X1 := Lib.hid (blk_other3 M51.out X1.out (.slice z1 Q1.l.length z3) (.int .i64 Q1.dep) (.int .i64 Q1.lim))
              replace X2 := Lib.hid (blk_other3 M52.out X2.out (.slice z1 Q1.l.length z3) (.int .i64 Q1.dep) (.int .i64 Q1.lim))
              replace B5 := Lib.hid (blk_set3 B5.out (.slice z1 Q1.l.length z3) (.int .i64 Q1.dep) (.int .i64 Q1.lim))
              replace B6 := Lib.hid (blk_other3 N65.out B6.out (.slice z1 Q1.l.length z3) (.int .i64 Q1.dep) (.int .i64 Q1.lim))
              replace L1 := Lib.hid (L1.out.set3 (b := b5) (by simp) (.slice z1 Q1.l.length z3) (.int .i64 Q1.dep) (.int .i64 Q1.lim))
              replace L2 := Lib.hid (L2.out.set3 (b := b5) (by simp) (.slice z1 Q1.l.length z3) (.int .i64 Q1.dep) (.int .i64 Q1.lim))
              replace HBW := Lib.hid (below_set3 G5.out HBW.out (.slice z1 Q1.l.length z3) (.int .i64 Q1.dep) (.int .i64 Q1.lim))
              obtain ⟨V5, hW⟩ : ∃ W, ((V4.setCell ⟨b5, 0, none⟩ (.slice z1 Q1.l.length z3)).setCell ⟨b5, 1, none⟩ (.int .i64 Q1.dep)).setCell ⟨b5, 2, none⟩ (.int .i64 Q1.lim) = W := ⟨_, rfl⟩
              rw [hW] at X1 X2 B5 B6 L1 L2 HBW ⊢
              clear hW
              refine hK.out _ _ ⟨X1.out, X2.out⟩ (fun _ => ?_)
              clear hK K
              refine wpAnyH_ready (rs := [7]) (by kernel_rfl) (by simp) ?_
              refine AllReadyH.cons rfl (fun K hK => ?_) ?_
              · obtain ⟨c0', c1', c2', f0', f1', f2'⟩ := blk_facts B6.out
                go_simp
                clear c0' c1' c2' f0' f1' f2'
                replace X1 := Lib.hid (blk_other3 M61.out X1.out (.slice p1 Q2.l.length p3) (.int .i64 Q2.dep) (.int .i64 Q2.lim))
                replace X2 := Lib.hid (blk_other3 M62.out X2.out (.slice p1 Q2.l.length p3) (.int .i64 Q2.dep) (.int .i64 Q2.lim))
                replace B6 := Lib.hid (blk_set3 B6.out (.slice p1 Q2.l.length p3) (.int .i64 Q2.dep) (.int .i64 Q2.lim))
                replace B5 := Lib.hid (blk_other3 N65.out.symm B5.out (.slice p1 Q2.l.length p3) (.int .i64 Q2.dep) (.int .i64 Q2.lim))
                replace L1 := Lib.hid (L1.out.set3 (b := b6) (by simp) (.slice p1 Q2.l.length p3) (.int .i64 Q2.dep) (.int .i64 Q2.lim))
                replace L2 := Lib.hid (L2.out.set3 (b := b6) (by simp) (.slice p1 Q2.l.length p3) (.int .i64 Q2.dep) (.int .i64 Q2.lim))
                replace HBW := Lib.hid (below_set3 G6.out HBW.out (.slice p1 Q2.l.length p3) (.int .i64 Q2.dep) (.int .i64 Q2.lim))
                obtain ⟨V6, hW⟩ : ∃ W, ((V5.setCell ⟨b6, 0, none⟩ (.slice p1 Q2.l.length p3)).setCell ⟨b6, 1, none⟩ (.int .i64 Q2.dep)).setCell ⟨b6, 2, none⟩ (.int .i64 Q2.lim) = W := ⟨_, rfl⟩
                rw [hW] at X1 X2 B5 B6 L1 L2 HBW ⊢
                clear hW
                refine hK.out _ _ ⟨X1.out, X2.out⟩ (fun _ => ?_)
                clear hK K
                refine wpAnyH_done (by kernel_rfl) ?_ _
                refine NoPanic.normal ?_
                go_wp2_with fail
                go_meet
                exact ⟨b5, b6, .slice z1 Q1.l.length z3, .slice p1 Q2.l.length p3, rfl, rfl, B5.out, B6.out, ⟨z1, z3, rfl, L1.out.list⟩, ⟨p1, p3, rfl, L2.out.list⟩, HBW.out⟩
              exact AllReadyH.nil
            exact AllReadyH.nil
          exact AllReadyH.nil
        exact AllReadyH.nil
      exact AllReadyH.nil
    refine AllReadyH.cons rfl (fun K hK => ?_) ?_
    · go_simp
      have G5 := Lib.hid HBW.out.size
      have M51 := Lib.hid (Nat.ne_of_lt X1.out.lt)
      have M52 := Lib.hid (Nat.ne_of_lt X2.out.lt)
      have B5 := Lib.hid (Blk.new V0 #[.slice none 0 0, .int .i64 0, .int .i64 0] 71)
      replace X1 := Lib.hid (X1.out.alloc (.cells #[.slice none 0 0, .int .i64 0, .int .i64 0] 71))
      replace X2 := Lib.hid (X2.out.alloc (.cells #[.slice none 0 0, .int .i64 0, .int .i64 0] 71))
      replace HBW := Lib.hid (below_alloc HBW.out (.cells #[.slice none 0 0, .int .i64 0, .int .i64 0] 71))
      obtain ⟨b5, hb⟩ : ∃ b, V0.heap.size = b := ⟨_, rfl⟩
      obtain ⟨V1, hW⟩ : ∃ W, V0.alloc (.cells #[.slice none 0 0, .int .i64 0, .int .i64 0] 71) = W := ⟨_, rfl⟩
      rw [hW] at X1 X2 HBW B5 ⊢
      rw [hb] at B5 G5 M51 M52 ⊢
      clear hb hW
      refine hK.out _ _ ⟨X1.out, X2.out⟩ (fun _ => ?_)
      clear hK K
      refine wpAnyH_ready (rs := [1, 5]) (by kernel_rfl) (by simp) ?_
      refine AllReadyH.cons rfl (fun K hK => ?_) ?_
      · go_simp
        go_wp2_with (first | (go_at_call 30; (with_reducible refine (HT1.out _ HBW.out).mono ?_); rintro e V2 ⟨v, rfl, hl, hb⟩; obtain ⟨z1, z2, z3, rfl, hl⟩ := hl; have HL := Lib.hid hl; clear hl; have HBN := Lib.hid hb; clear hb) | fail)
        have L1 : Hid (LS V2 Q1.l z1 [b5]) := Lib.hid (LS.of HL.out (List.forall_mem_cons.2 ⟨B5.out.lt, List.forall_mem_nil _⟩))
        replace X1 := Lib.hid (X1.out.next HBN.out)
        replace X2 := Lib.hid (X2.out.next HBN.out)
        replace B5 := Lib.hid (B5.out.next HBN.out)
        replace HBW := Lib.hid (below_next HBW.out HBN.out)
        clear HL HBN
        refine hK.out _ _ ⟨X1.out, X2.out⟩ (fun _ => ?_)
        clear hK K
        refine wpAnyH_ready (rs := [3, 5]) (by kernel_rfl) (by simp) ?_
        refine AllReadyH.cons rfl (fun K hK => ?_) ?_
        · go_simp
          go_wp2_with (first | (go_at_call 30; (with_reducible refine (HT2.out _ HBW.out).mono ?_); rintro e V3 ⟨v, rfl, hl, hb⟩; obtain ⟨p1, p2, p3, rfl, hl⟩ := hl; have HL := Lib.hid hl; clear hl; have HBN := Lib.hid hb; clear hb) | fail)
          have L2 : Hid (LS V3 Q2.l p1 [b5]) := Lib.hid (LS.of HL.out (List.forall_mem_cons.2 ⟨B5.out.lt, List.forall_mem_nil _⟩))
          replace X1 := Lib.hid (X1.out.next HBN.out)
          replace X2 := Lib.hid (X2.out.next HBN.out)
          replace B5 := Lib.hid (B5.out.next HBN.out)
          replace L1 := Lib.hid (L1.out.below HBN.out)
          replace HBW := Lib.hid (below_next HBW.out HBN.out)
          clear HL HBN
          refine hK.out _ _ ⟨X1.out, X2.out⟩ (fun _ => ?_)
          clear hK K
          refine wpAnyH_ready (rs := [5]) (by kernel_rfl) (by simp) ?_
          refine AllReadyH.cons rfl (fun K hK => ?_) ?_
          · go_simp
            have G6 := Lib.hid HBW.out.size
            have M61 := Lib.hid (Nat.ne_of_lt X1.out.lt)
            have M62 := Lib.hid (Nat.ne_of_lt X2.out.lt)
            have N := Nat.ne_of_lt B5.out.lt
            have B6 := Lib.hid (Blk.new V3 #[.slice none 0 0, .int .i64 0, .int .i64 0] 71)
            replace X1 := Lib.hid (X1.out.alloc (.cells #[.slice none 0 0, .int .i64 0, .int .i64 0] 71))
            replace X2 := Lib.hid (X2.out.alloc (.cells #[.slice none 0 0, .int .i64 0, .int .i64 0] 71))
            replace HBW := Lib.hid (below_alloc HBW.out (.cells #[.slice none 0 0, .int .i64 0, .int .i64 0] 71))
            replace B5 := Lib.hid (B5.out.alloc (.cells #[.slice none 0 0, .int .i64 0, .int .i64 0] 71))
            replace L1 := Lib.hid (L1.out.alloc (.cells #[.slice none 0 0, .int .i64 0, .int .i64 0] 71))
            replace L2 := Lib.hid (L2.out.alloc (.cells #[.slice none 0 0, .int .i64 0, .int .i64 0] 71))
            obtain ⟨b6, hb⟩ : ∃ b, V3.heap.size = b := ⟨_, rfl⟩
            obtain ⟨V4, hW⟩ : ∃ W, V3.alloc (.cells #[.slice none 0 0, .int .i64 0, .int .i64 0] 71) = W := ⟨_, rfl⟩
            rw [hW] at X1 X2 HBW B6 B5 L1 L2 ⊢
            rw [hb] at B6 G6 M61 M62 N L1 L2 ⊢
            clear hb hW
            refine hK.out _ _ ⟨X1.out, X2.out⟩ (fun _ => ?_)
            clear hK K
            have N65 := Lib.hid (show b6 ≠ b5 from N.symm)
            clear N
            refine wpAnyH_ready (rs := [6]) (by kernel_rfl) (by simp) ?_
            refine AllReadyH.cons rfl (fun K hK => ?_) ?_
            · obtain ⟨c0', c1', c2', f0', f1', f2'⟩ := blk_facts B5.out
              go_simp
              clear c0' c1' c2' f0' f1' f2'
              replace X1 := Lib.hid (blk_other3 M51.out X1.out (.slice z1 Q1.l.length z3) (.int .i64 Q1.dep) (.int .i64 Q1.lim))
              replace X2 := Lib.hid (blk_other3 M52.out X2.out (.slice z1 Q1.l.length z3) (.int .i64 Q1.dep) (.int .i64 Q1.lim))
              replace B5 := Lib.hid (blk_set3 B5.out (.slice z1 Q1.l.length z3) (.int .i64 Q1.dep) (.int .i64 Q1.lim))
              replace B6 := Lib.hid (blk_other3 N65.out B6.out (.slice z1 Q1.l.length z3) (.int .i64 Q1.dep) (.int .i64 Q1.lim))
              replace L1 := Lib.hid (L1.out.set3 (b := b5) (by simp) (.slice z1 Q1.l.length z3) (.int .i64 Q1.dep) (.int .i64 Q1.lim))
              replace L2 := Lib.hid (L2.out.set3 (b := b5) (by simp) (.slice z1 Q1.l.length z3) (.int .i64 Q1.dep) (.int .i64 Q1.lim))
              replace HBW := Lib.hid (below_set3 G5.out HBW.out (.slice z1 Q1.l.length z3) (.int .i64 Q1.dep) (.int .i64 Q1.lim))
              obtain ⟨V5, hW⟩ : ∃ W, ((V4.setCell ⟨b5, 0, none⟩ (.slice z1 Q1.l.length z3)).setCell ⟨b5, 1, none⟩ (.int .i64 Q1.dep)).setCell ⟨b5, 2, none⟩ (.int .i64 Q1.lim) = W := ⟨_, rfl⟩
              rw [hW] at X1 X2 B5 B6 L1 L2 HBW ⊢
              clear hW
              refine hK.out _ _ ⟨X1.out, X2.out⟩ (fun _ => ?_)
              clear hK K
              refine wpAnyH_ready (rs := [7]) (by kernel_rfl) (by simp) ?_
              refine AllReadyH.cons rfl (fun K hK => ?_) ?_
              · obtain ⟨c0', c1', c2', f0', f1', f2'⟩ := blk_facts B6.out
                go_simp
                clear c0' c1' c2' f0' f1' f2'
                replace X1 := Lib.hid (blk_other3 M61.out X1.out (.slice p1 Q2.l.length p3) (.int .i64 Q2.dep) (.int .i64 Q2.lim))
                replace X2 := Lib.hid (blk_other3 M62.out X2.out (.slice p1 Q2.l.length p3) (.int .i64 Q2.dep) (.int .i64 Q2.lim))
                replace B6 := Lib.hid (blk_set3 B6.out (.slice p1 Q2.l.length p3) (.int .i64 Q2.dep) (.int .i64 Q2.lim))
                replace B5 := Lib.hid (blk_other3 N65.out.symm B5.out (.slice p1 Q2.l.length p3) (.int .i64 Q2.dep) (.int .i64 Q2.lim))
                replace L1 := Lib.hid (L1.out.set3 (b := b6) (by simp) (.slice p1 Q2.l.length p3) (.int .i64 Q2.dep) (.int .i64 Q2.lim))
                replace L2 := Lib.hid (L2.out.set3 (b := b6) (by simp) (.slice p1 Q2.l.length p3) (.int .i64 Q2.dep) (.int .i64 Q2.lim))
                replace HBW := Lib.hid (below_set3 G6.out HBW.out (.slice p1 Q2.l.length p3) (.int .i64 Q2.dep) (.int .i64 Q2.lim))
                obtain ⟨V6, hW⟩ : ∃ W, ((V5.setCell ⟨b6, 0, none⟩ (.slice p1 Q2.l.length p3)).setCell ⟨b6, 1, none⟩ (.int .i64 Q2.dep)).setCell ⟨b6, 2, none⟩ (.int .i64 Q2.lim) = W := ⟨_, rfl⟩
                rw [hW] at X1 X2 B5 B6 L1 L2 HBW ⊢
                clear hW
                refine hK.out _ _ ⟨X1.out, X2.out⟩ (fun _ => ?_)
                clear hK K
                refine wpAnyH_done (by kernel_rfl) ?_ _
                refine NoPanic.normal ?_
                go_wp2_with fail
                go_meet
                exact ⟨b5, b6, .slice z1 Q1.l.length z3, .slice p1 Q2.l.length p3, rfl, rfl, B5.out, B6.out, ⟨z1, z3, rfl, L1.out.list⟩, ⟨p1, p3, rfl, L2.out.list⟩, HBW.out⟩
              exact AllReadyH.nil
            exact AllReadyH.nil
          exact AllReadyH.nil
        refine AllReadyH.cons rfl (fun K hK => ?_) ?_
        · go_simp
          have G6 := Lib.hid HBW.out.size
          have M61 := Lib.hid (Nat.ne_of_lt X1.out.lt)
          have M62 := Lib.hid (Nat.ne_of_lt X2.out.lt)
          have N := Nat.ne_of_lt B5.out.lt
          have B6 := Lib.hid (Blk.new V2 #[.slice none 0 0, .int .i64 0, .int .i64 0] 71)
          replace X1 := Lib.hid (X1.out.alloc (.cells #[.slice none 0 0, .int .i64 0, .int .i64 0] 71))
          replace X2 := Lib.hid (X2.out.alloc (.cells #[.slice none 0 0, .int .i64 0, .int .i64 0] 71))
          replace HBW := Lib.hid (below_alloc HBW.out (.cells #[.slice none 0 0, .int .i64 0, .int .i64 0] 71))
          replace B5 := Lib.hid (B5.out.alloc (.cells #[.slice none 0 0, .int .i64 0, .int .i64 0] 71))
          replace L1 := Lib.hid (L1.out.alloc (.cells #[.slice none 0 0, .int .i64 0, .int .i64 0] 71))
          obtain ⟨b6, hb⟩ : ∃ b, V2.heap.size = b := ⟨_, rfl⟩
          obtain ⟨V3, hW⟩ : ∃ W, V2.alloc (.cells #[.slice none 0 0, .int .i64 0, .int .i64 0] 71) = W := ⟨_, rfl⟩
          rw [hW] at X1 X2 HBW B6 B5 L1 ⊢
          rw [hb] at B6 G6 M61 M62 N L1 ⊢
          clear hb hW
          refine hK.out _ _ ⟨X1.out, X2.out⟩ (fun _ => ?_)
          clear hK K
          have N65 := Lib.hid (show b6 ≠ b5 from N.symm)
          clear N
          refine wpAnyH_ready (rs := [3]) (by kernel_rfl) (by simp) ?_
          refine AllReadyH.cons rfl (fun K hK => ?_) ?_
          · go_simp
            go_wp2_with (first | (go_at_call 30; (with_reducible refine (HT2.out _ HBW.out).mono ?_); rintro e V4 ⟨v, rfl, hl, hb⟩; obtain ⟨p1, p2, p3, rfl, hl⟩ := hl; have HL := Lib.hid hl; clear hl; have HBN := Lib.hid hb; clear hb) | fail)
            have L2 : Hid (LS V4 Q2.l p1 [b6, b5]) := Lib.hid (LS.of HL.out (List.forall_mem_cons.2 ⟨B6.out.lt, List.forall_mem_cons.2 ⟨B5.out.lt, List.forall_mem_nil _⟩⟩))
            replace X1 := Lib.hid (X1.out.next HBN.out)
            replace X2 := Lib.hid (X2.out.next HBN.out)
            replace B6 := Lib.hid (B6.out.next HBN.out)
            replace B5 := Lib.hid (B5.out.next HBN.out)
            replace L1 := Lib.hid (L1.out.below HBN.out)
            replace HBW := Lib.hid (below_next HBW.out HBN.out)
            clear HL HBN
            refine hK.out _ _ ⟨X1.out, X2.out⟩ (fun _ => ?_)
            clear hK K
            refine wpAnyH_ready (rs := [6]) (by kernel_rfl) (by simp) ?_
            refine AllReadyH.cons rfl (fun K hK => ?_) ?_
            · obtain ⟨c0', c1', c2', f0', f1', f2'⟩ := blk_facts B5.out
              go_simp
              clear c0' c1' c2' f0' f1' f2'
              replace X1 := Lib.hid (blk_other3 M51.out X1.out (.slice z1 Q1.l.length z3) (.int .i64 Q1.dep) (.int .i64 Q1.lim))
              replace X2 := Lib.hid (blk_other3 M52.out X2.out (.slice z1 Q1.l.length z3) (.int .i64 Q1.dep) (.int .i64 Q1.lim))
              replace B5 := Lib.hid (blk_set3 B5.out (.slice z1 Q1.l.length z3) (.int .i64 Q1.dep) (.int .i64 Q1.lim))
              replace B6 := Lib.hid (blk_other3 N65.out B6.out (.slice z1 Q1.l.length z3) (.int .i64 Q1.dep) (.int .i64 Q1.lim))
              replace L1 := Lib.hid (L1.out.set3 (b := b5) (by simp) (.slice z1 Q1.l.length z3) (.int .i64 Q1.dep) (.int .i64 Q1.lim))
              replace L2 := Lib.hid (L2.out.set3 (b := b5) (by simp) (.slice z1 Q1.l.length z3) (.int .i64 Q1.dep) (.int .i64 Q1.lim))
              replace HBW := Lib.hid (below_set3 G5.out HBW.out (.slice z1 Q1.l.length z3) (.int .i64 Q1.dep) (.int .i64 Q1.lim))
              obtain ⟨V5, hW⟩ : ∃ W, ((V4.setCell ⟨b5, 0, none⟩ (.slice z1 Q1.l.length z3)).setCell ⟨b5, 1, none⟩ (.int .i64 Q1.dep)).setCell ⟨b5, 2, none⟩ (.int .i64 Q1.lim) = W := ⟨_, rfl⟩
              rw [hW] at X1 X2 B5 B6 L1 L2 HBW ⊢
              clear hW
              refine hK.out _ _ ⟨X1.out, X2.out⟩ (fun _ => ?_)
              clear hK K
              refine wpAnyH_ready (rs := [7]) (by kernel_rfl) (by simp) ?_
              refine AllReadyH.cons rfl (fun K hK => ?_) ?_
              · obtain ⟨c0', c1', c2', f0', f1', f2'⟩ := blk_facts B6.out
                go_simp
                clear c0' c1' c2' f0' f1' f2'
                replace X1 := Lib.hid (blk_other3 M61.out X1.out (.slice p1 Q2.l.length p3) (.int .i64 Q2.dep) (.int .i64 Q2.lim))
                replace X2 := Lib.hid (blk_other3 M62.out X2.out (.slice p1 Q2.l.length p3) (.int .i64 Q2.dep) (.int .i64 Q2.lim))
                replace B6 := Lib.hid (blk_set3 B6.out (.slice p1 Q2.l.length p3) (.int .i64 Q2.dep) (.int .i64 Q2.lim))
                replace B5 := Lib.hid (blk_other3 N65.out.symm B5.out (.slice p1 Q2.l.length p3) (.int .i64 Q2.dep) (.int .i64 Q2.lim))
                replace L1 := Lib.hid (L1.out.set3 (b := b6) (by simp) (.slice p1 Q2.l.length p3) (.int .i64 Q2.dep) (.int .i64 Q2.lim))
                replace L2 := Lib.hid (L2.out.set3 (b := b6) (by simp) (.slice p1 Q2.l.length p3) (.int .i64 Q2.dep) (.int .i64 Q2.lim))
                replace HBW := Lib.hid (below_set3 G6.out HBW.out (.slice p1 Q2.l.length p3) (.int .i64 Q2.dep) (.int .i64 Q2.lim))
                obtain ⟨V6, hW⟩ : ∃ W, ((V5.setCell ⟨b6, 0, none⟩ (.slice p1 Q2.l.length p3)).setCell ⟨b6, 1, none⟩ (.int .i64 Q2.dep)).setCell ⟨b6, 2, none⟩ (.int .i64 Q2.lim) = W := ⟨_, rfl⟩
                rw [hW] at X1 X2 B5 B6 L1 L2 HBW ⊢
                clear hW
                refine hK.out _ _ ⟨X1.out, X2.out⟩ (fun _ => ?_)
                clear hK K
                refine wpAnyH_done (by kernel_rfl) ?_ _
                refine NoPanic.normal ?_
                go_wp2_with fail
                go_meet
                exact ⟨b5, b6, .slice z1 Q1.l.length z3, .slice p1 Q2.l.length p3, rfl, rfl, B5.out, B6.out, ⟨z1, z3, rfl, L1.out.list⟩, ⟨p1, p3, rfl, L2.out.list⟩, HBW.out⟩
              exact AllReadyH.nil
            exact AllReadyH.nil
          exact AllReadyH.nil
        exact AllReadyH.nil
      refine AllReadyH.cons rfl (fun K hK => ?_) ?_
      · go_simp
        have G6 := Lib.hid HBW.out.size
        have M61 := Lib.hid (Nat.ne_of_lt X1.out.lt)
        have M62 := Lib.hid (Nat.ne_of_lt X2.out.lt)
        have N := Nat.ne_of_lt B5.out.lt
        have B6 := Lib.hid (Blk.new V1 #[.slice none 0 0, .int .i64 0, .int .i64 0] 71)
        replace X1 := Lib.hid (X1.out.alloc (.cells #[.slice none 0 0, .int .i64 0, .int .i64 0] 71))
        replace X2 := Lib.hid (X2.out.alloc (.cells #[.slice none 0 0, .int .i64 0, .int .i64 0] 71))
        replace HBW := Lib.hid (below_alloc HBW.out (.cells #[.slice none 0 0, .int .i64 0, .int .i64 0] 71))
        replace B5 := Lib.hid (B5.out.alloc (.cells #[.slice none 0 0, .int .i64 0, .int .i64 0] 71))
        obtain ⟨b6, hb⟩ : ∃ b, V1.heap.size = b := ⟨_, rfl⟩
        obtain ⟨V2, hW⟩ : ∃ W, V1.alloc (.cells #[.slice none 0 0, .int .i64 0, .int .i64 0] 71) = W := ⟨_, rfl⟩
        rw [hW] at X1 X2 HBW B6 B5 ⊢
        rw [hb] at B6 G6 M61 M62 N ⊢
        clear hb hW
        refine hK.out _ _ ⟨X1.out, X2.out⟩ (fun _ => ?_)
        clear hK K
        have N65 := Lib.hid (show b6 ≠ b5 from N.symm)
        clear N
        refine wpAnyH_ready (rs := [1]) (by kernel_rfl) (by simp) ?_
        refine AllReadyH.cons rfl (fun K hK => ?_) ?_
        · go_simp
          go_wp2_with (first | (go_at_call 30; (with_reducible refine (HT1.out _ HBW.out).mono ?_); rintro e V3 ⟨v, rfl, hl, hb⟩; obtain ⟨z1, z2, z3, rfl, hl⟩ := hl; have HL := Lib.hid hl; clear hl; have HBN := Lib.hid hb; clear hb) | fail)
          have L1 : Hid (LS V3 Q1.l z1 [b6, b5]) := Lib.hid (LS.of HL.out (List.forall_mem_cons.2 ⟨B6.out.lt, List.forall_mem_cons.2 ⟨B5.out.lt, List.forall_mem_nil _⟩⟩))
          replace X1 := Lib.hid (X1.out.next HBN.out)
          replace X2 := Lib.hid (X2.out.next HBN.out)
          replace B6 := Lib.hid (B6.out.next HBN.out)
          replace B5 := Lib.hid (B5.out.next HBN.out)
          replace HBW := Lib.hid (below_next HBW.out HBN.out)
          clear HL HBN
          refine hK.out _ _ ⟨X1.out, X2.out⟩ (fun _ => ?_)
          clear hK K
          refine wpAnyH_ready (rs := [3]) (by kernel_rfl) (by simp) ?_
          refine AllReadyH.cons rfl (fun K hK => ?_) ?_
          · go_simp
            go_wp2_with (first | (go_at_call 30; (with_reducible refine (HT2.out _ HBW.out).mono ?_); rintro e V4 ⟨v, rfl, hl, hb⟩; obtain ⟨p1, p2, p3, rfl, hl⟩ := hl; have HL := Lib.hid hl; clear hl; have HBN := Lib.hid hb; clear hb) | fail)
            have L2 : Hid (LS V4 Q2.l p1 [b6, b5]) := Lib.hid (LS.of HL.out (List.forall_mem_cons.2 ⟨B6.out.lt, List.forall_mem_cons.2 ⟨B5.out.lt, List.forall_mem_nil _⟩⟩))
            replace X1 := Lib.hid (X1.out.next HBN.out)
            replace X2 := Lib.hid (X2.out.next HBN.out)
            replace B6 := Lib.hid (B6.out.next HBN.out)
            replace B5 := Lib.hid (B5.out.next HBN.out)
            replace L1 := Lib.hid (L1.out.below HBN.out)
            replace HBW := Lib.hid (below_next HBW.out HBN.out)
            clear HL HBN
            refine hK.out _ _ ⟨X1.out, X2.out⟩ (fun _ => ?_)
            clear hK K
            refine wpAnyH_ready (rs := [6]) (by kernel_rfl) (by simp) ?_
            refine AllReadyH.cons rfl (fun K hK => ?_) ?_
            · obtain ⟨c0', c1', c2', f0', f1', f2'⟩ := blk_facts B5.out
              go_simp
              clear c0' c1' c2' f0' f1' f2'
              replace X1 := Lib.hid (blk_other3 M51.out X1.out (.slice z1 Q1.l.length z3) (.int .i64 Q1.dep) (.int .i64 Q1.lim))
              replace X2 := Lib.hid (blk_other3 M52.out X2.out (.slice z1 Q1.l.length z3) (.int .i64 Q1.dep) (.int .i64 Q1.lim))
              replace B5 := Lib.hid (blk_set3 B5.out (.slice z1 Q1.l.length z3) (.int .i64 Q1.dep) (.int .i64 Q1.lim))
              replace B6 := Lib.hid (blk_other3 N65.out B6.out (.slice z1 Q1.l.length z3) (.int .i64 Q1.dep) (.int .i64 Q1.lim))
              replace L1 := Lib.hid (L1.out.set3 (b := b5) (by simp) (.slice z1 Q1.l.length z3) (.int .i64 Q1.dep) (.int .i64 Q1.lim))
              replace L2 := Lib.hid (L2.out.set3 (b := b5) (by simp) (.slice z1 Q1.l.length z3) (.int .i64 Q1.dep) (.int .i64 Q1.lim))
              replace HBW := Lib.hid (below_set3 G5.out HBW.out (.slice z1 Q1.l.length z3) (.int .i64 Q1.dep) (.int .i64 Q1.lim))
              obtain ⟨V5, hW⟩ : ∃ W, ((V4.setCell ⟨b5, 0, none⟩ (.slice z1 Q1.l.length z3)).setCell ⟨b5, 1, none⟩ (.int .i64 Q1.dep)).setCell ⟨b5, 2, none⟩ (.int .i64 Q1.lim) = W := ⟨_, rfl⟩
              rw [hW] at X1 X2 B5 B6 L1 L2 HBW ⊢
              clear hW
              refine hK.out _ _ ⟨X1.out, X2.out⟩ (fun _ => ?_)
              clear hK K
              refine wpAnyH_ready (rs := [7]) (by kernel_rfl) (by simp) ?_
              refine AllReadyH.cons rfl (fun K hK => ?_) ?_
              · obtain ⟨c0', c1', c2', f0', f1', f2'⟩ := blk_facts B6.out
                go_simp
                clear c0' c1' c2' f0' f1' f2'
                replace X1 := Lib.hid (blk_other3 M61.out X1.out (.slice p1 Q2.l.length p3) (.int .i64 Q2.dep) (.int .i64 Q2.lim))
                replace X2 := Lib.hid (blk_other3 M62.out X2.out (.slice p1 Q2.l.length p3) (.int .i64 Q2.dep) (.int .i64 Q2.lim))
                replace B6 := Lib.hid (blk_set3 B6.out (.slice p1 Q2.l.length p3) (.int .i64 Q2.dep) (.int .i64 Q2.lim))
                replace B5 := Lib.hid (blk_other3 N65.out.symm B5.out (.slice p1 Q2.l.length p3) (.int .i64 Q2.dep) (.int .i64 Q2.lim))
                replace L1 := Lib.hid (L1.out.set3 (b := b6) (by simp) (.slice p1 Q2.l.length p3) (.int .i64 Q2.dep) (.int .i64 Q2.lim))
                replace L2 := Lib.hid (L2.out.set3 (b := b6) (by simp) (.slice p1 Q2.l.length p3) (.int .i64 Q2.dep) (.int .i64 Q2.lim))
                replace HBW := Lib.hid (below_set3 G6.out HBW.out (.slice p1 Q2.l.length p3) (.int .i64 Q2.dep) (.int .i64 Q2.lim))
                obtain ⟨V6, hW⟩ : ∃ W, ((V5.setCell ⟨b6, 0, none⟩ (.slice p1 Q2.l.length p3)).setCell ⟨b6, 1, none⟩ (.int .i64 Q2.dep)).setCell ⟨b6, 2, none⟩ (.int .i64 Q2.lim) = W := ⟨_, rfl⟩
                rw [hW] at X1 X2 B5 B6 L1 L2 HBW ⊢
                clear hW
                refine hK.out _ _ ⟨X1.out, X2.out⟩ (fun _ => ?_)
                clear hK K
                refine wpAnyH_done (by kernel_rfl) ?_ _
                refine NoPanic.normal ?_
                go_wp2_with fail
                go_meet
                exact ⟨b5, b6, .slice z1 Q1.l.length z3, .slice p1 Q2.l.length p3, rfl, rfl, B5.out, B6.out, ⟨z1, z3, rfl, L1.out.list⟩, ⟨p1, p3, rfl, L2.out.list⟩, HBW.out⟩
              exact AllReadyH.nil
            exact AllReadyH.nil
          exact AllReadyH.nil
        exact AllReadyH.nil
      exact AllReadyH.nil
    refine AllReadyH.cons rfl (fun K hK => ?_) ?_
    · go_simp
      have G6 := Lib.hid HBW.out.size
      have M61 := Lib.hid (Nat.ne_of_lt X1.out.lt)
      have M62 := Lib.hid (Nat.ne_of_lt X2.out.lt)
      have B6 := Lib.hid (Blk.new V0 #[.slice none 0 0, .int .i64 0, .int .i64 0] 71)
      replace X1 := Lib.hid (X1.out.alloc (.cells #[.slice none 0 0, .int .i64 0, .int .i64 0] 71))
      replace X2 := Lib.hid (X2.out.alloc (.cells #[.slice none 0 0, .int .i64 0, .int .i64 0] 71))
      replace HBW := Lib.hid (below_alloc HBW.out (.cells #[.slice none 0 0, .int .i64 0, .int .i64 0] 71))
      obtain ⟨b6, hb⟩ : ∃ b, V0.heap.size = b := ⟨_, rfl⟩
      obtain ⟨V1, hW⟩ : ∃ W, V0.alloc (.cells #[.slice none 0 0, .int .i64 0, .int .i64 0] 71) = W := ⟨_, rfl⟩
      rw [hW] at X1 X2 HBW B6 ⊢
      rw [hb] at B6 G6 M61 M62 ⊢
      clear hb hW
      refine hK.out _ _ ⟨X1.out, X2.out⟩ (fun _ => ?_)
      clear hK K
      refine wpAnyH_ready (rs := [1, 4]) (by kernel_rfl) (by simp) ?_
      refine AllReadyH.cons rfl (fun K hK => ?_) ?_
      · go_simp
        go_wp2_with (first | (go_at_call 30; (with_reducible refine (HT1.out _ HBW.out).mono ?_); rintro e V2 ⟨v, rfl, hl, hb⟩; obtain ⟨z1, z2, z3, rfl, hl⟩ := hl; have HL := Lib.hid hl; clear hl; have HBN := Lib.hid hb; clear hb) | fail)
        have L1 : Hid (LS V2 Q1.l z1 [b6]) := Lib.hid (LS.of HL.out (List.forall_mem_cons.2 ⟨B6.out.lt, List.forall_mem_nil _⟩))
        replace X1 := Lib.hid (X1.out.next HBN.out)
        replace X2 := Lib.hid (X2.out.next HBN.out)
        replace B6 := Lib.hid (B6.out.next HBN.out)
        replace HBW := Lib.hid (below_next HBW.out HBN.out)
        clear HL HBN
        refine hK.out _ _ ⟨X1.out, X2.out⟩ (fun _ => ?_)
        clear hK K
        refine wpAnyH_ready (rs := [3, 4]) (by kernel_rfl) (by simp) ?_
        refine AllReadyH.cons rfl (fun K hK => ?_) ?_
        · go_simp
          go_wp2_with (first | (go_at_call 30; (with_reducible refine (HT2.out _ HBW.out).mono ?_); rintro e V3 ⟨v, rfl, hl, hb⟩; obtain ⟨p1, p2, p3, rfl, hl⟩ := hl; have HL := Lib.hid hl; clear hl; have HBN := Lib.hid hb; clear hb) | fail)
          have L2 : Hid (LS V3 Q2.l p1 [b6]) := Lib.hid (LS.of HL.out (List.forall_mem_cons.2 ⟨B6.out.lt, List.forall_mem_nil _⟩))
          replace X1 := Lib.hid (X1.out.next HBN.out)
          replace X2 := Lib.hid (X2.out.next HBN.out)
          replace B6 := Lib.hid (B6.out.next HBN.out)
          replace L1 := Lib.hid (L1.out.below HBN.out)
          replace HBW := Lib.hid (below_next HBW.out HBN.out)
          clear HL HBN
          refine hK.out _ _ ⟨X1.out, X2.out⟩ (fun _ => ?_)
          clear hK K
          refine wpAnyH_ready (rs := [4]) (by kernel_rfl) (by simp) ?_
          refine AllReadyH.cons rfl (fun K hK => ?_) ?_
          · go_simp
            have G5 := Lib.hid HBW.out.size
            have M51 := Lib.hid (Nat.ne_of_lt X1.out.lt)
            have M52 := Lib.hid (Nat.ne_of_lt X2.out.lt)
            have N := Nat.ne_of_lt B6.out.lt
            have B5 := Lib.hid (Blk.new V3 #[.slice none 0 0, .int .i64 0, .int .i64 0] 71)
            replace X1 := Lib.hid (X1.out.alloc (.cells #[.slice none 0 0, .int .i64 0, .int .i64 0] 71))
            replace X2 := Lib.hid (X2.out.alloc (.cells #[.slice none 0 0, .int .i64 0, .int .i64 0] 71))
            replace HBW := Lib.hid (below_alloc HBW.out (.cells #[.slice none 0 0, .int .i64 0, .int .i64 0] 71))
            replace B6 := Lib.hid (B6.out.alloc (.cells #[.slice none 0 0, .int .i64 0, .int .i64 0] 71))
            replace L1 := Lib.hid (L1.out.alloc (.cells #[.slice none 0 0, .int .i64 0, .int .i64 0] 71))
            replace L2 := Lib.hid (L2.out.alloc (.cells #[.slice none 0 0, .int .i64 0, .int .i64 0] 71))
            obtain ⟨b5, hb⟩ : ∃ b, V3.heap.size = b := ⟨_, rfl⟩
            obtain ⟨V4, hW⟩ : ∃ W, V3.alloc (.cells #[.slice none 0 0, .int .i64 0, .int .i64 0] 71) = W := ⟨_, rfl⟩
            rw [hW] at X1 X2 HBW B5 B6 L1 L2 ⊢
            rw [hb] at B5 G5 M51 M52 N L1 L2 ⊢
            clear hb hW
            refine hK.out _ _ ⟨X1.out, X2.out⟩ (fun _ => ?_)
            clear hK K
            have N65 := Lib.hid (show b6 ≠ b5 from N)
            clear N
            refine wpAnyH_ready (rs := [6]) (by kernel_rfl) (by simp) ?_
            refine AllReadyH.cons rfl (fun K hK => ?_) ?_
            · obtain ⟨c0', c1', c2', f0', f1', f2'⟩ := blk_facts B5.out
              go_simp
              clear c0' c1' c2' f0' f1' f2'
              replace X1 := Lib.hid (blk_other3 M51.out X1.out (.slice z1 Q1.l.length z3) (.int .i64 Q1.dep) (.int .i64 Q1.lim))
              replace X2 := Lib.hid (blk_other3 M52.out X2.out (.slice z1 Q1.l.length z3) (.int .i64 Q1.dep) (.int .i64 Q1.lim))
              replace B5 := Lib.hid (blk_set3 B5.out (.slice z1 Q1.l.length z3) (.int .i64 Q1.dep) (.int .i64 Q1.lim))
              replace B6 := Lib.hid (blk_other3 N65.out B6.out (.slice z1 Q1.l.length z3) (.int .i64 Q1.dep) (.int .i64 Q1.lim))
              replace L1 := Lib.hid (L1.out.set3 (b := b5) (by simp) (.slice z1 Q1.l.length z3) (.int .i64 Q1.dep) (.int .i64 Q1.lim))
              replace L2 := Lib.hid (L2.out.set3 (b := b5) (by simp) (.slice z1 Q1.l.length z3) (.int .i64 Q1.dep) (.int .i64 Q1.lim))
              replace HBW := Lib.hid (below_set3 G5.out HBW.out (.slice z1 Q1.l.length z3) (.int .i64 Q1.dep) (.int .i64 Q1.lim))
              obtain ⟨V5, hW⟩ : ∃ W, ((V4.setCell ⟨b5, 0, none⟩ (.slice z1 Q1.l.length z3)).setCell ⟨b5, 1, none⟩ (.int .i64 Q1.dep)).setCell ⟨b5, 2, none⟩ (.int .i64 Q1.lim) = W := ⟨_, rfl⟩
              rw [hW] at X1 X2 B5 B6 L1 L2 HBW ⊢
              clear hW
              refine hK.out _ _ ⟨X1.out, X2.out⟩ (fun _ => ?_)
              clear hK K
              refine wpAnyH_ready (rs := [7]) (by kernel_rfl) (by simp) ?_
              refine AllReadyH.cons rfl (fun K hK => ?_) ?_
              · obtain ⟨c0', c1', c2', f0', f1', f2'⟩ := blk_facts B6.out
                go_simp
                clear c0' c1' c2' f0' f1' f2'
                replace X1 := Lib.hid (blk_other3 M61.out X1.out (.slice p1 Q2.l.length p3) (.int .i64 Q2.dep) (.int .i64 Q2.lim))
                replace X2 := Lib.hid (blk_other3 M62.out X2.out (.slice p1 Q2.l.length p3) (.int .i64 Q2.dep) (.int .i64 Q2.lim))
                replace B6 := Lib.hid (blk_set3 B6.out (.slice p1 Q2.l.length p3) (.int .i64 Q2.dep) (.int .i64 Q2.lim))
                replace B5 := Lib.hid (blk_other3 N65.out.symm B5.out (.slice p1 Q2.l.length p3) (.int .i64 Q2.dep) (.int .i64 Q2.lim))
                replace L1 := Lib.hid (L1.out.set3 (b := b6) (by simp) (.slice p1 Q2.l.length p3) (.int .i64 Q2.dep) (.int .i64 Q2.lim))
                replace L2 := Lib.hid (L2.out.set3 (b := b6) (by simp) (.slice p1 Q2.l.length p3) (.int .i64 Q2.dep) (.int .i64 Q2.lim))
                replace HBW := Lib.hid (below_set3 G6.out HBW.out (.slice p1 Q2.l.length p3) (.int .i64 Q2.dep) (.int .i64 Q2.lim))
                obtain ⟨V6, hW⟩ : ∃ W, ((V5.setCell ⟨b6, 0, none⟩ (.slice p1 Q2.l.length p3)).setCell ⟨b6, 1, none⟩ (.int .i64 Q2.dep)).setCell ⟨b6, 2, none⟩ (.int .i64 Q2.lim) = W := ⟨_, rfl⟩
                rw [hW] at X1 X2 B5 B6 L1 L2 HBW ⊢
                clear hW
                refine hK.out _ _ ⟨X1.out, X2.out⟩ (fun _ => ?_)
                clear hK K
                refine wpAnyH_done (by kernel_rfl) ?_ _
                refine NoPanic.normal ?_
                go_wp2_with fail
                go_meet
                exact ⟨b5, b6, .slice z1 Q1.l.length z3, .slice p1 Q2.l.length p3, rfl, rfl, B5.out, B6.out, ⟨z1, z3, rfl, L1.out.list⟩, ⟨p1, p3, rfl, L2.out.list⟩, HBW.out⟩
              exact AllReadyH.nil
            exact AllReadyH.nil
          exact AllReadyH.nil
        refine AllReadyH.cons rfl (fun K hK => ?_) ?_
        · go_simp
          have G5 := Lib.hid HBW.out.size
          have M51 := Lib.hid (Nat.ne_of_lt X1.out.lt)
          have M52 := Lib.hid (Nat.ne_of_lt X2.out.lt)
          have N := Nat.ne_of_lt B6.out.lt
          have B5 := Lib.hid (Blk.new V2 #[.slice none 0 0, .int .i64 0, .int .i64 0] 71)
          replace X1 := Lib.hid (X1.out.alloc (.cells #[.slice none 0 0, .int .i64 0, .int .i64 0] 71))
          replace X2 := Lib.hid (X2.out.alloc (.cells #[.slice none 0 0, .int .i64 0, .int .i64 0] 71))
          replace HBW := Lib.hid (below_alloc HBW.out (.cells #[.slice none 0 0, .int .i64 0, .int .i64 0] 71))
          replace B6 := Lib.hid (B6.out.alloc (.cells #[.slice none 0 0, .int .i64 0, .int .i64 0] 71))
          replace L1 := Lib.hid (L1.out.alloc (.cells #[.slice none 0 0, .int .i64 0, .int .i64 0] 71))
          obtain ⟨b5, hb⟩ : ∃ b, V2.heap.size = b := ⟨_, rfl⟩
          obtain ⟨V3, hW⟩ : ∃ W, V2.alloc (.cells #[.slice none 0 0, .int .i64 0, .int .i64 0] 71) = W := ⟨_, rfl⟩
          rw [hW] at X1 X2 HBW B5 B6 L1 ⊢
          rw [hb] at B5 G5 M51 M52 N L1 ⊢
          clear hb hW
          refine hK.out _ _ ⟨X1.out, X2.out⟩ (fun _ => ?_)
          clear hK K
          have N65 := Lib.hid (show b6 ≠ b5 from N)
          clear N
          refine wpAnyH_ready (rs := [3]) (by kernel_rfl) (by simp) ?_
          refine AllReadyH.cons rfl (fun K hK => ?_) ?_
          · go_simp
            go_wp2_with (first | (go_at_call 30; (with_reducible refine (HT2.out _ HBW.out).mono ?_); rintro e V4 ⟨v, rfl, hl, hb⟩; obtain ⟨p1, p2, p3, rfl, hl⟩ := hl; have HL := Lib.hid hl; clear hl; have HBN := Lib.hid hb; clear hb) | fail)
            have L2 : Hid (LS V4 Q2.l p1 [b5, b6]) := Lib.hid (LS.of HL.out (List.forall_mem_cons.2 ⟨B5.out.lt, List.forall_mem_cons.2 ⟨B6.out.lt, List.forall_mem_nil _⟩⟩))
            replace X1 := Lib.hid (X1.out.next HBN.out)
            replace X2 := Lib.hid (X2.out.next HBN.out)
            replace B5 := Lib.hid (B5.out.next HBN.out)
            replace B6 := Lib.hid (B6.out.next HBN.out)
            replace L1 := Lib.hid (L1.out.below HBN.out)
            replace HBW := Lib.hid (below_next HBW.out HBN.out)
            clear HL HBN
            refine hK.out _ _ ⟨X1.out, X2.out⟩ (fun _ => ?_)
            clear hK K
            refine wpAnyH_ready (rs := [6]) (by kernel_rfl) (by simp) ?_
            refine AllReadyH.cons rfl (fun K hK => ?_) ?_
            · obtain ⟨c0', c1', c2', f0', f1', f2'⟩ := blk_facts B5.out
              go_simp
              clear c0' c1' c2' f0' f1' f2'
              replace X1 := Lib.hid (blk_other3 M51.out X1.out (.slice z1 Q1.l.length z3) (.int .i64 Q1.dep) (.int .i64 Q1.lim))
              replace X2 := Lib.hid (blk_other3 M52.out X2.out (.slice z1 Q1.l.length z3) (.int .i64 Q1.dep) (.int .i64 Q1.lim))
              replace B5 := Lib.hid (blk_set3 B5.out (.slice z1 Q1.l.length z3) (.int .i64 Q1.dep) (.int .i64 Q1.lim))
              replace B6 := Lib.hid (blk_other3 N65.out B6.out (.slice z1 Q1.l.length z3) (.int .i64 Q1.dep) (.int .i64 Q1.lim))
              replace L1 := Lib.hid (L1.out.set3 (b := b5) (by simp) (.slice z1 Q1.l.length z3) (.int .i64 Q1.dep) (.int .i64 Q1.lim))
              replace L2 := Lib.hid (L2.out.set3 (b := b5) (by simp) (.slice z1 Q1.l.length z3) (.int .i64 Q1.dep) (.int .i64 Q1.lim))
              replace HBW := Lib.hid (below_set3 G5.out HBW.out (.slice z1 Q1.l.length z3) (.int .i64 Q1.dep) (.int .i64 Q1.lim))
              obtain ⟨V5, hW⟩ : ∃ W, ((V4.setCell ⟨b5, 0, none⟩ (.slice z1 Q1.l.length z3)).setCell ⟨b5, 1, none⟩ (.int .i64 Q1.dep)).setCell ⟨b5, 2, none⟩ (.int .i64 Q1.lim) = W := ⟨_, rfl⟩
              rw [hW] at X1 X2 B5 B6 L1 L2 HBW ⊢
              clear hW
              refine hK.out _ _ ⟨X1.out, X2.out⟩ (fun _ => ?_)
              clear hK K
              refine wpAnyH_ready (rs := [7]) (by kernel_rfl) (by simp) ?_
              refine AllReadyH.cons rfl (fun K hK => ?_) ?_
              · obtain ⟨c0', c1', c2', f0', f1', f2'⟩ := blk_facts B6.out
                go_simp
                clear c0' c1' c2' f0' f1' f2'
                replace X1 := Lib.hid (blk_other3 M61.out X1.out (.slice p1 Q2.l.length p3) (.int .i64 Q2.dep) (.int .i64 Q2.lim))
                replace X2 := Lib.hid (blk_other3 M62.out X2.out (.slice p1 Q2.l.length p3) (.int .i64 Q2.dep) (.int .i64 Q2.lim))
                replace B6 := Lib.hid (blk_set3 B6.out (.slice p1 Q2.l.length p3) (.int .i64 Q2.dep) (.int .i64 Q2.lim))
                replace B5 := Lib.hid (blk_other3 N65.out.symm B5.out (.slice p1 Q2.l.length p3) (.int .i64 Q2.dep) (.int .i64 Q2.lim))
                replace L1 := Lib.hid (L1.out.set3 (b := b6) (by simp) (.slice p1 Q2.l.length p3) (.int .i64 Q2.dep) (.int .i64 Q2.lim))
                replace L2 := Lib.hid (L2.out.set3 (b := b6) (by simp) (.slice p1 Q2.l.length p3) (.int .i64 Q2.dep) (.int .i64 Q2.lim))
                replace HBW := Lib.hid (below_set3 G6.out HBW.out (.slice p1 Q2.l.length p3) (.int .i64 Q2.dep) (.int .i64 Q2.lim))
                obtain ⟨V6, hW⟩ : ∃ W, ((V5.setCell ⟨b6, 0, none⟩ (.slice p1 Q2.l.length p3)).setCell ⟨b6, 1, none⟩ (.int .i64 Q2.dep)).setCell ⟨b6, 2, none⟩ (.int .i64 Q2.lim) = W := ⟨_, rfl⟩
                rw [hW] at X1 X2 B5 B6 L1 L2 HBW ⊢
                clear hW
                refine hK.out _ _ ⟨X1.out, X2.out⟩ (fun _ => ?_)
                clear hK K
                refine wpAnyH_done (by kernel_rfl) ?_ _
                refine NoPanic.normal ?_
                go_wp2_with fail
                go_meet
                exact ⟨b5, b6, .slice z1 Q1.l.length z3, .slice p1 Q2.l.length p3, rfl, rfl, B5.out, B6.out, ⟨z1, z3, rfl, L1.out.list⟩, ⟨p1, p3, rfl, L2.out.list⟩, HBW.out⟩
              exact AllReadyH.nil
            exact AllReadyH.nil
          exact AllReadyH.nil
        exact AllReadyH.nil
      refine AllReadyH.cons rfl (fun K hK => ?_) ?_
      · go_simp
        have G5 := Lib.hid HBW.out.size
        have M51 := Lib.hid (Nat.ne_of_lt X1.out.lt)
        have M52 := Lib.hid (Nat.ne_of_lt X2.out.lt)
        have N := Nat.ne_of_lt B6.out.lt
        have B5 := Lib.hid (Blk.new V1 #[.slice none 0 0, .int .i64 0, .int .i64 0] 71)
        replace X1 := Lib.hid (X1.out.alloc (.cells #[.slice none 0 0, .int .i64 0, .int .i64 0] 71))
        replace X2 := Lib.hid (X2.out.alloc (.cells #[.slice none 0 0, .int .i64 0, .int .i64 0] 71))
        replace HBW := Lib.hid (below_alloc HBW.out (.cells #[.slice none 0 0, .int .i64 0, .int .i64 0] 71))
        replace B6 := Lib.hid (B6.out.alloc (.cells #[.slice none 0 0, .int .i64 0, .int .i64 0] 71))
        obtain ⟨b5, hb⟩ : ∃ b, V1.heap.size = b := ⟨_, rfl⟩
        obtain ⟨V2, hW⟩ : ∃ W, V1.alloc (.cells #[.slice none 0 0, .int .i64 0, .int .i64 0] 71) = W := ⟨_, rfl⟩
        rw [hW] at X1 X2 HBW B5 B6 ⊢
        rw [hb] at B5 G5 M51 M52 N ⊢
        clear hb hW
        refine hK.out _ _ ⟨X1.out, X2.out⟩ (fun _ => ?_)
        clear hK K
        have N65 := Lib.hid (show b6 ≠ b5 from N)
        clear N
        refine wpAnyH_ready (rs := [1]) (by kernel_rfl) (by simp) ?_
        refine AllReadyH.cons rfl (fun K hK => ?_) ?_
        · go_simp
          go_wp2_with (first | (go_at_call 30; (with_reducible refine (HT1.out _ HBW.out).mono ?_); rintro e V3 ⟨v, rfl, hl, hb⟩; obtain ⟨z1, z2, z3, rfl, hl⟩ := hl; have HL := Lib.hid hl; clear hl; have HBN := Lib.hid hb; clear hb) | fail)
          have L1 : Hid (LS V3 Q1.l z1 [b5, b6]) := Lib.hid (LS.of HL.out (List.forall_mem_cons.2 ⟨B5.out.lt, List.forall_mem_cons.2 ⟨B6.out.lt, List.forall_mem_nil _⟩⟩))
          replace X1 := Lib.hid (X1.out.next HBN.out)
          replace X2 := Lib.hid (X2.out.next HBN.out)
          replace B5 := Lib.hid (B5.out.next HBN.out)
          replace B6 := Lib.hid (B6.out.next HBN.out)
          replace HBW := Lib.hid (below_next HBW.out HBN.out)
          clear HL HBN
          refine hK.out _ _ ⟨X1.out, X2.out⟩ (fun _ => ?_)
          clear hK K
          refine wpAnyH_ready (rs := [3]) (by kernel_rfl) (by simp) ?_
          refine AllReadyH.cons rfl (fun K hK => ?_) ?_
          · go_simp
            go_wp2_with (first | (go_at_call 30; (with_reducible refine (HT2.out _ HBW.out).mono ?_); rintro e V4 ⟨v, rfl, hl, hb⟩; obtain ⟨p1, p2, p3, rfl, hl⟩ := hl; have HL := Lib.hid hl; clear hl; have HBN := Lib.hid hb; clear hb) | fail)
            have L2 : Hid (LS V4 Q2.l p1 [b5, b6]) := Lib.hid (LS.of HL.out (List.forall_mem_cons.2 ⟨B5.out.lt, List.forall_mem_cons.2 ⟨B6.out.lt, List.forall_mem_nil _⟩⟩))
            replace X1 := Lib.hid (X1.out.next HBN.out)
            replace X2 := Lib.hid (X2.out.next HBN.out)
            replace B5 := Lib.hid (B5.out.next HBN.out)
            replace B6 := Lib.hid (B6.out.next HBN.out)
            replace L1 := Lib.hid (L1.out.below HBN.out)
            replace HBW := Lib.hid (below_next HBW.out HBN.out)
            clear HL HBN
            refine hK.out _ _ ⟨X1.out, X2.out⟩ (fun _ => ?_)
            clear hK K
            refine wpAnyH_ready (rs := [6]) (by kernel_rfl) (by simp) ?_
            refine AllReadyH.cons rfl (fun K hK => ?_) ?_
            · obtain ⟨c0', c1', c2', f0', f1', f2'⟩ := blk_facts B5.out
              go_simp
              clear c0' c1' c2' f0' f1' f2'
              replace X1 := Lib.hid (blk_other3 M51.out X1.out (.slice z1 Q1.l.length z3) (.int .i64 Q1.dep) (.int .i64 Q1.lim))
              replace X2 := Lib.hid (blk_other3 M52.out X2.out (.slice z1 Q1.l.length z3) (.int .i64 Q1.dep) (.int .i64 Q1.lim))
              replace B5 := Lib.hid (blk_set3 B5.out (.slice z1 Q1.l.length z3) (.int .i64 Q1.dep) (.int .i64 Q1.lim))
              replace B6 := Lib.hid (blk_other3 N65.out B6.out (.slice z1 Q1.l.length z3) (.int .i64 Q1.dep) (.int .i64 Q1.lim))
              replace L1 := Lib.hid (L1.out.set3 (b := b5) (by simp) (.slice z1 Q1.l.length z3) (.int .i64 Q1.dep) (.int .i64 Q1.lim))
              replace L2 := Lib.hid (L2.out.set3 (b := b5) (by simp) (.slice z1 Q1.l.length z3) (.int .i64 Q1.dep) (.int .i64 Q1.lim))
              replace HBW := Lib.hid (below_set3 G5.out HBW.out (.slice z1 Q1.l.length z3) (.int .i64 Q1.dep) (.int .i64 Q1.lim))
              obtain ⟨V5, hW⟩ : ∃ W, ((V4.setCell ⟨b5, 0, none⟩ (.slice z1 Q1.l.length z3)).setCell ⟨b5, 1, none⟩ (.int .i64 Q1.dep)).setCell ⟨b5, 2, none⟩ (.int .i64 Q1.lim) = W := ⟨_, rfl⟩
              rw [hW] at X1 X2 B5 B6 L1 L2 HBW ⊢
              clear hW
              refine hK.out _ _ ⟨X1.out, X2.out⟩ (fun _ => ?_)
              clear hK K
              refine wpAnyH_ready (rs := [7]) (by kernel_rfl) (by simp) ?_
              refine AllReadyH.cons rfl (fun K hK => ?_) ?_
              · obtain ⟨c0', c1', c2', f0', f1', f2'⟩ := blk_facts B6.out
                go_simp
                clear c0' c1' c2' f0' f1' f2'
                replace X1 := Lib.hid (blk_other3 M61.out X1.out (.slice p1 Q2.l.length p3) (.int .i64 Q2.dep) (.int .i64 Q2.lim))
                replace X2 := Lib.hid (blk_other3 M62.out X2.out (.slice p1 Q2.l.length p3) (.int .i64 Q2.dep) (.int .i64 Q2.lim))
                replace B6 := Lib.hid (blk_set3 B6.out (.slice p1 Q2.l.length p3) (.int .i64 Q2.dep) (.int .i64 Q2.lim))
                replace B5 := Lib.hid (blk_other3 N65.out.symm B5.out (.slice p1 Q2.l.length p3) (.int .i64 Q2.dep) (.int .i64 Q2.lim))
                replace L1 := Lib.hid (L1.out.set3 (b := b6) (by simp) (.slice p1 Q2.l.length p3) (.int .i64 Q2.dep) (.int .i64 Q2.lim))
                replace L2 := Lib.hid (L2.out.set3 (b := b6) (by simp) (.slice p1 Q2.l.length p3) (.int .i64 Q2.dep) (.int .i64 Q2.lim))
                replace HBW := Lib.hid (below_set3 G6.out HBW.out (.slice p1 Q2.l.length p3) (.int .i64 Q2.dep) (.int .i64 Q2.lim))
                obtain ⟨V6, hW⟩ : ∃ W, ((V5.setCell ⟨b6, 0, none⟩ (.slice p1 Q2.l.length p3)).setCell ⟨b6, 1, none⟩ (.int .i64 Q2.dep)).setCell ⟨b6, 2, none⟩ (.int .i64 Q2.lim) = W := ⟨_, rfl⟩
                rw [hW] at X1 X2 B5 B6 L1 L2 HBW ⊢
                clear hW
                refine hK.out _ _ ⟨X1.out, X2.out⟩ (fun _ => ?_)
                clear hK K
                refine wpAnyH_done (by kernel_rfl) ?_ _
                refine NoPanic.normal ?_
                go_wp2_with fail
                go_meet
                exact ⟨b5, b6, .slice z1 Q1.l.length z3, .slice p1 Q2.l.length p3, rfl, rfl, B5.out, B6.out, ⟨z1, z3, rfl, L1.out.list⟩, ⟨p1, p3, rfl, L2.out.list⟩, HBW.out⟩
              exact AllReadyH.nil
            exact AllReadyH.nil
          exact AllReadyH.nil
        exact AllReadyH.nil
      exact AllReadyH.nil
    exact AllReadyH.nil
  case rest =>
    clear X1 X2 HBW HT1 HT2
    obtain ⟨b5, b6, v, u, rfl, rfl, hB5, hB6, ⟨a, c, rfl, hl1⟩, ⟨a2, c2, rfl, hl2⟩, hbw⟩ := hcut
    have k0 : wc.cell? ⟨b5, 0, none⟩ = some (.slice a Q1.l.length c) := hB5.cell 0
    have k2 : wc.cell? ⟨b5, 2, none⟩ = some (.int .i64 Q1.lim) := hB5.cell 2
    have m0 : wc.cell? ⟨b6, 0, none⟩ = some (.slice a2 Q2.l.length c2) := hB6.cell 0
    have m2 : wc.cell? ⟨b6, 2, none⟩ = some (.int .i64 Q2.lim) := hB6.cell 2
    clear hB5 hB6
    have hE : Calls Try.prog 41 #[.slice a Q1.l.length c, .slice a2 Q2.l.length c2, .func (.func 42) #[] #[]] wc (fun e w' => e = .returned (.bool (eqL Q1.l Q2.l)) ∧ Below wc.heap.size wc w') := by
      rcases hl1 with h1 | ⟨b, wA, rfl, h1⟩
      · rcases hl2 with h2 | ⟨b', wB, rfl, h2⟩
        · exact equalFunc_any wc wc Q1.l Q2.l 0 0 c 0 0 c2 a a2 wc HLEN.out (.inl h1) (.inl h2)
        · exact equalFunc_any wc wB Q1.l Q2.l 0 0 c b' 0 c2 a _ wc HLEN.out (.inl h1) (.inr ⟨rfl, h2⟩)
      · rcases hl2 with h2 | ⟨b', wB, rfl, h2⟩
        · exact equalFunc_any wA wc Q1.l Q2.l b 0 c 0 0 c2 _ a2 wc HLEN.out (.inr ⟨rfl, h1⟩) (.inl h2)
        · exact equalFunc_any wA wB Q1.l Q2.l b 0 c b' 0 c2 _ _ wc HLEN.out (.inr ⟨rfl, h1⟩) (.inr ⟨rfl, h2⟩)
    clear hl1 hl2
    have HBC := Lib.hid hbw; clear hbw
    have HE := Lib.hid hE; clear hE
    cases h1 : (Q1.lim == 0) with
    | false =>
      have e : (decide (Q1.lim = 0) && decide (Q2.lim = 0) && eqL Q1.l Q2.l) = false := by
        rw [beq_eq_false_iff_ne] at h1
        simp [h1]
      have E := Lib.hid e; clear e HE
      go_wp2_with fail
      go_ret
      exact ⟨by rw [E.out]; rfl, HBC.out⟩
    | true =>
      cases h2 : (Q2.lim == 0) with
      | false =>
        have e : (decide (Q1.lim = 0) && decide (Q2.lim = 0) && eqL Q1.l Q2.l) = false := by
          rw [beq_eq_false_iff_ne] at h2
          simp [h2]
        have E := Lib.hid e; clear e HE
        go_wp2_with fail
        go_ret
        exact ⟨by rw [E.out]; rfl, HBC.out⟩
      | true =>
        have e : (decide (Q1.lim = 0) && decide (Q2.lim = 0) && eqL Q1.l Q2.l) = eqL Q1.l Q2.l := by
          rw [beq_iff_eq] at h1 h2
          simp [h1, h2]
        have E := Lib.hid e; clear e
        go_wp2_with (first | (go_at_call 41; (with_reducible refine HE.out.mono ?_); rintro e w2 ⟨rfl, hb2⟩) | fail)
        go_ret
        exact ⟨by rw [E.out]; rfl, HBC.out.trans (hb2.mono HBC.out.size)⟩
end Go.Proofs.Ytpildlaloclanaa
