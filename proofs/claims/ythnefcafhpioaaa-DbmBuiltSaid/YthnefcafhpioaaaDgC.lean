/-
  What Cells gives, where the rounds keep what they make; an octagon that a loop builds.
-/
import Derived.Test.YthnefcafhpioaaaDgA
import Derived.Test.YthnefcafhpioaaaDgB
namespace Go.Proofs.Ythnefcafhpioaaa
open Go Go.RowKit Go.Shelf

set_option maxRecDepth 100000 in
theorem cells1_seqN (K : World → Prop) (w : World) : SeqN 4 Try.prog 56 #[] encC [] K w := fun l J Jx W hW hJ hJx hK hY h0 => by
  have H0 := Lib.hid h0
  clear hW hJ hJx hK hY h0
  go_enter Try.func56, Try.ntmps56
  go_wp2_with fail
  go_end0
  exact ⟨⟨_, rfl⟩, .inl H0.out⟩
def DcToN (w : World) (xs : List ((Nat × Nat) × Int)) : Ending → World → Prop := fun e w' => Below w.heap.size w w' ∧ ∃ (gf : Nat) (lb : Array Value) (K : World → Prop), e = .returned (.func (.func gf) #[] lb) ∧ (∀ args w, (callFunc gf args).run Try.prog w = .ok (.enter gf args) w) ∧ SeqN 4 Try.prog gf lb encC xs K w' ∧ ∀ A, Above w.heap.size w' A → K A
theorem dcells_toN (x : Oc) (a : Option Addr) (c : Nat) (w : World) (hm : MAt w x.m a) : Calls Try.prog 30 #[ocV x a c] w (DcToN w (cellsO x)) := by
  by_cases h : chkO x = 0 ∧ x.em = false
  · obtain ⟨h1, h2⟩ := h
    have e : cellsO x = celL (2 * x.n.toNat) x.m (allP (2 * x.n.toNat)) := by unfold cellsO; rw [if_pos ⟨h1, h2⟩]
    obtain ⟨N, hN, hn, -, hok⟩ := chk_zero h1
    obtain ⟨n, em, m⟩ := x
    simp only at h2 hn hm hok
    subst h2 hn
    rw [e]
    refine (dcells_yes N m a c w hm h1).mono ?_
    rintro e w' ⟨hb, X, Y, a', c', rfl, h3, h4, h5, h6, h7⟩
    refine ⟨hb, _, _, CAt X Y N m a' m.length c', rfl, enters_of Try.func57 (by kernel_rfl) rfl, cells2_seqN N X Y hN m a' m.length c' (hok rfl).1 rfl w', fun A hA => ?_⟩
    exact ⟨hA.cell (p := ⟨X, 0, none⟩) h3 h6, hA.cell (p := ⟨Y, 0, none⟩) h4 h7, h5.mat_above hA⟩
  · have e : cellsO x = [] := by unfold cellsO; rw [if_neg h]
    rw [e]
    refine (dcells_no x a c w hm ?_).mono fun e w' ⟨he, hb⟩ => ⟨hb, _, _, fun _ => True, he, enters_of Try.func56 (by kernel_rfl) rfl, cells1_seqN _ _, fun _ _ => trivial⟩
    by_cases h1 : chkO x = 0
    · refine .inr ?_
      cases h2 : x.em with
      | true => rfl
      | false => exact absurd ⟨h1, h2⟩ h
    · exact .inl h1
/-- Numbers that lie in a block outside of lo .. hi, and not in T. -/
def MN (lo hi T : Nat) (A : World) (m : List Int) (a : Option Addr) : Prop := m.length = 0 ∨ ∃ b o, a = some ⟨b, o, none⟩ ∧ (b < lo ∨ hi ≤ b) ∧ b ≠ T ∧ ∀ i (h : i < m.length), A.cell? ⟨b, o + i, none⟩ = some (.int .i64 m[i])
theorem MN.mat {lo hi T : Nat} {A : World} {m : List Int} {a : Option Addr} (h : MN lo hi T A m a) : MAt A m a := h.imp id fun ⟨b, o, e, _, _, hc⟩ => ⟨b, o, e, hc⟩
theorem MN.nb {lo hi T : Nat} {A B : World} {m : List Int} {a : Option Addr} (h : MN lo hi T A m a) (hb : Nb lo hi A B) : MN lo hi T B m a := h.imp id fun ⟨b, o, e, h1, h2, hc⟩ => ⟨b, o, e, h1, h2, fun i hi => hb.cell (hc i hi) h1⟩
theorem MN.set {lo hi T : Nat} {A : World} {m : List Int} {a : Option Addr} (h : MN lo hi T A m a) (k : Nat) (u : Value) : MN lo hi T (A.setCell ⟨T, k, none⟩ u) m a := h.imp id fun ⟨b, o, e, h1, h2, hc⟩ => ⟨b, o, e, h1, h2, fun i hi => (World.cell?_of_block (w := A) (a := ⟨b, o + i, none⟩) (Below.heap_setCell A ⟨T, k, none⟩ u b h2)).trans (hc i hi)⟩
theorem MOwn.mn {B : Nat} {w w' : World} {m : List Int} {a : Option Addr} {c lo hi T : Nat} (h : MOwn B w m a c) (hb : Below w.heap.size w w') (hB : hi ≤ B) (hT : T < B) : MN lo hi T w' m a := by
  rcases h.2.2 with h0 | ⟨g, cs, e, hg, hG, hc⟩
  · exact .inl h0
  · refine .inr ⟨g, 0, e, .inr (by omega), by omega, fun i hi => ?_⟩
    have hG2 := hG.below hb hG.lt
    rw [hG2.cell, Nat.zero_add]; exact hc i hi
/-- While DbmBuilt lays the cells on Top. -/
structure BuI (X T0 N S : Nat) (w W4 : World) (m : List Int) (pre : List ((Nat × Nat) × Int)) (A : World) : Prop where
  oth : Oth T0 W4 A
  low : Below X w A
  t : ∃ ta tc, Blk A T0 #[.int .i64 N, .bool false, .slice ta S tc] 24 ∧ MN W4.heap.size (W4.heap.size + 6) T0 A (layC (2 * N) (topM (2 * N)) pre) ta
theorem BuI.nb {X T0 N S : Nat} {w W4 : World} {m : List Int} {pre : List ((Nat × Nat) × Int)} {A B : World} (h : BuI X T0 N S w W4 m pre A) (hb : Nb W4.heap.size (W4.heap.size + 6) A B) (hT : T0 < W4.heap.size) (hX : X ≤ W4.heap.size) : BuI X T0 N S w W4 m pre B := by
  refine ⟨⟨Nat.le_trans h.oth.1 hb.size, fun k hk hg => (hb.block k (Nat.lt_of_lt_of_le hk h.oth.1) (.inl hk)).trans (h.oth.2 k hk hg)⟩, h.low.trans (hb.below.mono hX), ?_⟩
  obtain ⟨ta, tc, h1, h2⟩ := h.t
  exact ⟨ta, tc, hb.blk h1 (.inl hT), h2.nb hb⟩
theorem BuI.step {X T0 N S : Nat} {w W4 : World} {m : List Int} {pre : List ((Nat × Nat) × Int)} {x : (Nat × Nat) × Int} {A w5 W6 : World} {qa : Option Addr} {qc : Nat} {v0 v1 v2 : Value} (h : BuI X T0 N S w W4 m pre A) (hT : T0 < W4.heap.size) (hX : X ≤ T0) (hA : W4.heap.size + 6 ≤ A.heap.size) (h5 : Below A.heap.size A w5) (h6 : Below w5.heap.size w5 W6) (hm : MOwn A.heap.size w5 (layC (2 * N) (topM (2 * N)) (pre ++ [x])) qa qc) (e0 : v0 = .int .i64 N) (e1 : v1 = .bool false) (e2 : v2 = .slice qa S qc) :
    Above W4.heap.size A (((W6.setCell ⟨T0, 0, none⟩ v0).setCell ⟨T0, 1, none⟩ v1).setCell ⟨T0, 2, none⟩ v2) ∧ BuI X T0 N S w W4 m (pre ++ [x]) (((W6.setCell ⟨T0, 0, none⟩ v0).setCell ⟨T0, 1, none⟩ v1).setCell ⟨T0, 2, none⟩ v2) := by
  subst e0 e1 e2
  have hAX : X ≤ A.heap.size := by omega
  have hb : Below A.heap.size A W6 := h5.trans (h6.mono h5.size)
  refine ⟨((((Above.refl _ A).below hb).setCell (by simpa using hT) _).setCell (by simpa using hT) _).setCell (by simpa using hT) _, (((h.oth.below (hb.mono (by omega))).setCell 0 _).setCell 1 _).setCell 2 _, set3_below (h.low.trans (hb.mono hAX)) hX, qa, qc, ?_, ?_⟩
  · obtain ⟨ta, tc, h1, -⟩ := h.t
    exact set3_blk (h1.below hb h1.lt)
  · exact (((hm.mn h6 (by omega) (by omega)).set 0 _).set 1 _).set 2 _
end Go.Proofs.Ythnefcafhpioaaa
