/-
  A strings.Builder that lies at the head of a struct of the project's own: proved is what copyCheck, WriteString and String do to it, and that every block but its own and the rows of bytes stands as it stood.
-/
import Derived.Test.YtbchibmmkmldiaaGreatDoorTrees
import Derived.Test.YtbchibmmkmldiaaGreatDoorSeq
import Derived.Shelf.Strings.BuilderK
import Derived.Lib.Hide
namespace Go.Proofs.YtbchibmmkmldiaaGreatDoor
open Go Go.RowKit Go.Shelf

def selfP (b : Nat) : Value := .pointer (some ⟨b, 0, none⟩)
/-- The builder has bytes l, and its own address. -/
def BdU (T : TypeId) (rest : List Value) (B0 b : Nat) (l : List UInt8) (w : World) : Prop := B0 ≤ b ∧ ∃ v, Blk w b (selfP b :: v :: rest).toArray T ∧ w.ownsRow B0 5 1 v l.length (Lib.byteCells l) ∧ v.ownBlock ≠ some b ∧ (l = [] → v = .slice none 0 0)
/-- .. or is fresh. -/
def Bd (T : TypeId) (rest : List Value) (B0 b : Nat) (l : List UInt8) (w : World) : Prop := (B0 ≤ b ∧ l = [] ∧ Blk w b (.pointer none :: .slice none 0 0 :: rest).toArray T) ∨ BdU T rest B0 b l w
/-- All but the builder's block, rows of bytes, and what is new, stands. -/
def Kp (B0 b : Nat) (w w' : World) : Prop := Below B0 w w' ∧ Lib.OthersKept 5 (some b) w w'
theorem Kp.refl (B0 b : Nat) (w : World) : Kp B0 b w w := ⟨Below.refl _ _, Lib.OthersKept.refl _ _ _⟩
theorem Kp.trans {B0 b : Nat} {x y z : World} (h : Kp B0 b x y) (k : Kp B0 b y z) : Kp B0 b x z := ⟨h.1.trans k.1, h.2.trans k.2⟩
theorem Kp.alloc {B0 b : Nat} {x y : World} (h : Kp B0 b x y) (hs : B0 ≤ y.heap.size) (o : Obj) : Kp B0 b x (y.alloc o) := ⟨h.1.alloc hs o, h.2.alloc o⟩
theorem Kp.drew {B0 b : Nat} {x y : World} (h : Kp B0 b x y) : Kp B0 b x y.drew := ⟨h.1.drew, h.2.drew⟩
theorem Kp.below {B0 b : Nat} {x y : World} (h : Below x.heap.size x y) (hs : B0 ≤ x.heap.size) : Kp B0 b x y := ⟨h.mono hs, fun k _ hk _ _ => (h.block k (Array.getElem?_eq_some_iff.1 hk).1).trans hk⟩
theorem Kp.size {B0 b : Nat} {x y : World} (h : Kp B0 b x y) : x.heap.size ≤ y.heap.size := h.1.size
/-- A block of another type stands. -/
theorem Blk.kp {B0 b k : Nat} {w w' : World} {cs : Array Value} {t : TypeId} (h : Blk w k cs t) (hk : Kp B0 b w w') (hb : k ≠ b) (ht : t ≠ 5) : Blk w' k cs t := hk.2 k _ h (fun e => hb (by simpa using e)) (fun c fz e => ht (by simp only [Obj.cells.injEq] at e; exact e.2.1))
theorem Bd.size {T : TypeId} {rest : List Value} {B0 b : Nat} {l : List UInt8} {w : World} (h : Bd T rest B0 b l w) : b < w.heap.size := by
  rcases h with ⟨_, _, h⟩ | ⟨_, v, h, _⟩
  · exact h.lt
  · exact h.lt
theorem Bd.base {T : TypeId} {rest : List Value} {B0 b : Nat} {l : List UInt8} {w : World} (h : Bd T rest B0 b l w) : B0 ≤ b := by
  rcases h with ⟨h, _⟩ | ⟨h, _⟩
  · exact h
  · exact h
theorem Bd.below {T : TypeId} {rest : List Value} {B0 b : Nat} {l : List UInt8} {w w' : World} (h : Bd T rest B0 b l w) (hb : Below w.heap.size w w') : Bd T rest B0 b l w' := by
  rcases h with ⟨h0, h1, h2⟩ | ⟨h0, v, h1, h2, h3, h4⟩
  · exact .inl ⟨h0, h1, h2.below hb h2.lt⟩
  · refine .inr ⟨h0, v, h1.below hb h1.lt, ?_, h3, h4⟩
    exact h2.kept (row := none) ⟨hb.os, hb.tape, hb.output, hb.size, fun k hk _ => hb.block k hk⟩ (by cases hv : v.ownBlock <;> simp)
theorem Bd.drew {T : TypeId} {rest : List Value} {B0 b : Nat} {l : List UInt8} {w : World} (h : Bd T rest B0 b l w) : Bd T rest B0 b l w.drew := h.below ((Below.refl _ w).drew)
theorem Bd.alloc {T : TypeId} {rest : List Value} {B0 b : Nat} {l : List UInt8} {w : World} (h : Bd T rest B0 b l w) (o : Obj) : Bd T rest B0 b l (w.alloc o) := h.below ((Below.refl _ w).alloc (Nat.le_refl _) o)
theorem blk_grown0 {w w' : World} {b : Nat} {cs : Array Value} {t : TypeId} {row : Option Nat} (h : Blk w b cs t) (hg : w.grownBy w' row) (hr : row ≠ some b) : Blk w' b cs t := (hg.block b h.lt (fun e => hr e.symm)).trans h
theorem own_set_other {w : World} {base b : Nat} {e : TypeId} {size n : Nat} {v : Value} {xs : List Value} (h : w.ownsRow base e size v n xs) {o : Nat} {u : Value} (hne : v.ownBlock ≠ some b) : (w.setCell ⟨b, o, none⟩ u).ownsRow base e size v n xs := by
  obtain ⟨h1, h2⟩ := h
  refine ⟨h1, h2.imp id fun ⟨g, cap, cur, hv, hb, hh, r⟩ => ⟨g, cap, cur, hv, hb, ?_, r⟩⟩
  have hgb : g ≠ b := fun e => hne (by rw [hv]; simp [Value.ownBlock, e])
  exact (Below.heap_setCell w ⟨b, o, none⟩ u g hgb).trans hh
/-- A builder lies at the head of a variable of the type. -/
def Lies (T : TypeId) (n : Nat) : Prop := liesAt Tryz.prog Tryz.prog.depth T (n / Tryz.prog.cellsOf T) 0 41 1 = true
theorem blk_shape {w : World} {b : Nat} {cs : Array Value} {t : TypeId} (h : Blk w b cs t) : w.shape? b = some (t, cs.size) := by
  unfold Blk at h
  simp [World.shape?, h]

set_option maxHeartbeats 1000000 in
set_option maxRecDepth 100000 in
theorem ccheck_any (T : TypeId) (rest : List Value) (B0 b : Nat) (l : List UInt8) (w : World) (hT : Lies T (2 + rest.length)) (h : Bd T rest B0 b l w) :
    Calls Tryz.prog 58 #[.pointer (some ⟨b, 0, none⟩)] w (fun e w' => e = .returned (.tuple #[]) ∧ BdU T rest B0 b l w' ∧ Kp B0 b w w') := by
  rcases h with ⟨hB, rfl, hX⟩ | ⟨hB, v, hX, hO, hne, hnil⟩
  · have h0 : w.cell? ⟨b, 0, none⟩ = some (.pointer none) := hX.cell 0
    have hfz : w.frozen? ⟨b, 0, none⟩ = false := hX.free 0
    have hsh : w.shape? b = some (T, 2 + rest.length) := by rw [blk_shape hX]; simp; omega
    have hi : (Tryz.prog.info? 41).map (·.size) = some 2 := by kernel_rfl
    obtain ⟨j, hj, hjs⟩ := Option.map_eq_some_iff.1 hi
    have HX := Lib.hid hX; clear hX hi
    go_enter Tryz.func58, Tryz.ntmps58
    go_wp2
    rw [Lib.run_to_unsafe w ⟨b, 0, none⟩ Tryz.underlying38 Tryz.underlying134 hj (by rw [hjs]; decide) hsh (by simp only; omega)]
    simp only [Result.andThen]
    rw [Oper.upon_value]
    go_wp2
    rw [run_callFunc_extern Tryz.func79 (by kernel_rfl) (by kernel_rfl) (by kernel_rfl) (e := Extern.AbiNoEscape.same) (by kernel_rfl)]
    rw [Lib.run_noEscape]
    simp only [Result.andThen]
    rw [Oper.upon_value]
    go_wp2
    rw [Lib.run_from_unsafe w ⟨b, 0, none⟩ Tryz.underlying134 Tryz.underlying38 hj hsh hT]
    simp only [Result.andThen]
    rw [Oper.upon_value]
    go_wp2
    go_end0
    refine ⟨rfl, ⟨hB, .slice none 0 0, HX.out.set 0 (selfP b), World.ownsRow_nil _ _ _ _, by simp [Value.ownBlock], fun _ => rfl⟩, (Below.refl B0 w).setCell (p := ⟨b, 0, none⟩) hB _, (Lib.OthersKept.refl _ _ w).setCell ⟨b, 0, none⟩ rfl _⟩
  · have h0 : w.cell? ⟨b, 0, none⟩ = some (.pointer (some ⟨b, 0, none⟩)) := hX.cell 0
    have hi : (Tryz.prog.info? 41).map (·.size) = some 2 := by kernel_rfl
    obtain ⟨j, hj, hjs⟩ := Option.map_eq_some_iff.1 hi
    have HX := Lib.hid hX; clear hX hi
    go_enter Tryz.func58, Tryz.ntmps58
    go_wp2
    rw [Lib.run_neq_ptr_same w _ Tryz.underlying38 hj]
    go_wp2
    go_end0
    exact ⟨rfl, ⟨hB, v, HX.out, hO, hne, hnil⟩, Kp.refl _ _ _⟩
theorem info_byte : (Tryz.prog.info? 5).map (fun i => (i.zero, i.size, i.bytes)) = some (some (.int .u8 0), 1, 1) := by kernel_rfl
theorem byteCells_app (l : List UInt8) (s : ByteArray) : Lib.byteCells (l ++ s.data.toList) = Lib.byteCells l ++ Lib.strCells s := by simp [Lib.byteCells, Lib.strCells]

set_option maxHeartbeats 2000000 in
set_option maxRecDepth 100000 in
/-- WriteString puts s behind. -/
theorem ws_any (T : TypeId) (rest : List Value) (B0 b : Nat) (l : List UInt8) (s : ByteArray) (w : World) (hT : Lies T (2 + rest.length)) (hT8 : T ≠ 5) (h : Bd T rest B0 b l w) (hlen : l.length + s.size ≤ 140737488355328) (hBw : B0 ≤ w.heap.size) :
    Calls Tryz.prog 30 #[.pointer (some ⟨b, 0, none⟩), .string s] w (fun e w' => e = .returned (.tuple #[.int .i64 s.size, .nilIface]) ∧ BdU T rest B0 b (l ++ s.data.toList) w' ∧ Kp B0 b w w') := by
  obtain ⟨i0, hi0, hz0, hz1, hz2⟩ := info_parts info_byte
  have HI0 := Lib.hid hi0; clear hi0
  have HZ0 := Lib.hid hz0; clear hz0
  have HZ1 := Lib.hid hz1; clear hz1
  have HZ2 := Lib.hid hz2; clear hz2
  have hC := ccheck_any T rest B0 b l w hT h
  have HC := Lib.hid hC; clear hC h
  go_enter Tryz.func30, Tryz.ntmps30
  go_wp2_with fail
  refine HC.out.mono ?_
  rintro e w1 ⟨rfl, ⟨hB, v, hX, hO, hne, hnil⟩, hk1⟩
  have c0 : w1.cell? ⟨b, 0, none⟩ = some (.pointer (some ⟨b, 0, none⟩)) := hX.cell 0
  have c1 : w1.cell? ⟨b, 1, none⟩ = some v := hX.cell 1
  have hs1 := hk1.size
  have HX := Lib.hid hX; clear hX
  have HO := Lib.hid hO; clear hO
  have HK1 := Lib.hid hk1; clear hk1
  clear HC
  go_wp2_with (at_builtin; refine Lib.wpList_append_own_string _ rfl _ _ 39 9 rfl B0 5 i0 Tryz.underlying39 Tryz.underlying9 HI0.out HZ0.out HZ1.out HZ2.out _ _ _ rfl HO.out s rfl ?c3 ?c4 ?c5 ?_)
  case c3 => unfold maxLen; omega
  case c4 => omega
  case c5 => omega
  intro v' w2 hown' hgrow hnone
  have hX2 := blk_grown0 HX.out hgrow hne
  have d1 : w2.cell? ⟨b, 1, none⟩ = some v := hX2.cell 1
  have f1 : w2.frozen? ⟨b, 1, none⟩ = false := hX2.free 1
  have hkind : ∀ g, v.ownBlock = some g → ∃ c fz, w1.heap[g]? = some (.cells c 5 fz) := by
    intro g hg
    rcases HO.out.2 with ⟨rfl, _⟩ | ⟨g', cap, cur, rfl, _, hh, _⟩
    · cases hg
    · simp only [Value.ownBlock, Option.some.injEq] at hg
      subst hg
      exact ⟨_, _, hh⟩
  have hk2 : Kp B0 b w1 w2 := ⟨⟨hgrow.os, hgrow.tape, hgrow.output, hgrow.size, fun k hk => hgrow.block k (by omega) (fun e => by have := (HO.out.lt k e.symm).1; omega)⟩, fun k o hk _ ho => (hgrow.block k (Array.getElem?_eq_some_iff.1 hk).1 (fun e => by
    obtain ⟨c, fz, hh⟩ := hkind k e.symm
    rw [hh] at hk
    exact ho c fz (Option.some.inj hk).symm)).trans hk⟩
  obtain ⟨ao, n', cap, rfl⟩ : ∃ ao n' cap, v' = .slice ao n' cap := by
    rcases hown'.2 with ⟨hv, _⟩ | ⟨g, cap, cur, hv, _⟩
    · exact ⟨_, _, _, hv⟩
    · exact ⟨_, _, _, hv⟩
  have hne' : (Value.slice ao n' cap).ownBlock ≠ some b := by
    intro e
    rcases hown'.2 with ⟨hv, _⟩ | ⟨g, cap', cur, hv, _, hh, _⟩
    · rw [hv] at e; cases e
    · rw [hv] at e
      simp only [Value.ownBlock, Option.some.injEq] at e
      subst e
      have h2 : w2.heap[g]? = some (.cells _ T (0, 0)) := hX2
      rw [hh] at h2
      simp only [Option.some.injEq, Obj.cells.injEq] at h2
      exact hT8 h2.2.1.symm
  have HOWN := Lib.hid hown'; clear hown' hgrow
  have HX2 := Lib.hid hX2; clear hX2
  have HK2 := Lib.hid hk2; clear hk2 hkind
  have HNN := Lib.hid hnone; clear hnone
  go_wp2
  go_ret2
  have hb2 : b < w2.heap.size := HX2.out.lt
  refine ⟨rfl, ⟨hB, .slice ao n' cap, HX2.out.set 1 _, ?_, hne', ?_⟩, HK1.out.trans (HK2.out.trans ⟨(Below.refl B0 w2).setCell (p := ⟨b, 1, none⟩) hB _, (Lib.OthersKept.refl _ _ w2).setCell ⟨b, 1, none⟩ rfl _⟩)⟩
  · have h := HOWN.out
    rw [byteCells_app, List.length_append, show s.data.toList.length = s.size from rfl]
    exact own_set_other h hne'
  · intro e
    obtain ⟨e1, e2⟩ := List.append_eq_nil_iff.1 e
    exact HNN.out.2 ⟨hnil e1, by obtain ⟨⟨d⟩⟩ := s; simp only at e2; subst e2; rfl⟩

set_option maxHeartbeats 2000000 in
set_option maxRecDepth 100000 in
/-- String tells the bytes. -/
theorem str_any (T : TypeId) (rest : List Value) (B0 b : Nat) (l : List UInt8) (w : World) (h : Bd T rest B0 b l w) :
    Calls Tryz.prog 11 #[.pointer (some ⟨b, 0, none⟩)] w (fun e w' => e = .returned (.string ⟨l.toArray⟩) ∧ Below B0 w w') := by
  obtain ⟨p, v, hX, hO, hnil⟩ : ∃ p v, Blk w b (p :: v :: rest).toArray T ∧ w.ownsRow B0 5 1 v l.length (Lib.byteCells l) ∧ (l = [] → v = .slice none 0 0) := by
    rcases h with ⟨_, rfl, h⟩ | ⟨_, v, h1, h2, _, h4⟩
    · exact ⟨_, _, h, World.ownsRow_nil _ _ _ _, fun _ => rfl⟩
    · exact ⟨_, v, h1, h2, h4⟩
  have c1 : w.drew.cell? ⟨b, 1, none⟩ = some v := (show Blk w.drew b _ _ from hX).cell 1
  clear hX h
  by_cases h0 : l = []
  · obtain rfl := hnil h0
    subst h0
    have hUS : ∀ (W : World) (q : Option Addr), (Builtin.unsafeString_ #[68, 3] 9 #[.pointer q, .int .i64 0]).run Tryz.prog W = .ok (.string .empty) W := fun W q => Lib.run_unsafeString_none W _ _ _ q
    have hSD : (Builtin.unsafeSliceData_ #[39] 68 #[.slice none 0 0]).run Tryz.prog w.drew = .ok (.pointer none) w.drew := rfl
    clear hO hnil
    have mixed : Tryz.prog.follows Departure.mixedOrders = true := by kernel_rfl
    go_enter Tryz.func11, Tryz.ntmps11
    go_wp2
    go_region_o
    all_goals (go_wp2; go_ret; exact ⟨rfl, Below.drew (Below.refl B0 w)⟩)
  · have hl0 : l.length ≠ 0 := by simpa using h0
    clear hnil
    obtain ⟨g, cap, cur, rfl, hbg, hg, hnc, hcm, hcs, htake⟩ : ∃ g cap cur, v = .slice (some ⟨g, 0, none⟩) l.length cap ∧ B0 ≤ g ∧ w.heap[g]? = some (.cells cur 5 (0, 0)) ∧ l.length ≤ cap ∧ cap ≤ maxLen ∧ cur.size = cap * 1 ∧ cur.toList.take (l.length * 1) = Lib.byteCells l := by
      rcases hO.2 with ⟨_, hz⟩ | ⟨g, cap, cur, hv, r⟩
      · exact absurd hz hl0
      · exact ⟨g, cap, cur, hv, r⟩
    have hSD : (Builtin.unsafeSliceData_ #[39] 68 #[.slice (some ⟨g, 0, none⟩) l.length cap]).run Tryz.prog w.drew = .ok (.pointer (some ⟨g, 0, none⟩)) w.drew := Lib.run_unsafeSliceData_row _ _ _ _ _ _ (by omega)
    have hUS : (Builtin.unsafeString_ #[68, 3] 9 #[.pointer (some ⟨g, 0, none⟩), .int .i64 l.length]).run Tryz.prog w.drew = .ok (.string ⟨l.toArray⟩) (w.drew.freeze ⟨g, 0, none⟩ l.length) := by
      refine Lib.run_unsafeString_row w.drew 68 3 9 5 Tryz.underlying68 (by kernel_rfl) g cur.size (by have hg' : w.drew.heap[g]? = some (.cells cur 5 (0, 0)) := hg; simp [World.shape?, hg']) l h0 (by omega) (by unfold maxLen at hcm; omega) ?_
      intro j x hx
      have := hO.cells (g := g) rfl j (.int .u8 x.toNat) (by simp [Lib.byteCells, hx])
      exact this
    clear hO hcs htake hg
    have mixed : Tryz.prog.follows Departure.mixedOrders = true := by kernel_rfl
    go_enter Tryz.func11, Tryz.ntmps11
    go_wp2
    go_region_o
    all_goals (go_wp2; go_ret; exact ⟨rfl, Lib.below_freeze (Below.drew (Below.refl B0 w)) (p := ⟨g, 0, none⟩) hbg _⟩)
end Go.Proofs.YtbchibmmkmldiaaGreatDoor
