/-
  Rows of numbers that a call has made itself; slices.Repeat of one number.
-/
import Derived.Test.YthnefcafhpioaaaDbB
import Derived.Test.YthnefcafhpioaaaRegN
import Derived.Test.YthnefcafhpioaaaShelf
import Derived.Laws.CopyOwn
import Derived.Deep.AppendLies
namespace Go.Proofs.Ythnefcafhpioaaa
open Go Go.RowKit Go.Shelf

/-- Numbers in a row of one's own: in a block at or behind B. -/
def MOwn (B : Nat) (w : World) (m : List Int) (a : Option Addr) (c : Nat) : Prop := m.length ≤ c ∧ c ≤ maxLen ∧ (m.length = 0 ∨ ∃ g cs, a = some ⟨g, 0, none⟩ ∧ B ≤ g ∧ Blk w g cs 2 ∧ ∀ i (h : i < m.length), cs[i]? = some (.int .i64 m[i]))
theorem MOwn.mat {B : Nat} {w : World} {m : List Int} {a : Option Addr} {c : Nat} (h : MOwn B w m a c) : MAt w m a := by
  rcases h.2.2 with h0 | ⟨g, cs, e, -, hb, hc⟩
  · exact .inl h0
  · exact .inr ⟨g, 0, e, fun i hi => by rw [hb.cell, Nat.zero_add]; exact hc i hi⟩
theorem MOwn.next {B k : Nat} {w w' : World} {m : List Int} {a : Option Addr} {c : Nat} (h : MOwn B w m a c) (hb : Below k w w') (hk : k = w.heap.size) : MOwn B w' m a c := by
  refine ⟨h.1, h.2.1, h.2.2.imp id ?_⟩
  rintro ⟨g, cs, e, hg, hB, hc⟩
  exact ⟨g, cs, e, hg, hB.below hb (by rw [hk]; exact hB.lt), hc⟩
theorem MOwn.lower {B B' : Nat} {w : World} {m : List Int} {a : Option Addr} {c : Nat} (h : MOwn B w m a c) (hB : B' ≤ B) : MOwn B' w m a c := by
  refine ⟨h.1, h.2.1, h.2.2.imp id ?_⟩
  rintro ⟨g, cs, e, hg, hb, hc⟩
  exact ⟨g, cs, e, Nat.le_trans hB hg, hb, hc⟩
theorem MOwn.at {B : Nat} {w : World} {m : List Int} {a : Option Addr} {c : Nat} (h : MOwn B w m a c) {i : Nat} (hi : i < m.length) : ∃ g, a = some ⟨g, 0, none⟩ ∧ B ≤ g ∧ g < w.heap.size ∧ w.cell? ⟨g, i, none⟩ = some (.int .i64 (m.getD i 0)) ∧ w.frozen? ⟨g, i, none⟩ = false := by
  rcases h.2.2 with h0 | ⟨g, cs, e, hg, hb, hc⟩
  · omega
  · refine ⟨g, e, hg, hb.lt, ?_, hb.free i⟩
    rw [hb.cell, hc i hi, List.getD_eq_getElem?_getD, List.getElem?_eq_getElem hi]; rfl
theorem MOwn.set {B : Nat} {w : World} {m : List Int} {g : Nat} {c : Nat} (h : MOwn B w m (some ⟨g, 0, none⟩) c) (i : Nat) (x : Int) : MOwn B (w.setCell ⟨g, i, none⟩ (.int .i64 x)) (m.set i x) (some ⟨g, 0, none⟩) c := by
  refine ⟨by simpa using h.1, h.2.1, ?_⟩
  rcases h.2.2 with h0 | ⟨g', cs, e, hg, hb, hc⟩
  · exact .inl (by simpa using h0)
  · cases e
    refine .inr ⟨g, _, rfl, hg, hb.set i _, fun j hj => ?_⟩
    have hj' : j < m.length := by simpa using hj
    rw [Array.getElem?_setIfInBounds, List.getElem_set]
    by_cases hij : i = j
    · subst hij
      have := (Array.getElem?_eq_some_iff.1 (hc i hj')).1
      simp [this]
    · simp only [hij, if_false]; exact hc j hj'
theorem MOwn.setOther {B : Nat} {w : World} {m : List Int} {a : Option Addr} {c : Nat} (h : MOwn B w m a c) {p : Addr} (hp : p.block < B) (u : Value) : MOwn B (w.setCell p u) m a c := by
  refine ⟨h.1, h.2.1, h.2.2.imp id ?_⟩
  rintro ⟨g, cs, e, hg, hb, hc⟩
  exact ⟨g, cs, e, hg, hb.other (by omega) u, hc⟩
def cvI (m : List Int) : List Value := m.map (Value.int .i64)
theorem cvI_at (m : List Int) (i : Nat) (h : i < m.length) : (cvI m)[i]? = some (.int .i64 m[i]) := by simp [cvI, h]
theorem cvI_len (m : List Int) : (cvI m).length = m.length := by simp [cvI]
theorem cvI_one (m : List Int) : ∀ u ∈ cvI m, u.oneCell' = true := by
  intro u hu
  simp only [cvI, List.mem_map] at hu
  obtain ⟨x, -, rfl⟩ := hu
  rfl
theorem own_mown {w : World} {B : Nat} {v : Value} {m : List Int} (h : w.ownsRow B 2 1 v m.length (cvI m)) : ∃ a c, v = .slice a m.length c ∧ MOwn B w m a c := by
  obtain ⟨hl, h2⟩ := h
  rcases h2 with ⟨rfl, h0⟩ | ⟨g, cap, cur, rfl, h3, h4, h5, h6, h7, h8⟩
  · exact ⟨none, 0, by rw [h0], by omega, Nat.zero_le _, .inl h0⟩
  · refine ⟨_, cap, rfl, h5, h6, .inr ⟨g, cur, rfl, h3, h4, fun i hi => ?_⟩⟩
    have := cvI_at m i hi
    rw [← h8, List.getElem?_take_of_lt (by omega)] at this
    simpa using this

theorem info_i64 : (Try.prog.info? 2).map (fun i => (i.zero, i.size, i.bytes)) = some (some (.int .i64 0), 1, 8) := by kernel_rfl
theorem make_i64 (n : Nat) (hn : n ≤ 16384) (w : World) : (Instr.makeSlice 22 (.int .i64 (n : Int)) (.int .i64 (n : Int))).run Try.prog w = .ok (.slice (some ⟨w.heap.size, 0, none⟩) n n) (w.alloc (.cells (cvI (List.replicate n 0)).toArray 2)) := by
  obtain ⟨i0, hi0, hz0, hz1, hz2⟩ := info_parts info_i64
  have h := run_make (P := Try.prog) w 22 2 i0 _ Try.underlying22 hi0 hz0 .i64 .i64 (n : Int) (n : Int) (by omega) (Int.le_refl _) (by rw [hz2]; omega) (by omega)
  rw [hz1] at h
  have e : madeCells (Value.cells (.int .i64 0)) n = (cvI (List.replicate n 0)).toArray := by
    apply Array.toList_inj.1
    have := toList_madeCells_one (.int .i64 0) n
    rw [show madeCells (Value.cells (.int .i64 0)) n = madeCells #[.int .i64 0] n from rfl, this]
    simp [cvI]
  have e2 : ((n : Int)).toNat = n := by omega
  rw [e2, Nat.mul_one, e] at h
  exact h
/-- A row that is being filled: k cells are v. -/
def fillV (v : Int) (n k : Nat) : List Value := cvI (List.replicate k v ++ List.replicate (n - k) 0)
theorem wrap_add (k d : Nat) (h : k + d ≤ 16384) : IntKind.i64.wrap ((k : Int) + (d : Int)) = ((k + d : Nat) : Int) := by rw [isI_wrap (by unfold isI; omega)]; omega
theorem rep_keep {wr w w' : World} {G : Nat} {row : Array Value} {l : Array Bool} {i : Nat} (h : (l.getD 7 false = false ∧ w' = wr) ∨ (l.getD 7 false = true ∧ w'.heap[G]? = some (.cells row 2 (0, 0)) ∧ Below G w w')) (hi : i ≠ 7) : ((l.setIfInBounds i true).getD 7 false = false ∧ w' = wr) ∨ ((l.setIfInBounds i true).getD 7 false = true ∧ w'.heap[G]? = some (.cells row 2 (0, 0)) ∧ Below G w w') := by rw [getD_set_ne false hi]; exact h
theorem fillV_len (v : Int) {n k : Nat} (h : k ≤ n) : (fillV v n k).length = n := by unfold fillV; rw [cvI_len]; simp; omega
theorem fillV_splice (v : Int) {n k d : Nat} (_h : k + d ≤ n) : splice (fillV v n k) k (cvI (List.replicate d v)) = fillV v n (k + d) := by
  unfold splice fillV cvI
  simp only [List.map_append, List.map_replicate, List.length_replicate]
  rw [List.take_append_of_le_length (by simp), List.take_of_length_le (by simp), List.drop_append, List.drop_of_length_le (by simp)]
  simp only [List.nil_append, List.length_replicate, Nat.add_sub_cancel_left, List.drop_replicate]
  rw [← List.append_assoc, List.replicate_append_replicate, Nat.sub_sub]
theorem rep_row {wr w w' : World} {G : Nat} {row row2 : Array Value} {l : Array Bool} (h : (l.getD 7 false = false ∧ w' = wr.drew) ∨ (l.getD 7 false = true ∧ w'.heap[G]? = some (.cells row2 2 (0, 0)) ∧ Below G w w')) (h0 : l.getD 7 false = false) (hr : wr.heap[G]? = some (.cells row 2 (0, 0))) : w'.heap[G]? = some (.cells row 2 (0, 0)) := by
  rcases h with ⟨-, rfl⟩ | ⟨h, -⟩
  · exact hr
  · rw [h0] at h; cases h
theorem rep_below {wr w w' : World} {G : Nat} {row2 : Array Value} {l : Array Bool} (h : (l.getD 7 false = false ∧ w' = wr.drew) ∨ (l.getD 7 false = true ∧ w'.heap[G]? = some (.cells row2 2 (0, 0)) ∧ Below G w w')) (h0 : l.getD 7 false = false) (hr : Below G w wr) : Below G w w' := by
  rcases h with ⟨-, rfl⟩ | ⟨h, -⟩
  · exact hr.drew
  · rw [h0] at h; cases h
theorem add_at (b o i : Nat) : (⟨b, o, none⟩ : Addr).add i = ⟨b, o + i, none⟩ := by
  unfold Addr.add
  split <;> simp_all
theorem fill_src {w' : World} {v : Int} {n k d G : Nat} (hr : w'.heap[G]? = some (.cells (fillV v n k).toArray 2 (0, 0))) (hd : d ≤ k) : ∀ j u, (cvI (List.replicate d v))[j]? = some u → w'.cell? ((⟨G, 0, none⟩ : Addr).add j) = some u := fun j u h => by
  have hj : j < d := by
    rcases Nat.lt_or_ge j d with h' | h'
    · exact h'
    · rw [cvI, List.getElem?_map, List.getElem?_eq_none (by simpa using h')] at h; cases h
  have e : (⟨G, 0, none⟩ : Addr).add j = ⟨G, j, none⟩ := by rw [add_at, Nat.zero_add]
  rw [e, Blk.cell (w := w') (t := 2) hr j]
  rw [cvI, List.getElem?_map, List.getElem?_replicate, if_pos hj] at h
  rw [← Option.some.inj h]
  simp only [fillV, cvI, List.getElem?_toArray, List.getElem?_map]
  rw [List.getElem?_append_left (by simp; omega), List.getElem?_replicate, if_pos (by omega)]
  rfl
set_option maxRecDepth 100000 in
set_option maxHeartbeats 4000000 in
theorem repeat_any (v : Int) (n b : Nat) (hn : n ≤ 16384) (w : World) (hv : w.cell? ⟨b, 0, none⟩ = some (.int .i64 v)) (hbl : b < w.heap.size) :
    Calls Try.prog 40 #[.slice (some ⟨b, 0, none⟩) 1 1, .int .i64 n] w fun e w' => ∃ g, e = .returned (.slice (some ⟨g, 0, none⟩) n n) ∧ w.heap.size ≤ g ∧ Blk w' g (cvI (List.replicate n v)).toArray 2 ∧ Below w.heap.size w w' := by
  have hM : ∀ w, Calls Try.prog 61 #[.int .u64 1, .int .u64 n] w fun e w' => e = .returned (.tuple #[.int .u64 0, .int .u64 n]) ∧ w' = w := fun w => by
    have h := Try.bits_Mul 1 n (by omega) (by omega) w
    rw [show 1 * n / 18446744073709551616 = 0 by omega, show 1 * n % 18446744073709551616 = n by omega] at h
    exact h
  have hmk := fun w => make_i64 n hn w
  have hw64 : wrap64 (n : Int) = (n : Int) := IntWalk.wrap64_in _ (by omega)
  have hw65 : IntKind.i64.wrap (n : Int) = (n : Int) := isI_wrap (by unfold isI; omega)
  have HB := Lib.hid hv
  clear hv
  go_enter Try.func40, Try.ntmps40
  go_upto_region 4 with (go_at_call 61; ((with_reducible refine (hM _).mono ?_); rintro e w1 ⟨rfl, rfl⟩))
  go_upto_region 7 with fail
  obtain ⟨G, hG⟩ : ∃ G, w1.heap.size = G := ⟨_, rfl⟩
  obtain ⟨W0, hW0⟩ : ∃ W0, w1.alloc (.cells (cvI (List.replicate n 0)).toArray 2) = W0 := ⟨_, rfl⟩
  have hr0 : W0.heap[G]? = some (.cells (fillV v n 0).toArray 2 (0, 0)) := by
    rw [← hW0, ← hG]; exact Blk.new w1 _ _
  have hb0 : Below G w1 W0 := by rw [← hW0, ← hG]; exact (Below.refl _ w1).alloc (Nat.le_refl _) _
  have hs0 : W0.heap.size = G + 1 := by rw [← hW0, ← hG]; simp
  obtain ⟨cs, hcs⟩ : ∃ cs, cvI (List.replicate (min 1 n) v) = cs := ⟨_, rfl⟩
  have hcl : cs.length = min 1 n := by rw [← hcs, cvI_len]; simp
  have hc1 : ∀ u ∈ cs, u.oneCell' = true := by rw [← hcs]; exact cvI_one _
  have hsrc : ∀ j u, cs[j]? = some u → W0.cell? ((⟨b, 0, none⟩ : Addr).add j) = some u := fun j u h => by
    rw [← hcs, cvI, List.getElem?_map] at h
    have hj : j < min 1 n := by
      rcases Nat.lt_or_ge j (min 1 n) with h' | h'
      · exact h'
      · rw [List.getElem?_eq_none (by simpa using h')] at h; cases h
    obtain rfl : j = 0 := by omega
    rw [List.getElem?_replicate, if_pos hj] at h
    rw [← Option.some.inj h]
    exact (hb0.cell (p := ⟨b, 0, none⟩) (show b < G by omega)).trans HB.out
  have hsp : splice (fillV v n 0) 0 cs = fillV v n (min 1 n) := by rw [← hcs]; have := fillV_splice v (n := n) (k := 0) (d := min 1 n) (by omega); rwa [Nat.zero_add] at this
  have hfl := fillV_len v (Nat.zero_le n)
  obtain ⟨z0, hz0⟩ : ∃ z, fillV v n 0 = z := ⟨_, rfl⟩
  rw [hz0] at hr0 hsp hfl
  have HR := Lib.hid hr0
  have HS := Lib.hid hsrc
  have HSP := Lib.hid hsp
  have HG := Lib.hid hG
  have HI := Lib.hid (show (Try.prog.info? 2).map (·.size) = some 1 by kernel_rfl)
  rw [hW0, hG]
  clear hW0 hr0 hsrc hsp hcs hz0 hG hmk hM
  go_wp2_with (first | (refine wpList_copy_splice rfl (.tmp 31) (.tmp 32) 22 22 rfl 2 Try.underlying22 HI.out (some ⟨G, 0, none⟩) (some ⟨b, 0, none⟩) n n 1 1 rfl rfl G 0 z0 2 HR.out cs hcl (fun _ => ⟨rfl, _, rfl, HS.out⟩) (by omega) hc1 G w1 hb0 (Nat.le_refl _) ?_; intro w3 hg3 hb3) | fail)
  have hg3' : w3.heap[G]? = some (.cells (fillV v n (min 1 n)).toArray 2 (0, 0)) := by rw [← HSP.out]; exact hg3.out
  clear hg3
  go_loopw [8] (fun x wr => ∃ k : Nat, x = .int .i64 k ∧ (1 ≤ k ∨ n = 0) ∧ k ≤ n ∧ wr.heap[G]? = some (.cells (fillV v n k).toArray 2 (0, 0)) ∧ Below G w1 wr) (fun x _ => n - (intOf x).toNat)
  case atStart => exact ⟨min 1 n, rfl, by omega, by omega, hg3', hb3⟩
  case round =>
    clear hg3' hb3 hb0 hc1 hcl hs0 HR HS HSP
    obtain ⟨k, rfl, h1, hk, hrow, hbr⟩ := hrel
    by_cases hlt : k < n
    · have hk1 : 1 ≤ k := by omega
      have kk : (k : Int) < (n : Int) := by omega
      obtain ⟨d, hd⟩ : ∃ d, min k (n - k) = d := ⟨_, rfl⟩
      have hrl := fillV_len v hk
      have hnk : ¬ n = k := by omega
      have hdk : d ≤ k := by omega
      have hdn : k + d ≤ n := by omega
      have hd1 : 1 ≤ d := by omega
      have HD := Lib.hid (And.intro hd (And.intro hdk (And.intro hdn hd1)))
      have HKD := Lib.hid (wrap_add k d (by omega))
      have HFIT := Lib.hid (show k + (cvI (List.replicate d v)).length ≤ (fillV v n k).length by rw [hrl, cvI_len, List.length_replicate]; exact hdn)
      have HME := Lib.hid (show n - (k + d) < n - k by omega)
      clear hd hdk hdn hd1 hw64 hw65
      have HROW := Lib.hid (And.intro hrow (And.intro hbr hrl))
      clear hrow hbr hrl
      go_wp2_with fail
      refine wp_region_any (by kernel_rfl) ?_
      refine wpAny_mem2 [some 38, some 39, some 40, some 41, some 42, some 43, some 44, some 45, some 46, some 8] (fun R => valsAt [.int .i64 (k : Int), .slice (some ⟨G, 0, none⟩) n n, .int .i64 (k : Int), .slice (some ⟨G, k, none⟩) (n - k) (n - k), .slice (some ⟨G, 0, none⟩) n n, .int .i64 (k : Int), .slice (some ⟨G, 0, none⟩) k n, .int .i64 (d : Int), .int .i64 ((k + d : Nat) : Int), .int .i64 ((k + d : Nat) : Int)]) (fun l _ w' => (l.getD 7 false = false ∧ w' = wr.drew) ∨ (l.getD 7 false = true ∧ w'.heap[G]? = some (.cells (fillV v n (k + d)).toArray 2 (0, 0)) ∧ Below G w1 w')) 100 (undef) rfl ?hvs (by kernel_rfl) (by kernel_rfl) (by kernel_rfl) ?hs ?he ?hj
      case hvs => intro R R' j _; rfl
      case hj => exact .inl ⟨rfl, rfl⟩
      case hs =>
        intro i o ho hi l R fr0 hl hl0 hup hv hx hcl w' hJ
        have HH := Lib.hid (And.intro hl hJ)
        have HU := Lib.hid hl0
        have HP := Lib.hid hup
        clear hl hJ hup
        have hi : i < 10 := (Array.getElem?_eq_some_iff.1 ho).1
        have hcase : i = 0 ∨ i = 1 ∨ i = 2 ∨ i = 3 ∨ i = 4 ∨ i = 5 ∨ i = 6 ∨ i = 7 ∨ i = 8 ∨ i = 9 := by omega
        clear hi
        rcases hcase with rfl | rfl | rfl | rfl | rfl | rfl | rfl | rfl | rfl | rfl
        · obtain rfl := Option.some.inj ho.symm
          clear ho
          have x8 : fr0.tmps[(8 : Nat)]? = some (.int .i64 (k : Int)) := early_read (j := 9) hx hcl hl0 rfl (by kernel_rfl) (by kernel_rfl)
          clear hv hx hcl hl0
          refine wpOp_step rfl (fun K hK => ?_)
          go_simp
          exact hK _ _ ⟨R, fun _ => rfl, rfl, rep_keep HH.out.2 (by decide : 0 ≠ 7)⟩
        · obtain rfl := Option.some.inj ho.symm
          clear ho
          have x7 : fr0.tmps[(7 : Nat)]? = some (.slice (some ⟨G, 0, none⟩) n n) := hx 7 (not_up (by decide))
          clear hv hx hcl hl0
          refine wpOp_step rfl (fun K hK => ?_)
          go_simp
          exact hK _ _ ⟨R, fun _ => rfl, rfl, rep_keep HH.out.2 (by decide : 1 ≠ 7)⟩
        · obtain rfl := Option.some.inj ho.symm
          clear ho
          have x8 : fr0.tmps[(8 : Nat)]? = some (.int .i64 (k : Int)) := early_read (j := 9) hx hcl hl0 rfl (by kernel_rfl) (by kernel_rfl)
          clear hv hx hcl hl0
          refine wpOp_step rfl (fun K hK => ?_)
          go_simp
          exact hK _ _ ⟨R, fun _ => rfl, rfl, rep_keep HH.out.2 (by decide : 2 ≠ 7)⟩
        · obtain rfl := Option.some.inj ho.symm
          clear ho
          have d1 : fr0.tmps[(39 : Nat)]? = some (.slice (some ⟨G, 0, none⟩) n n) := hv ⟨1, .data⟩ (by simp) rfl _ rfl
          have d2 : fr0.tmps[(40 : Nat)]? = some (.int .i64 (k : Int)) := hv ⟨2, .data⟩ (by simp) rfl _ rfl
          clear hv hx hcl hl0
          refine wpOp_step rfl (fun K hK => ?_)
          go_simp
          exact hK _ _ ⟨R, fun _ => rfl, rfl, rep_keep HH.out.2 (by decide : 3 ≠ 7)⟩
        · obtain rfl := Option.some.inj ho.symm
          clear ho
          have x7 : fr0.tmps[(7 : Nat)]? = some (.slice (some ⟨G, 0, none⟩) n n) := hx 7 (not_up (by decide))
          clear hv hx hcl hl0
          refine wpOp_step rfl (fun K hK => ?_)
          go_simp
          exact hK _ _ ⟨R, fun _ => rfl, rfl, rep_keep HH.out.2 (by decide : 4 ≠ 7)⟩
        · obtain rfl := Option.some.inj ho.symm
          clear ho
          have x8 : fr0.tmps[(8 : Nat)]? = some (.int .i64 (k : Int)) := early_read (j := 9) hx hcl hl0 rfl (by kernel_rfl) (by kernel_rfl)
          clear hv hx hcl hl0
          refine wpOp_step rfl (fun K hK => ?_)
          go_simp
          exact hK _ _ ⟨R, fun _ => rfl, rfl, rep_keep HH.out.2 (by decide : 5 ≠ 7)⟩
        · obtain rfl := Option.some.inj ho.symm
          clear ho
          have d4 : fr0.tmps[(42 : Nat)]? = some (.slice (some ⟨G, 0, none⟩) n n) := hv ⟨4, .data⟩ (by simp) rfl _ rfl
          have d5 : fr0.tmps[(43 : Nat)]? = some (.int .i64 (k : Int)) := hv ⟨5, .data⟩ (by simp) rfl _ rfl
          clear hv hx hcl hl0
          refine wpOp_step rfl (fun K hK => ?_)
          go_simp
          exact hK _ _ ⟨R, fun _ => rfl, rfl, rep_keep HH.out.2 (by decide : 6 ≠ 7)⟩
        · obtain rfl := Option.some.inj ho.symm
          clear ho
          have d3 : fr0.tmps[(41 : Nat)]? = some (.slice (some ⟨G, k, none⟩) (n - k) (n - k)) := hv ⟨3, .data⟩ (by simp) rfl _ rfl
          have d6 : fr0.tmps[(44 : Nat)]? = some (.slice (some ⟨G, 0, none⟩) k n) := hv ⟨6, .data⟩ (by simp) rfl _ rfl
          clear hv hx hcl hl0
          refine wpOp_step rfl (fun K hK => ?_)
          refine step_copy_splice rfl (.tmp 41) (.tmp 44) 22 22 rfl 2 Try.underlying22 HI.out (some ⟨G, k, none⟩) (some ⟨G, 0, none⟩) (n - k) (n - k) k n (by rw [show fr0.eval (.tmp 41) = fr0.tmps.getD 41 undef from rfl, Array.getD_eq_getD_getElem?, d3]; rfl) (by rw [show fr0.eval (.tmp 44) = fr0.tmps.getD 44 undef from rfl, Array.getD_eq_getD_getElem?, d6]; rfl) G k (fillV v n k) 2 (rep_row HH.out.2 (up_not HU.out) HROW.out.1) (cvI (List.replicate d v)) (by rw [cvI_len, List.length_replicate]; exact HD.out.1.symm) (fun _ => ⟨rfl, _, rfl, fill_src (rep_row HH.out.2 (up_not HU.out) HROW.out.1) HD.out.2.1⟩) HFIT.out (cvI_one _) G w1 (rep_below HH.out.2 (up_not HU.out) HROW.out.2.1) (Nat.le_refl _) ?_
          intro w2 hg2 hb2
          exact hK _ _ ⟨R, fun _ => rfl, by rw [cvI_len, List.length_replicate]; rfl, .inr ⟨up_self (by rw [HH.out.1]; decide), by rw [← fillV_splice v HD.out.2.2.1]; exact hg2.out, hb2⟩⟩
        · obtain rfl := Option.some.inj ho.symm
          clear ho
          have d0 : fr0.tmps[(38 : Nat)]? = some (.int .i64 (k : Int)) := hv ⟨0, .data⟩ (by simp) rfl _ rfl
          have d7 : fr0.tmps[(45 : Nat)]? = some (.int .i64 (d : Int)) := hv ⟨7, .data⟩ (by simp) rfl _ rfl
          clear hv hx hcl hl0
          refine wpOp_step rfl (fun K hK => ?_)
          have hkd := HKD.out
          go_simp
          exact hK _ _ ⟨R, fun _ => rfl, rfl, rep_keep HH.out.2 (by decide : 8 ≠ 7)⟩
        · obtain rfl := Option.some.inj ho.symm
          clear ho
          have d8 : fr0.tmps[(46 : Nat)]? = some (.int .i64 ((k + d : Nat) : Int)) := hv ⟨8, .data⟩ (by simp) rfl _ rfl
          clear hv hx hcl hl0
          refine wpOp_step rfl (fun K hK => ?_)
          go_simp
          exact hK _ _ ⟨R, fun _ => rfl, rfl, rep_keep HH.out.2 (by decide : 9 ≠ 7)⟩
      case he =>
        intro l R w' hall hJ
        simp only [putM, valsAt, Nat.reduceAdd, Nat.zero_add, List.getD_cons_zero, List.getD_cons_succ, Act.put, List.setIfInBounds_toArray, List.set_cons_succ, List.set_cons_zero]
        rcases hJ with ⟨h, -⟩ | ⟨-, hr, hb⟩
        · rw [hall 7 (by decide)] at h; cases h
        · go_wp2_with fail
          go_roundw
          case rel => exact ⟨k + d, rfl, .inl (Nat.le_trans HD.out.2.2.2 (Nat.le_add_left _ _)), HD.out.2.2.1, hr, hb⟩
          case measure => exact HME.out
    · have kk : (n : Int) ≤ (k : Int) := by omega
      obtain rfl : k = n := by omega
      have hrow2 : Blk wr G (cvI (List.replicate k v)).toArray 2 := by
        unfold fillV at hrow
        rw [Nat.sub_self] at hrow
        simp only [List.replicate_zero, List.append_nil] at hrow
        exact hrow
      have HROW := Lib.hid (And.intro hrow2 hbr)
      clear hrow hrow2 hbr
      go_wp2_with fail
      go_ret
      exact ⟨G, rfl, Nat.le_of_eq HG.out, HROW.out.1, by rw [HG.out]; exact HROW.out.2⟩
end Go.Proofs.Ythnefcafhpioaaa
