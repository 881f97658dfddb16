/-
  The walk of DbmBuilt.
-/
import Derived.Test.YthnefcafhpioaaaDgC
import Derived.Test.YthnefcafhpioaaaDeG
import Derived.Sort.CutIn
namespace Go.Proofs.Ythnefcafhpioaaa
open Go Go.RowKit Go.Shelf

attribute [local go_sem] Oper.semAt_some
/-- What holds while DbmBuilt asks. -/
structure BtF (X PB : Nat) (w : World) (ocs pcs : Array Value) (m pm : List Int) (l : List (List Int)) (a1 pa al : Option Addr) (W : World) : Prop where
  bx : Blk W X ocs 24
  bb : Blk W (X + 1) #[.bool false] 4
  bp : Blk W PB pcs 24
  mx : MAt W m a1
  mp : MAt W pm pa
  ml : RsAt W l al
  low : Below X w W
  sz : X + 2 ≤ W.heap.size
theorem BtF.next {X PB : Nat} {w : World} {ocs pcs : Array Value} {m pm : List Int} {l : List (List Int)} {a1 pa al : Option Addr} {W W' : World} (h : BtF X PB w ocs pcs m pm l a1 pa al W) (hb : Below W.heap.size W W') : BtF X PB w ocs pcs m pm l a1 pa al W' := ⟨h.bx.below hb h.bx.lt, h.bb.below hb h.bb.lt, h.bp.below hb h.bp.lt, h.mx.next hb, h.mp.next hb, h.ml.next hb, h.low.trans (hb.mono (by have := h.sz; omega)), Nat.le_trans h.sz hb.size⟩
theorem ptsO_zero {n : Int} {l : List (List Int)} (h : (ptsO n l).2 = 0) : numB n = true ∧ unl n l = false := by
  unfold ptsO at h
  split at h
  · cases h
  · rename_i h1
    simp only [not_or, Bool.not_eq_false, Bool.not_eq_true] at h1
    exact h1
theorem ptsO_has {N : Nat} {l : List (List Int)} {p : List Int} (hN : N ≤ 64) (h : (ptsO (N : Int) l).2 = 0) (hp : p ∈ l) : hasV (ptsO (N : Int) l).1 p = true := by
  obtain ⟨h1, h2⟩ := ptsO_zero h
  have hl : l.length ≠ 0 := fun e => by rw [List.eq_nil_of_length_eq_zero e] at hp; cases hp
  have e : ptsO N l = (⟨N, false, ptsM (2 * N) l⟩, 0) := by unfold ptsO; rw [if_neg (by simp [h1, h2]), if_neg hl]; rfl
  rw [e]
  exact pts_hasV hN h2 hp
set_option maxRecDepth 100000 in
set_option maxHeartbeats 16000000 in
theorem built_law (x : Oc) (a1 : Option Addr) (c1 : Nat) (nn : Int) (l : List (List Int)) (al : Option Addr) (cl : Nat) (w : World) (hx : MAt w x.m a1) (hl : RsAt w l al) (hll : l.length ≤ maxLen) (hli : ∀ r ∈ l, ∀ v ∈ r, isI v) (hxl : x.m.length ≤ maxLen) :
    Calls Try.prog 8 #[ocV x a1 c1, .int .i64 nn, .slice al l.length cl] w fun e w' => e = .returned (.bool true) ∧ Below w.heap.size w w' := by
  have HP1 : Hid (∀ ww : World, RsAt ww l al → Calls Try.prog 27 #[.int .i64 nn, .slice al l.length cl] ww fun e w' => ∃ a c, e = .returned (.tuple #[ocV (ptsO nn l).1 a c, .int .i64 (ptsO nn l).2]) ∧ MAt w' (ptsO nn l).1.m a ∧ Below ww.heap.size ww w') := Lib.hid fun ww h => (points_any nn l al cl ww h hll hli).mono fun e w' ⟨a, c, he, hm, hb⟩ => ⟨a, c, he, hm.mat, hb⟩
  have HPZ : Hid ((ptsO nn l).2 = 0 → numB nn = true ∧ unl nn l = false ∧ ∀ N : Nat, nn = N → N ≤ 64 → ∀ p ∈ l, hasV (ptsO nn l).1 p = true) := Lib.hid fun h => ⟨(ptsO_zero h).1, (ptsO_zero h).2, fun N hn hN p hp => by subst hn; exact ptsO_has hN h hp⟩
  obtain ⟨⟨po, pe⟩, hpo⟩ : ∃ z, ptsO nn l = z := ⟨_, rfl⟩
  rw [hpo] at HP1 HPZ
  obtain ⟨pn, pem, pm⟩ := po
  simp only at HP1 HPZ
  have HCK : Hid (∀ ww : World, MAt ww x.m a1 → Calls Try.prog 10 #[.agg #[.int .i64 x.n, .bool x.em, .slice a1 x.m.length c1]] ww fun e w' => e = .returned (.int .i64 (chkO x)) ∧ Below ww.heap.size ww w') := Lib.hid fun ww h => check_any x a1 c1 ww h
  have HDC : Hid (∀ ww : World, MAt ww x.m a1 → Calls Try.prog 30 #[.agg #[.int .i64 x.n, .bool x.em, .slice a1 x.m.length c1]] ww (DcToN ww (cellsO x))) := Lib.hid fun ww h => dcells_toN x a1 c1 ww h
  obtain ⟨xs, hxs⟩ : ∃ xs, cellsO x = xs := ⟨_, rfl⟩
  obtain ⟨F, hF⟩ : ∃ F, chkO x = F := ⟨_, rfl⟩
  rw [hxs] at HDC
  rw [hF] at HCK
  obtain ⟨n1, e1, m1⟩ := x
  simp only at hx HCK HDC hxl
  show Calls Try.prog 8 #[.agg #[.int .i64 n1, .bool e1, .slice a1 m1.length c1], .int .i64 nn, .slice al l.length cl] w _
  obtain ⟨X, hX⟩ : ∃ X, w.heap.size = X := ⟨_, rfl⟩
  obtain ⟨L1, hL1⟩ : ∃ X, m1.length = X := ⟨_, rfl⟩
  obtain ⟨LL, hLL⟩ : ∃ X, l.length = X := ⟨_, rfl⟩
  obtain ⟨PL, hPL⟩ : ∃ X, pm.length = X := ⟨_, rfl⟩
  have HP1 : Hid (∀ ww : World, RsAt ww l al → Calls Try.prog 27 #[.int .i64 nn, .slice al LL cl] ww fun e w' => ∃ a c, e = .returned (.tuple #[.agg #[.int .i64 pn, .bool pem, .slice a PL c], .int .i64 pe]) ∧ MAt w' pm a ∧ Below ww.heap.size ww w') := Lib.hid (by rw [← hLL, ← hPL]; exact HP1.out)
  rw [hL1] at HCK HDC
  rw [hL1, hLL]
  obtain ⟨Wa, hWa⟩ : ∃ W, w.alloc (.cells #[.int .i64 n1, .bool e1, .slice a1 L1 c1] 24) = W := ⟨_, rfl⟩
  obtain ⟨W1, hW1⟩ : ∃ W, Wa.alloc (.cells #[.bool false] 4) = W := ⟨_, rfl⟩
  have sa : Wa.heap.size = X + 1 := by rw [← hWa, ← hX]; simp
  have hx1 : Blk W1 X #[.int .i64 n1, .bool e1, .slice a1 L1 c1] 24 := by rw [← hW1, ← hWa, ← hX]; exact (Blk.new w _ _).alloc _
  have hx2 : Blk W1 (X + 1) #[.bool false] 4 := by rw [← hW1, ← sa]; exact Blk.new Wa _ _
  have hb1 : Below X w W1 := by rw [← hW1, ← hWa, ← hX]; exact ((Below.refl _ w).alloc (Nat.le_refl _) _).alloc (by simp) _
  have hs1 : W1.heap.size = X + 2 := by rw [← hW1, World.size_alloc, sa]
  have HW := Lib.hid (And.intro hX (And.intro hWa hW1))
  have HKN := Lib.hid (known12_any W1)
  have HE := Lib.hid (And.intro hx1 (And.intro hx2 (And.intro (hx.next (by rw [hX]; exact hb1)) (And.intro (hl.next (by rw [hX]; exact hb1)) (And.intro hb1 hs1)))))
  have HLX := Lib.hid (And.intro hLL (And.intro hL1 (And.intro hPL (And.intro hxs (And.intro hF (And.intro hxl (And.intro hll hli)))))))
  have hLm : LL ≤ maxLen := by omega
  unfold maxLen at hLm
  clear hx hl hX hL1 hLL hPL hxs hF hWa hW1 sa hx1 hx2 hb1 hs1 hpo hll hli hxl
  by_cases hbig : 20 < LL
  · have k1 : decide (20 < (LL : Int)) = true := by simp; omega
    clear HP1 HPZ HCK HDC
    refine calls_of_wp_marks Try.func8 rfl ?_
    simp only [Try.ntmps8, List.size_toArray, List.length_cons, List.length_nil, Nat.reduceAdd, Nat.reduceSub, Array.replicate_succ, Array.replicate_zero, List.push_toArray, List.append_toArray, List.nil_append, List.cons_append]
    go_upto_region 1 with fail
    rw [HW.out.2.1, HW.out.2.2]
    simp only [HW.out.1]
    go_upto_region 3 with (first | (go_at_call 9; (with_reducible refine HKN.out.mono ?_); rintro e W3 ⟨rfl, hb2⟩; have H3 := Lib.hid hb2; clear hb2) | fail)
    have H3' : Hid (Blk W3 (X + 1) #[.bool false] 4 ∧ Below X w W3) := Lib.hid ⟨HE.out.2.1.below H3.out HE.out.2.1.lt, HE.out.2.2.2.2.1.trans (H3.out.mono (by have := HE.out.2.2.2.2.2; omega))⟩
    have z0 := H3'.out.1.cell 0
    have z1 := H3'.out.1.free 0
    go_wp2_with fail
    have hZ := H3'.out.1.set 0 (.bool true)
    have z0 := hZ.cell 0
    simp at z0
    refine ⟨.bool true, by simp [results, Try.results8, go_sem, z0], rfl, ?_⟩
    rw [HW.out.1]
    exact H3'.out.2.setCell (by simp) _
  · have k1 : decide (20 < (LL : Int)) = false := by simp; omega
    clear hbig
    refine calls_of_wp_marks Try.func8 rfl ?_
    simp only [Try.ntmps8, List.size_toArray, List.length_cons, List.length_nil, Nat.reduceAdd, Nat.reduceSub, Array.replicate_succ, Array.replicate_zero, List.push_toArray, List.append_toArray, List.nil_append, List.cons_append]
    go_upto_region 1 with fail
    rw [HW.out.2.1, HW.out.2.2]
    simp only [HW.out.1]
    go_upto_region 3 with (first | (go_at_call 9; (with_reducible refine HKN.out.mono ?_); rintro e W3 ⟨rfl, hb2⟩; have H3 := Lib.hid hb2; clear hb2) | fail)
    have HML := Lib.hid (HE.out.2.2.2.1.next H3.out)
    go_upto_region 6 with (first | (go_at_call 27; (with_reducible refine (HP1.out _ HML.out).mono ?_); rintro e w5 ⟨pa, pc, rfl, hmp, hb5⟩) | fail)
    obtain ⟨PB, hPB⟩ : ∃ Y, w5.heap.size = Y := ⟨_, rfl⟩
    obtain ⟨W7, hW7⟩ : ∃ W, w5.alloc (.cells #[.int .i64 pn, .bool pem, .slice pa PL pc] 24) = W := ⟨_, rfl⟩
    have hb7 : Below w5.heap.size w5 W7 := by rw [← hW7]; exact (Below.refl _ w5).alloc (Nat.le_refl _) _
    have H7 : Hid (BtF X PB w #[.int .i64 n1, .bool e1, .slice a1 L1 c1] #[.int .i64 pn, .bool pem, .slice pa PL pc] m1 pm l a1 pa al W7) := Lib.hid (by
      have hb : Below W1.heap.size W1 W7 := (H3.out.trans (hb5.mono H3.out.size)).trans (hb7.mono (Nat.le_trans H3.out.size hb5.size))
      exact ⟨HE.out.1.below hb HE.out.1.lt, HE.out.2.1.below hb HE.out.2.1.lt, by rw [← hW7, ← hPB]; exact Blk.new w5 _ _, HE.out.2.2.1.next hb, hmp.next hb7, HE.out.2.2.2.1.next hb, HE.out.2.2.2.2.1.trans (hb.mono (by have := HE.out.2.2.2.2.2; omega)), by have h1 := hb.size; have h2 := HE.out.2.2.2.2.2; omega⟩)
    rw [hPB, hW7]
    clear hPB hW7 hb7 hmp hb5 HML H3 HE HKN HP1
    by_cases hpe : pe = 0
    · subst hpe
      obtain ⟨hnb, hun, hhas⟩ := HPZ.out rfl
      obtain ⟨h0, h64⟩ := numB_true hnb
      obtain ⟨N, rfl⟩ : ∃ N : Nat, nn = (N : Int) := ⟨nn.toNat, by omega⟩
      have hN : N ≤ 64 := by omega
      obtain ⟨tm, htm⟩ : ∃ m, (topO (N : Int)).m = m := ⟨_, rfl⟩
      obtain ⟨TL, hTL⟩ : ∃ L, tm.length = L := ⟨_, rfl⟩
      have htl : (topO (N : Int)).m.length = TL := by rw [htm]; exact hTL
      have HT : Hid (∀ ww : World, Calls Try.prog 14 #[.int .i64 N] ww fun e w' => ∃ a c, e = .returned (.tuple #[.agg #[.int .i64 N, .bool false, .slice a TL c], .int .i64 0]) ∧ MAt w' tm a ∧ Below ww.heap.size ww w') := Lib.hid fun ww => (top_any N ww hN).mono fun e w' ⟨a, c, he, hm, hb⟩ => ⟨a, c, by rw [he, ← htl]; rfl, by rw [← htm]; exact hm.mat, hb⟩
      have HU : Hid (∀ ww : World, Calls Try.prog 15 #[.int .i64 N] ww fun e w' => e = .returned (.tuple #[.agg #[.int .i64 N, .bool true, .slice none 0 0], .int .i64 0]) ∧ Below ww.heap.size ww w') := Lib.hid fun ww => by have h := empty_any (N : Int) ww; rw [if_pos hnb] at h; exact h
      have HHX : Hid (∀ (k : Nat) (p : List Int) (ap : Option Addr) (cp : Nat), l[k]? = some p → p.length = N ∧ (∀ ww : World, MAt ww pm pa → MAt ww p ap → Calls Try.prog 25 #[.agg #[.int .i64 pn, .bool pem, .slice pa PL pc], .slice ap N cp] ww fun e w' => e = .returned (.bool true) ∧ Below ww.heap.size ww w') ∧ (∀ (ww : World) (ta : Option Addr) (tc : Nat), MAt ww tm ta → MAt ww p ap → Calls Try.prog 25 #[.agg #[.int .i64 N, .bool false, .slice ta TL tc], .slice ap N cp] ww fun e w' => e = .returned (.bool true) ∧ Below ww.heap.size ww w') ∧ (∀ ww : World, MAt ww p ap → Calls Try.prog 25 #[.agg #[.int .i64 N, .bool true, .slice none 0 0], .slice ap N cp] ww fun e w' => e = .returned (.bool false) ∧ Below ww.heap.size ww w')) := Lib.hid fun k p ap cp hp => by
        have hpl := unl_false hun hp
        have hpm := List.mem_of_getElem? hp
        have hpi := HLX.out.2.2.2.2.2.2.2 p hpm
        refine ⟨hpl, fun ww h1 h2 => ?_, fun ww ta tc h1 h2 => ?_, fun ww h2 => ?_⟩
        · have h := has_any ⟨pn, pem, pm⟩ pa pc p ap cp ww h1 h2 hpi
          rw [hhas N rfl hN p hpm, hpl] at h
          rw [← HLX.out.2.2.1]; exact h
        · have h := has_any (topO (N : Int)) ta tc p ap cp ww (by rw [htm]; exact h1) h2 hpi
          rw [top_hasV hN hpl, hpl] at h
          rw [← htl]; exact h
        · have h := has_any (emptyOc (N : Int)) none 0 p ap cp ww (.inl rfl) h2 hpi
          rw [empty_hasV, hpl] at h
          exact h
      clear hnb hun hhas HPZ htm hTL htl h0 h64
      go_wp2_with fail
      go_loopw [9] (fun x wr => ∃ k : Nat, x = .int .i64 k ∧ k ≤ LL ∧ Below W7.heap.size W7 wr) (fun x _ => LL - (intOf x).toNat)
      case atStart => exact ⟨0, rfl, by omega, Below.refl _ _⟩
      case round =>
        obtain ⟨k, rfl, hk, hb⟩ := hrel
        have HB7 := Lib.hid hb
        have H8 := Lib.hid (H7.out.next hb)
        clear hb
        by_cases hlt : k < LL
        · obtain ⟨p, hp⟩ : ∃ p, l[k]? = some p := ⟨_, List.getElem?_eq_getElem (by rw [HLX.out.1]; exact hlt)⟩
          obtain ⟨b, o, rfl⟩ := H8.out.ml.some (by rw [HLX.out.1]; omega)
          obtain ⟨ap, cp, hc, hmp⟩ := H8.out.ml.atb hp
          obtain ⟨hpl, HH1', HH2', HH3'⟩ := HHX.out k p ap cp hp
          rw [hpl] at hc
          have HRC := Lib.hid (And.intro hc hmp)
          have HH1 := Lib.hid HH1'
          have HH2' := Lib.hid HH2'
          have HH3 := Lib.hid HH3'
          have k2 : (k : Int) < (LL : Int) := by omega
          have k3 : decide (k < LL) = true := by simpa using hlt
          clear hp hc hmp hpl HH1' HH3'
          go_upto_region 10 with (first | (go_at_call 14; (with_reducible refine (HT.out _).mono ?_); rintro e wa ⟨ta, tc, rfl, hmt, hba⟩) | fail)
          obtain ⟨TB, hTB⟩ : ∃ Y, wa.heap.size = Y := ⟨_, rfl⟩
          obtain ⟨W8, hW8⟩ : ∃ W, wa.alloc (.cells #[.int .i64 N, .bool false, .slice ta TL tc] 24) = W := ⟨_, rfl⟩
          have hb8 : Below wa.heap.size wa W8 := by rw [← hW8]; exact (Below.refl _ wa).alloc (Nat.le_refl _) _
          have HT8 : Hid (Blk W8 TB #[.int .i64 N, .bool false, .slice ta TL tc] 24 ∧ MAt W8 tm ta ∧ Below wr.heap.size wr W8) := Lib.hid ⟨by rw [← hW8, ← hTB]; exact Blk.new wa _ _, hmt.next hb8, hba.trans (hb8.mono hba.size)⟩
          rw [hTB, hW8]
          clear hTB hW8 hb8 hmt hba
          go_upto_region 11 with (first | (go_at_call 15; (with_reducible refine (HU.out _).mono ?_); rintro e wb ⟨rfl, hbb⟩) | fail)
          obtain ⟨UB, hUB⟩ : ∃ Y, wb.heap.size = Y := ⟨_, rfl⟩
          obtain ⟨W9, hW9⟩ : ∃ W, wb.alloc (.cells #[.int .i64 N, .bool true, .slice none 0 0] 24) = W := ⟨_, rfl⟩
          have hb9 : Below wb.heap.size wb W9 := by rw [← hW9]; exact (Below.refl _ wb).alloc (Nat.le_refl _) _
          have hb89 : Below W8.heap.size W8 W9 := hbb.trans (hb9.mono hbb.size)
          have hbr9 : Below wr.heap.size wr W9 := HT8.out.2.2.trans (hb89.mono HT8.out.2.2.size)
          have H9 : Hid (BtF X PB w #[.int .i64 n1, .bool e1, .slice a1 L1 c1] #[.int .i64 pn, .bool pem, .slice pa PL pc] m1 pm l a1 pa (some ⟨b, o, none⟩) W9 ∧ Blk W9 TB #[.int .i64 N, .bool false, .slice ta TL tc] 24 ∧ MAt W9 tm ta ∧ Blk W9 UB #[.int .i64 N, .bool true, .slice none 0 0] 24 ∧ Below wr.heap.size wr W9) := Lib.hid ⟨H8.out.next hbr9, HT8.out.1.below hb89 HT8.out.1.lt, HT8.out.2.1.next hb89, by rw [← hW9, ← hUB]; exact Blk.new wb _ _, hbr9⟩
          have HRW : Hid (W9.cell? ⟨b, o + k, none⟩ = some (.slice ap N cp) ∧ MAt W9 p ap) := Lib.hid ⟨(hbr9.cell (p := ⟨b, o + k, none⟩) (World.block_lt_of_cell? _ _ HRC.out.1)).trans HRC.out.1, HRC.out.2.next hbr9⟩
          have HH2 := Lib.hid (fun ww => HH2'.out ww ta tc)
          rw [hUB, hW9]
          clear hUB hW9 hb9 hb89 hbr9 hbb HT8 HRC HH2' H8
          refine wp_region_any (by kernel_rfl) ?_
          refine wpAny_vals [51, 52, 53, 54, 55, 56, 57, 58, 59, 60, 61, 62, 63, 64, 65, 66, 67, 68, 69, 70, 71, 72, 73, 74] [.agg #[.int .i64 pn, .bool pem, .slice pa PL pc], .slice (some ⟨b, o, none⟩) LL cl, .int .i64 (k : Int), .pointer (some ⟨b, o + k, none⟩), .slice ap N cp, .bool true, .bool false, .bool false, .agg #[.int .i64 N, .bool false, .slice ta TL tc], .slice (some ⟨b, o, none⟩) LL cl, .int .i64 (k : Int), .pointer (some ⟨b, o + k, none⟩), .slice ap N cp, .bool true, .bool false, .bool false, .bool false, .agg #[.int .i64 N, .bool true, .slice none 0 0], .slice (some ⟨b, o, none⟩) LL cl, .int .i64 (k : Int), .pointer (some ⟨b, o + k, none⟩), .slice ap N cp, .bool false, .bool false] (fun w' => Below W9.heap.size W9 w') rfl (by kernel_rfl) (by decide) (by kernel_rfl) ?hs ?he ?hj
          case hj => exact (Below.refl _ _).drew
          case hs =>
            intro qi qo ho fr0 hv hx w' hJ
            have hi : qi < 24 := (Array.getElem?_eq_some_iff.1 ho).1
            have p0 : w'.cell? ⟨PB, 0, none⟩ = some (.int .i64 pn) := (hJ.cell (p := ⟨PB, 0, none⟩) H9.out.1.bp.lt).trans (H9.out.1.bp.cell 0)
            have p1 : w'.cell? ⟨PB, 1, none⟩ = some (.bool pem) := (hJ.cell (p := ⟨PB, 1, none⟩) H9.out.1.bp.lt).trans (H9.out.1.bp.cell 1)
            have p2 : w'.cell? ⟨PB, 2, none⟩ = some (.slice pa PL pc) := (hJ.cell (p := ⟨PB, 2, none⟩) H9.out.1.bp.lt).trans (H9.out.1.bp.cell 2)
            have t0 : w'.cell? ⟨TB, 0, none⟩ = some (.int .i64 N) := (hJ.cell (p := ⟨TB, 0, none⟩) H9.out.2.1.lt).trans (H9.out.2.1.cell 0)
            have t1 : w'.cell? ⟨TB, 1, none⟩ = some (.bool false) := (hJ.cell (p := ⟨TB, 1, none⟩) H9.out.2.1.lt).trans (H9.out.2.1.cell 1)
            have t2 : w'.cell? ⟨TB, 2, none⟩ = some (.slice ta TL tc) := (hJ.cell (p := ⟨TB, 2, none⟩) H9.out.2.1.lt).trans (H9.out.2.1.cell 2)
            have u0 : w'.cell? ⟨UB, 0, none⟩ = some (.int .i64 N) := (hJ.cell (p := ⟨UB, 0, none⟩) H9.out.2.2.2.1.lt).trans (H9.out.2.2.2.1.cell 0)
            have u1 : w'.cell? ⟨UB, 1, none⟩ = some (.bool true) := (hJ.cell (p := ⟨UB, 1, none⟩) H9.out.2.2.2.1.lt).trans (H9.out.2.2.2.1.cell 1)
            have u2 : w'.cell? ⟨UB, 2, none⟩ = some (.slice none 0 0) := (hJ.cell (p := ⟨UB, 2, none⟩) H9.out.2.2.2.1.lt).trans (H9.out.2.2.2.1.cell 2)
            have cr : w'.cell? ⟨b, o + k, none⟩ = some (.slice ap N cp) := (hJ.cell (p := ⟨b, o + k, none⟩) (World.block_lt_of_cell? _ _ HRW.out.1)).trans HRW.out.1
            have HWW := Lib.hid hJ
            have HJ := Lib.hid hJ
            clear hJ
            have hcase : qi = 0 ∨ qi = 1 ∨ qi = 2 ∨ qi = 3 ∨ qi = 4 ∨ qi = 5 ∨ qi = 6 ∨ qi = 7 ∨ qi = 8 ∨ qi = 9 ∨ qi = 10 ∨ qi = 11 ∨ qi = 12 ∨ qi = 13 ∨ qi = 14 ∨ qi = 15 ∨ qi = 16 ∨ qi = 17 ∨ qi = 18 ∨ qi = 19 ∨ qi = 20 ∨ qi = 21 ∨ qi = 22 ∨ qi = 23 := by omega
            clear hi
            rcases hcase with rfl | rfl | rfl | rfl | rfl | rfl | rfl | rfl | rfl | rfl | rfl | rfl | rfl | rfl | rfl | rfl | rfl | rfl | rfl | rfl | rfl | rfl | rfl | rfl
            · obtain rfl := Option.some.inj ho.symm
              clear ho
              have x7 : fr0.tmps[(7 : Nat)]? = some (.pointer (some ⟨PB, 0, none⟩)) := hx 7 (by decide)
              clear hv hx
              refine wpOp_step rfl (fun K hK => ?_)
              go_simp
              exact hK _ _ ⟨rfl, HJ.out⟩
            · obtain rfl := Option.some.inj ho.symm
              clear ho
              have x2 : fr0.tmps[(2 : Nat)]? = some (.slice (some ⟨b, o, none⟩) LL cl) := hx 2 (by decide)
              clear hv hx
              refine wpOp_step rfl (fun K hK => ?_)
              go_simp
              exact hK _ _ ⟨rfl, HJ.out⟩
            · obtain rfl := Option.some.inj ho.symm
              clear ho
              have x9 : fr0.tmps[(9 : Nat)]? = some (.int .i64 (k : Int)) := hx 9 (by decide)
              clear hv hx
              refine wpOp_step rfl (fun K hK => ?_)
              go_simp
              exact hK _ _ ⟨rfl, HJ.out⟩
            · obtain rfl := Option.some.inj ho.symm
              clear ho
              have d1 : fr0.tmps[(52 : Nat)]? = some (.slice (some ⟨b, o, none⟩) LL cl) := hv ⟨1, .data⟩ (by simp) rfl
              have d2 : fr0.tmps[(53 : Nat)]? = some (.int .i64 (k : Int)) := hv ⟨2, .data⟩ (by simp) rfl
              clear hv hx
              refine wpOp_step rfl (fun K hK => ?_)
              go_simp
              exact hK _ _ ⟨rfl, HJ.out⟩
            · obtain rfl := Option.some.inj ho.symm
              clear ho
              have d3 : fr0.tmps[(54 : Nat)]? = some (.pointer (some ⟨b, o + k, none⟩)) := hv ⟨3, .data⟩ (by simp) rfl
              clear hv hx
              refine wpOp_step rfl (fun K hK => ?_)
              go_simp
              exact hK _ _ ⟨rfl, HJ.out⟩
            · obtain rfl := Option.some.inj ho.symm
              clear ho
              have d0 : fr0.tmps[(51 : Nat)]? = some (.agg #[.int .i64 pn, .bool pem, .slice pa PL pc]) := hv ⟨0, .data⟩ (by simp) rfl
              have d4 : fr0.tmps[(55 : Nat)]? = some (.slice ap N cp) := hv ⟨4, .data⟩ (by simp) rfl
              clear hv hx
              refine wpOp_step rfl (fun K hK => ?_)
              go_simp
              go_at_call 25
              refine (HH1.out _ (H9.out.1.mp.next HWW.out) (HRW.out.2.next HWW.out)).mono ?_
              rintro e w2 ⟨rfl, hb2⟩
              exact hK _ _ ⟨rfl, HJ.out.trans (hb2.mono HJ.out.size)⟩
            · obtain rfl := Option.some.inj ho.symm
              clear ho
              have d5 : fr0.tmps[(56 : Nat)]? = some (.bool true) := hv ⟨5, .data⟩ (by simp) rfl
              clear hv hx
              refine wpOp_step rfl (fun K hK => ?_)
              go_simp
              exact hK _ _ ⟨rfl, HJ.out⟩
            · obtain rfl := Option.some.inj ho.symm
              clear ho
              have d6 : fr0.tmps[(57 : Nat)]? = some (.bool false) := hv ⟨6, .data⟩ (by simp) rfl
              clear hv hx
              refine wpOp_step rfl (fun K hK => ?_)
              go_simp
              exact hK _ _ ⟨rfl, HJ.out⟩
            · obtain rfl := Option.some.inj ho.symm
              clear ho
              have d7 : fr0.tmps[(58 : Nat)]? = some (.bool false) := hv ⟨7, .guard⟩ (by simp) rfl
              have x10 : fr0.tmps[(10 : Nat)]? = some (.pointer (some ⟨TB, 0, none⟩)) := hx 10 (by decide)
              clear hv hx
              refine wpOp_step rfl (fun K hK => ?_)
              go_simp
              exact hK _ _ ⟨rfl, HJ.out⟩
            · obtain rfl := Option.some.inj ho.symm
              clear ho
              have d7 : fr0.tmps[(58 : Nat)]? = some (.bool false) := hv ⟨7, .guard⟩ (by simp) rfl
              have x2 : fr0.tmps[(2 : Nat)]? = some (.slice (some ⟨b, o, none⟩) LL cl) := hx 2 (by decide)
              clear hv hx
              refine wpOp_step rfl (fun K hK => ?_)
              go_simp
              exact hK _ _ ⟨rfl, HJ.out⟩
            · obtain rfl := Option.some.inj ho.symm
              clear ho
              have d7 : fr0.tmps[(58 : Nat)]? = some (.bool false) := hv ⟨7, .guard⟩ (by simp) rfl
              have x9 : fr0.tmps[(9 : Nat)]? = some (.int .i64 (k : Int)) := hx 9 (by decide)
              clear hv hx
              refine wpOp_step rfl (fun K hK => ?_)
              go_simp
              exact hK _ _ ⟨rfl, HJ.out⟩
            · obtain rfl := Option.some.inj ho.symm
              clear ho
              have d9 : fr0.tmps[(60 : Nat)]? = some (.slice (some ⟨b, o, none⟩) LL cl) := hv ⟨9, .data⟩ (by simp) rfl
              have d10 : fr0.tmps[(61 : Nat)]? = some (.int .i64 (k : Int)) := hv ⟨10, .data⟩ (by simp) rfl
              have d7 : fr0.tmps[(58 : Nat)]? = some (.bool false) := hv ⟨7, .guard⟩ (by simp) rfl
              clear hv hx
              refine wpOp_step rfl (fun K hK => ?_)
              go_simp
              exact hK _ _ ⟨rfl, HJ.out⟩
            · obtain rfl := Option.some.inj ho.symm
              clear ho
              have d11 : fr0.tmps[(62 : Nat)]? = some (.pointer (some ⟨b, o + k, none⟩)) := hv ⟨11, .data⟩ (by simp) rfl
              have d7 : fr0.tmps[(58 : Nat)]? = some (.bool false) := hv ⟨7, .guard⟩ (by simp) rfl
              clear hv hx
              refine wpOp_step rfl (fun K hK => ?_)
              go_simp
              exact hK _ _ ⟨rfl, HJ.out⟩
            · obtain rfl := Option.some.inj ho.symm
              clear ho
              have d8 : fr0.tmps[(59 : Nat)]? = some (.agg #[.int .i64 N, .bool false, .slice ta TL tc]) := hv ⟨8, .data⟩ (by simp) rfl
              have d12 : fr0.tmps[(63 : Nat)]? = some (.slice ap N cp) := hv ⟨12, .data⟩ (by simp) rfl
              have d7 : fr0.tmps[(58 : Nat)]? = some (.bool false) := hv ⟨7, .guard⟩ (by simp) rfl
              clear hv hx
              refine wpOp_step rfl (fun K hK => ?_)
              go_simp
              go_at_call 25
              refine (HH2.out _ (H9.out.2.2.1.next HWW.out) (HRW.out.2.next HWW.out)).mono ?_
              rintro e w2 ⟨rfl, hb2⟩
              exact hK _ _ ⟨rfl, HJ.out.trans (hb2.mono HJ.out.size)⟩
            · obtain rfl := Option.some.inj ho.symm
              clear ho
              have d13 : fr0.tmps[(64 : Nat)]? = some (.bool true) := hv ⟨13, .data⟩ (by simp) rfl
              have d7 : fr0.tmps[(58 : Nat)]? = some (.bool false) := hv ⟨7, .guard⟩ (by simp) rfl
              clear hv hx
              refine wpOp_step rfl (fun K hK => ?_)
              go_simp
              exact hK _ _ ⟨rfl, HJ.out⟩
            · obtain rfl := Option.some.inj ho.symm
              clear ho
              have d7 : fr0.tmps[(58 : Nat)]? = some (.bool false) := hv ⟨7, .data⟩ (by simp) rfl
              have d14 : fr0.tmps[(65 : Nat)]? = some (.bool false) := hv ⟨14, .data⟩ (by simp) rfl
              clear hv hx
              refine wpOp_step rfl (fun K hK => ?_)
              go_simp
              exact hK _ _ ⟨rfl, HJ.out⟩
            · obtain rfl := Option.some.inj ho.symm
              clear ho
              have d15 : fr0.tmps[(66 : Nat)]? = some (.bool false) := hv ⟨15, .data⟩ (by simp) rfl
              clear hv hx
              refine wpOp_step rfl (fun K hK => ?_)
              go_simp
              exact hK _ _ ⟨rfl, HJ.out⟩
            · obtain rfl := Option.some.inj ho.symm
              clear ho
              have d16 : fr0.tmps[(67 : Nat)]? = some (.bool false) := hv ⟨16, .guard⟩ (by simp) rfl
              have x12 : fr0.tmps[(12 : Nat)]? = some (.pointer (some ⟨UB, 0, none⟩)) := hx 12 (by decide)
              clear hv hx
              refine wpOp_step rfl (fun K hK => ?_)
              go_simp
              exact hK _ _ ⟨rfl, HJ.out⟩
            · obtain rfl := Option.some.inj ho.symm
              clear ho
              have d16 : fr0.tmps[(67 : Nat)]? = some (.bool false) := hv ⟨16, .guard⟩ (by simp) rfl
              have x2 : fr0.tmps[(2 : Nat)]? = some (.slice (some ⟨b, o, none⟩) LL cl) := hx 2 (by decide)
              clear hv hx
              refine wpOp_step rfl (fun K hK => ?_)
              go_simp
              exact hK _ _ ⟨rfl, HJ.out⟩
            · obtain rfl := Option.some.inj ho.symm
              clear ho
              have d16 : fr0.tmps[(67 : Nat)]? = some (.bool false) := hv ⟨16, .guard⟩ (by simp) rfl
              have x9 : fr0.tmps[(9 : Nat)]? = some (.int .i64 (k : Int)) := hx 9 (by decide)
              clear hv hx
              refine wpOp_step rfl (fun K hK => ?_)
              go_simp
              exact hK _ _ ⟨rfl, HJ.out⟩
            · obtain rfl := Option.some.inj ho.symm
              clear ho
              have d18 : fr0.tmps[(69 : Nat)]? = some (.slice (some ⟨b, o, none⟩) LL cl) := hv ⟨18, .data⟩ (by simp) rfl
              have d19 : fr0.tmps[(70 : Nat)]? = some (.int .i64 (k : Int)) := hv ⟨19, .data⟩ (by simp) rfl
              have d16 : fr0.tmps[(67 : Nat)]? = some (.bool false) := hv ⟨16, .guard⟩ (by simp) rfl
              clear hv hx
              refine wpOp_step rfl (fun K hK => ?_)
              go_simp
              exact hK _ _ ⟨rfl, HJ.out⟩
            · obtain rfl := Option.some.inj ho.symm
              clear ho
              have d20 : fr0.tmps[(71 : Nat)]? = some (.pointer (some ⟨b, o + k, none⟩)) := hv ⟨20, .data⟩ (by simp) rfl
              have d16 : fr0.tmps[(67 : Nat)]? = some (.bool false) := hv ⟨16, .guard⟩ (by simp) rfl
              clear hv hx
              refine wpOp_step rfl (fun K hK => ?_)
              go_simp
              exact hK _ _ ⟨rfl, HJ.out⟩
            · obtain rfl := Option.some.inj ho.symm
              clear ho
              have d17 : fr0.tmps[(68 : Nat)]? = some (.agg #[.int .i64 N, .bool true, .slice none 0 0]) := hv ⟨17, .data⟩ (by simp) rfl
              have d21 : fr0.tmps[(72 : Nat)]? = some (.slice ap N cp) := hv ⟨21, .data⟩ (by simp) rfl
              have d16 : fr0.tmps[(67 : Nat)]? = some (.bool false) := hv ⟨16, .guard⟩ (by simp) rfl
              clear hv hx
              refine wpOp_step rfl (fun K hK => ?_)
              go_simp
              go_at_call 25
              refine (HH3.out _ (HRW.out.2.next HWW.out)).mono ?_
              rintro e w2 ⟨rfl, hb2⟩
              exact hK _ _ ⟨rfl, HJ.out.trans (hb2.mono HJ.out.size)⟩
            · obtain rfl := Option.some.inj ho.symm
              clear ho
              have d16 : fr0.tmps[(67 : Nat)]? = some (.bool false) := hv ⟨16, .data⟩ (by simp) rfl
              have d22 : fr0.tmps[(73 : Nat)]? = some (.bool false) := hv ⟨22, .data⟩ (by simp) rfl
              clear hv hx
              refine wpOp_step rfl (fun K hK => ?_)
              go_simp
              exact hK _ _ ⟨rfl, HJ.out⟩
          case he =>
            intro w' hJ
            simp only [putF, valsAt, Nat.reduceAdd, Nat.zero_add, List.getD_cons_zero, List.getD_cons_succ, Act.put, List.setIfInBounds_toArray, List.set_cons_succ, List.set_cons_zero]
            have H10 := Lib.hid hJ
            clear hJ
            go_wp2_with fail
            go_roundw
            case rel => exact ⟨k + 1, by go_num, by omega, (HB7.out.trans (H9.out.2.2.2.2.mono HB7.out.size)).trans (H10.out.mono (Nat.le_trans HB7.out.size H9.out.2.2.2.2.size))⟩
            case measure => simp [intOf]; omega
        · have k2 : (LL : Int) ≤ (k : Int) := by omega
          have k3 : decide (k < LL) = false := by simp; omega
          clear HT HU HHX
          have x0 := H8.out.bx.cell 0
          have x1 := H8.out.bx.cell 1
          have x2 := H8.out.bx.cell 2
          by_cases hno : F ≠ 0 ∨ e1 = true
          · by_cases h0 : F = 0
            · have he : e1 = true := hno.resolve_left (by simp [h0])
              subst he
              have k0 : (F != 0) = false := by simp [h0]
              clear hno h0
              go_wp2_with (first | (go_at_call 10; ((with_reducible refine (HCK.out _ H8.out.mx).mono ?_); rintro e w2 ⟨rfl, hb2⟩; have H2 := Lib.hid (H8.out.next hb2); clear hb2; have y1 := H2.out.bx.cell 1; have z0 := H2.out.bb.cell 0; have z1 := H2.out.bb.free 0)) | fail)
              have hZ := H2.out.bb.set 0 (.bool true)
              have z0 := hZ.cell 0
              simp at z0
              refine ⟨.bool true, by simp [results, Try.results8, go_sem, z0], rfl, ?_⟩
              rw [HW.out.1]
              exact H2.out.low.setCell (by simp) _
            · have k0 : (F != 0) = true := by simp [h0]
              clear hno h0
              go_wp2_with (first | (go_at_call 10; ((with_reducible refine (HCK.out _ H8.out.mx).mono ?_); rintro e w2 ⟨rfl, hb2⟩; have H2 := Lib.hid (H8.out.next hb2); clear hb2; have z0 := H2.out.bb.cell 0; have z1 := H2.out.bb.free 0)) | fail)
              have hZ := H2.out.bb.set 0 (.bool true)
              have z0 := hZ.cell 0
              simp at z0
              refine ⟨.bool true, by simp [results, Try.results8, go_sem, z0], rfl, ?_⟩
              rw [HW.out.1]
              exact H2.out.low.setCell (by simp) _
          · have h0 : F = 0 := by
              by_cases h : F = 0
              · exact h
              · exact absurd (.inl h) hno
            have he : e1 = false := by
              cases e1 with
              | true => exact absurd (.inr rfl) hno
              | false => rfl
            subst he h0
            clear hno
            obtain ⟨N2, hN2, hn2, -, hok⟩ := chk_zero HLX.out.2.2.2.2.1
            obtain ⟨hlen, hokm⟩ := hok rfl
            simp only at hn2 hlen hokm
            subst hn2
            have hxe : xs = celL (2 * N2) m1 (allP (2 * N2)) := by
              rw [← HLX.out.2.2.2.1]
              unfold cellsO
              rw [if_pos ⟨HLX.out.2.2.2.2.1, rfl⟩]
              simp
            have hS : 2 * N2 * (2 * N2) = L1 := by rw [← hlen]; exact HLX.out.2.1
            have HT2 : Hid (∀ ww : World, Calls Try.prog 14 #[.int .i64 N2] ww fun e w' => ∃ a c, e = .returned (.tuple #[.agg #[.int .i64 N2, .bool false, .slice a L1 c], .int .i64 0]) ∧ MOwn ww.heap.size w' (topM (2 * N2)) a c ∧ Below ww.heap.size ww w') := Lib.hid fun ww => (top_any N2 ww hN2).mono fun e w' ⟨a, c, he, hm, hb⟩ => by
              have hto : (topO (N2 : Int)).m = topM (2 * N2) := by show topM (2 * ((N2 : Int)).toNat) = _; simp
              refine ⟨a, c, ?_, by rw [hto] at hm; exact hm, hb⟩
              rw [he]
              show Ending.returned (.tuple #[.agg #[.int .i64 N2, .bool false, .slice a (topO (N2 : Int)).m.length c], .int .i64 0]) = _
              rw [hto, topM_len, hS]
            have HQ0 := Lib.hid (And.intro hN2 (And.intro hlen (And.intro hokm (And.intro hxe hS))))
            clear hN2 hok hlen hokm hxe hS
            go_upto_region 15 with (first | (go_at_call 10; ((with_reducible refine (HCK.out _ H8.out.mx).mono ?_); rintro e w2 ⟨rfl, hb2⟩; have H2 := Lib.hid (H8.out.next hb2); clear hb2; have y1 := H2.out.bx.cell 1)) | fail)
            have y0 := H2.out.bx.cell 0
            clear x0 x1 x2 y1
            go_upto_region 16 with (first | (go_at_call 14; (with_reducible refine (HT2.out _).mono ?_); rintro e wt ⟨ta, tc, rfl, hmt, hbt⟩) | fail)
            obtain ⟨T0, hT0⟩ : ∃ Y, wt.heap.size = Y := ⟨_, rfl⟩
            obtain ⟨WT, hWT⟩ : ∃ W, wt.alloc (.cells #[.int .i64 N2, .bool false, .slice ta L1 tc] 24) = W := ⟨_, rfl⟩
            have hbT : Below wt.heap.size wt WT := by rw [← hWT]; exact (Below.refl _ wt).alloc (Nat.le_refl _) _
            have HTT : Hid (BtF X PB w #[.int .i64 N2, .bool false, .slice a1 L1 c1] #[.int .i64 pn, .bool pem, .slice pa PL pc] m1 pm l a1 pa al WT ∧ Blk WT T0 #[.int .i64 N2, .bool false, .slice ta L1 tc] 24 ∧ MOwn w2.heap.size WT (topM (2 * N2)) ta tc ∧ WT.heap.size = T0 + 1 ∧ X + 2 ≤ T0 ∧ (∀ g, ta = some ⟨g, 0, none⟩ → 0 < (topM (2 * N2)).length → g < T0) ∧ (∀ b o, a1 = some ⟨b, o, none⟩ → 0 < m1.length → b < T0)) := Lib.hid ⟨(H2.out.next hbt).next hbT, by rw [← hWT, ← hT0]; exact Blk.new wt _ _, hmt.next hbT rfl, by rw [← hWT, World.size_alloc, hT0], by rw [← hT0]; exact Nat.le_trans H2.out.sz hbt.size, fun g e hg => by rw [← hT0]; exact hmt.lt g e hg, fun b o e hp => by
              obtain ⟨b', o', e', hc⟩ := mat_at H2.out.mx hp
              rw [e] at e'
              cases e'
              have h1 := World.block_lt_of_cell? _ _ hc
              have h2 := hbt.size
              simp only at h1
              omega⟩
            rw [hT0, hWT]
            clear hT0 hWT hbT hmt hbt H2 HT2 y0 H8
            have x0 := HTT.out.1.bx.cell 0
            have x1 := HTT.out.1.bx.cell 1
            have x2 := HTT.out.1.bx.cell 2
            go_wp2_with (first | (go_at_call 30; (with_reducible refine (HDC.out _ HTT.out.1.mx).mono ?_); rintro e W4 ⟨hb4, gf, lb, K, rfl, heg, hsq, hK⟩; have HQ := Lib.hid (And.intro heg (And.intro hsq (And.intro hK hb4))); clear heg hsq hK hb4) | fail)
            have hb4 := HQ.out.2.2.2
            obtain ⟨Z, hZ⟩ : ∃ Z, W4.heap.size = Z := ⟨_, rfl⟩
            have HZ4 : Hid (T0 < Z ∧ X + 2 ≤ T0 ∧ W4.heap.size = Z) := Lib.hid ⟨by rw [← hZ]; have h1 := hb4.size; have h2 := HTT.out.2.2.2.1; omega, HTT.out.2.2.2.2.1, hZ⟩
            have hF4 := HTT.out.1.next hb4
            have HF4 := Lib.hid hF4
            have HI0 : Hid (BuI X T0 N2 L1 w W4 m1 [] W4) := Lib.hid (by
              refine ⟨Oth.refl _ _, hF4.low, ta, tc, HTT.out.2.1.below hb4 HTT.out.2.1.lt, ?_⟩
              have hm4 := HTT.out.2.2.1.next hb4 rfl
              rcases hm4.2.2 with h0 | ⟨g, cs, e, hg, hB, hc⟩
              · exact .inl h0
              · refine (Nat.eq_zero_or_pos (topM (2 * N2)).length).imp id fun hp => ?_
                have hgT := HTT.out.2.2.2.2.2.1 g e hp
                refine ⟨g, 0, e, .inl (by rw [hZ]; have := HZ4.out.1; omega), by omega, fun i hi => ?_⟩
                rw [hB.cell, Nat.zero_add]; exact hc i hi)
            have HKA : Hid (∀ (pre : List ((Nat × Nat) × Int)) (A : World), BuI X T0 N2 L1 w W4 m1 pre A → K A) := Lib.hid fun pre A h => HQ.out.2.2.1 A ⟨h.oth.1, fun k hk hl => h.oth.2 k hl (by have := HTT.out.2.2.2.1; omega)⟩
            have HA1 := Lib.hid HTT.out.2.2.2.2.2.2
            clear hb4 hF4 x0 x1 x2 HTT hZ
            refine wp_rangeFunc_oneN (own := 4) (gf := gf) (lb := lb) rfl HQ.out.1 HQ.out.2.1 (Below.refl _ _) (fun _ => rfl)
              (fun pre A => BuI X T0 N2 L1 w W4 m1 pre A) (fun c pre A => False)
              (fun pre A B h hb => h.nb (hb.widen (Nat.le_refl _) (by omega)) (by have := HZ4.out; omega) (by have := HZ4.out; omega)) (fun c pre A B h hb => h)
              (fun pre A h => HKA.out pre A h) HI0.out ?round2 ?done2 ?stop2
            case round2 =>
              clear HI0
              rintro lp pre ⟨⟨i, j⟩, C⟩ A9 hI hpre hl1 hl2
              dsimp only [encC]
              gi_wp2
              obtain ⟨G, hG⟩ : ∃ G, A9.heap.size = G := ⟨_, rfl⟩
              obtain ⟨A3, hA3⟩ : ∃ A3, A9.alloc (.cells #[.int .i64 i, .int .i64 j] 54) = A3 := ⟨_, rfl⟩
              have hb3 : Below A9.heap.size A9 A3 := by rw [← hA3]; exact (Below.refl _ A9).alloc (Nat.le_refl _) _
              have hG3 : Blk A3 G #[.int .i64 i, .int .i64 j] 54 := by rw [← hA3, ← hG]; exact Blk.new A9 _ _
              rw [hA3, hG]
              refine ⟨(Above.refl _ A9).below hb3, fun r o' hr => ?_⟩
              have hz3 := hb3.size
              have hI2 := hI.nb ((Nb.of hb3 rfl (by omega)).trans (Nb.put (lo := W4.heap.size) (hi := W4.heap.size + 6) (l := lp) (.loop o') (by omega) (by omega) (by omega))) (by have := HZ4.out; omega) (by have := HZ4.out; omega)
              have hG2 := hG3.putLoop hr (.loop o')
              obtain ⟨A2, hA2⟩ : ∃ A2, A3.putObj lp (.loop o') = A2 := ⟨_, rfl⟩
              have hz2 : W4.heap.size + 6 ≤ A2.heap.size := by rw [← hA2]; simp; omega
              rw [hA2] at hI2 hG2 ⊢
              have hgood : ∀ y ∈ pre ++ [((i, j), C)], Good (2 * N2) m1 y := fun y hy => cel_good HQ0.out.2.2.1 y (by rw [← HQ0.out.2.2.2.1]; exact hpre.subset hy)
              have hhalf := (lay_half HQ0.out.2.2.1 pre _ (half_top m1) (fun y hy => hgood y (by simp [hy]))).1
              have hwith := lay_with HQ0.out.1 hhalf (hgood ((i, j), C) (by simp))
              have hsn := layC_snoc (2 * N2) (topM (2 * N2)) pre ((i, j), C)
              obtain ⟨ta9, tc9, hBt, hMn⟩ := hI2.t
              have hlt : (layC (2 * N2) (topM (2 * N2)) pre).length = L1 := by rw [hhalf.1, HQ0.out.2.2.2.2]
              have hln : (layC (2 * N2) (topM (2 * N2)) (pre ++ [((i, j), C)])).length = L1 := by rw [hsn, withM_len, hlt]
              have hwa := with_any ⟨N2, false, layC (2 * N2) (topM (2 * N2)) pre⟩ ta9 tc9 i j C A2 hMn.mat (by simp only; rw [hlt]; have h1 := HLX.out.2.1; have h2 := HLX.out.2.2.2.2.2.1; omega)
              simp only at hwith
              rw [hwith] at hwa
              simp only at hsn
              rw [← hsn] at hwa
              have HWI : Hid (Calls Try.prog 22 #[.agg #[.int .i64 N2, .bool false, .slice ta9 L1 tc9], .int .i64 i, .int .i64 j, .int .i64 C] A2 fun e w' => ∃ a c, e = .returned (.tuple #[.agg #[.int .i64 N2, .bool false, .slice a L1 c], .int .i64 0]) ∧ MOwn A2.heap.size w' (layC (2 * N2) (topM (2 * N2)) (pre ++ [((i, j), C)])) a c ∧ Below A2.heap.size A2 w') := Lib.hid (by
                rw [← hlt]
                refine hwa.mono fun e w' ⟨a, c, he, hm, hb⟩ => ⟨a, c, ?_, hm, hb⟩
                rw [he]
                show Ending.returned (.tuple #[.agg #[.int .i64 N2, .bool false, .slice a (layC (2 * N2) (topM (2 * N2)) (pre ++ [((i, j), C)])).length c], .int .i64 0]) = _
                rw [hln, hlt])
              have HI2 := Lib.hid (And.intro hI2 hz2)
              have t0 := hBt.cell 0
              have t1 := hBt.cell 1
              have t2 := hBt.cell 2
              have g0 := hG2.cell 0
              have g1 := hG2.cell 1
              have HBT := Lib.hid hBt
              clear hA2 hr hI hl1 hl2 hpre hG3 hb3 hA3 hG hz3 hgood hhalf hwith hsn hlt hln hwa hMn hBt hI2 hz2 hG2
              gi_upto_region 20 with (first | (refine ⟨trivial, ?_⟩; gi_at_call 22; (with_reducible refine (CallsIn.inRound lp (callsIn_wide.2 HWI.out)).mono ?_); rintro e w5 ⟨qa, qc, rfl, hmq, hb5⟩) | fail)
              obtain ⟨Q0, hQ0⟩ : ∃ Y, w5.heap.size = Y := ⟨_, rfl⟩
              obtain ⟨W6, hW6⟩ : ∃ W, w5.alloc (.cells #[.int .i64 N2, .bool false, .slice qa L1 qc] 24) = W := ⟨_, rfl⟩
              have hb6 : Below w5.heap.size w5 W6 := by rw [← hW6]; exact (Below.refl _ w5).alloc (Nat.le_refl _) _
              have hQB : Blk W6 Q0 #[.int .i64 N2, .bool false, .slice qa L1 qc] 24 := by rw [← hW6, ← hQ0]; exact Blk.new w5 _ _
              have hT6 := (HBT.out.below hb5 HBT.out.lt).below hb6 (by have := HBT.out.lt; have := hb5.size; omega)
              rw [hQ0, hW6]
              have HST := Lib.hid (fun v0 v1 v2 => HI2.out.1.step (x := ((i, j), C)) (v0 := v0) (v1 := v1) (v2 := v2) (by have := HZ4.out; omega) (by have := HZ4.out; omega) HI2.out.2 hb5 hb6 hmq)
              have q0 := hQB.cell 0
              have q1 := hQB.cell 1
              have q2 := hQB.cell 2
              have f0 := hT6.free 0
              have f1 := hT6.free 1
              have f2 := hT6.free 2
              have s0 := hT6.cell 0
              have s1 := hT6.cell 1
              have s2 := hT6.cell 2
              clear hQ0 hW6 hb6 hQB hT6 hmq hb5 t0 t1 t2 g0 g1
              gi_wp2
              exact HST.out _ _ _ rfl rfl rfl
            case done2 =>
              intro D2 A9 hD2 hI hK2
              obtain ⟨ta9, tc9, hBt, hMn⟩ := hI.t
              rw [HQ0.out.2.2.2.1, lay_all HQ0.out.2.1 HQ0.out.2.2.1] at hMn
              have hX9 := hI.oth.blk HF4.out.bx (by have := HZ4.out; omega)
              have hB9 := hI.oth.blk HF4.out.bb (by have := HZ4.out; omega)
              have hm9 : MAt A9 m1 a1 := by
                rcases HF4.out.mx with h0 | ⟨b, o, e, hc⟩
                · exact .inl h0
                · refine (Nat.eq_zero_or_pos m1.length).imp id fun hp => ⟨b, o, e, fun q hq => ?_⟩
                  have h1 := HA1.out b o e hp
                  exact (hI.oth.cell (p := ⟨b, o + q, none⟩) (by have := HZ4.out; simp; omega) (by simp; omega)).trans (hc q hq)
              have HOC : Hid (Calls Try.prog 16 #[.agg #[.int .i64 N2, .bool false, .slice ta9 L1 tc9], .agg #[.int .i64 N2, .bool false, .slice a1 L1 c1]] A9 fun e w' => e = .returned (.bool true) ∧ Below A9.heap.size A9 w') := Lib.hid (by
                have h3 := oct_any ⟨N2, false, m1⟩ ⟨N2, false, m1⟩ ta9 a1 tc9 c1 A9 hMn.mat hm9 HLX.out.2.2.2.2.2.1
                rw [octB_refl] at h3
                rw [← HLX.out.2.1]; exact h3)
              have t0 := hBt.cell 0
              have t1 := hBt.cell 1
              have t2 := hBt.cell 2
              have x0 := hX9.cell 0
              have x1 := hX9.cell 1
              have x2 := hX9.cell 2
              have HB9 := Lib.hid (And.intro hB9 (And.intro hI.low (And.intro hK2 (And.intro hD2 hI.oth.1))))
              clear hD2 hI hK2 hBt hMn hX9 hB9 hm9 HI0
              go_wp2_with (first | (go_at_call 16; (with_reducible refine HOC.out.mono ?_); rintro e w10 ⟨rfl, hb10⟩; have H10 := Lib.hid (And.intro (HB9.out.1.below hb10 HB9.out.1.lt) hb10); clear hb10; have z0 := H10.out.1.cell 0; have z1 := H10.out.1.free 0) | fail)
              have hne : D2 ≠ X + 1 := by have h1 := HB9.out.2.2.2.1; have h2 := HZ4.out; omega
              refine leaves_all [D2] _ (List.nodup_cons.2 ⟨by simp, List.nodup_nil⟩) (fun E hE => ?_) ?_
              · obtain rfl : E = D2 := by simpa using hE
                exact (Below.heap_setCell _ _ _ _ hne).trans ((H10.out.2.block E (Array.getElem?_eq_some_iff.1 HB9.out.2.2.1).1).trans HB9.out.2.2.1)
              · have hbb : Below (X + 2) (w10.setCell ⟨X + 1, 0, none⟩ (.bool true)) (putAll (w10.setCell ⟨X + 1, 0, none⟩ (.bool true)) [D2]) := putAll_below _ _ _ fun E hE => by
                  obtain rfl : E = D2 := by simpa using hE
                  have h1 := HB9.out.2.2.2.1
                  have h2 := HZ4.out
                  omega
                have hZ := (H10.out.1.set 0 (.bool true)).below hbb (by omega)
                have z0 := hZ.cell 0
                simp at z0
                refine ⟨.bool true, by simp [results, Try.results8, go_sem, z0], rfl, ?_⟩
                rw [HW.out.1]
                have h1 : X ≤ A9.heap.size := by have h2 := HB9.out.2.2.2.2; have h3 := HZ4.out; omega
                exact ((HB9.out.2.1.trans (H10.out.2.mono h1)).setCell (by simp) _).trans (hbb.mono (by omega))
            case stop2 =>
              rintro D2 c pre A9 hD2 hpre h hK2
              exact h.elim
    · have k2 : (pe == 0) = false := by simpa using hpe
      clear HPZ hpe
      go_wp2_with fail
      go_loopw [9] (fun x wr => x = .int .i64 0 ∧ Below W7.heap.size W7 wr) (fun x _ => 0)
      case atStart => exact ⟨rfl, Below.refl _ _⟩
      case round =>
        obtain ⟨rfl, hb⟩ := hrel
        have H8 := Lib.hid (H7.out.next hb)
        clear hb
        by_cases hlt : 0 < LL
        · have k3 : decide ((0 : Int) < (LL : Int)) = true := by simp; omega
          have k4 : decide (0 < LL) = true := by simpa using hlt
          have x0 := H8.out.bx.cell 0
          have x1 := H8.out.bx.cell 1
          have x2 := H8.out.bx.cell 2
          by_cases hno : F ≠ 0 ∨ e1 = true
          · by_cases h0 : F = 0
            · have he : e1 = true := hno.resolve_left (by simp [h0])
              subst he
              have k0 : (F != 0) = false := by simp [h0]
              clear hno h0
              go_wp2_with (first | (go_at_call 10; ((with_reducible refine (HCK.out _ H8.out.mx).mono ?_); rintro e w2 ⟨rfl, hb2⟩; have H2 := Lib.hid (H8.out.next hb2); clear hb2; have y1 := H2.out.bx.cell 1; have z0 := H2.out.bb.cell 0; have z1 := H2.out.bb.free 0)) | fail)
              have hZ := H2.out.bb.set 0 (.bool true)
              have z0 := hZ.cell 0
              simp at z0
              refine ⟨.bool true, by simp [results, Try.results8, go_sem, z0], rfl, ?_⟩
              rw [HW.out.1]
              exact H2.out.low.setCell (by simp) _
            · have k0 : (F != 0) = true := by simp [h0]
              clear hno h0
              go_wp2_with (first | (go_at_call 10; ((with_reducible refine (HCK.out _ H8.out.mx).mono ?_); rintro e w2 ⟨rfl, hb2⟩; have H2 := Lib.hid (H8.out.next hb2); clear hb2; have z0 := H2.out.bb.cell 0; have z1 := H2.out.bb.free 0)) | fail)
              have hZ := H2.out.bb.set 0 (.bool true)
              have z0 := hZ.cell 0
              simp at z0
              refine ⟨.bool true, by simp [results, Try.results8, go_sem, z0], rfl, ?_⟩
              rw [HW.out.1]
              exact H2.out.low.setCell (by simp) _
          · have h0 : F = 0 := by
              by_cases h : F = 0
              · exact h
              · exact absurd (.inl h) hno
            have he : e1 = false := by
              cases e1 with
              | true => exact absurd (.inr rfl) hno
              | false => rfl
            subst he h0
            clear hno
            obtain ⟨N2, hN2, hn2, -, hok⟩ := chk_zero HLX.out.2.2.2.2.1
            obtain ⟨hlen, hokm⟩ := hok rfl
            simp only at hn2 hlen hokm
            subst hn2
            have hxe : xs = celL (2 * N2) m1 (allP (2 * N2)) := by
              rw [← HLX.out.2.2.2.1]
              unfold cellsO
              rw [if_pos ⟨HLX.out.2.2.2.2.1, rfl⟩]
              simp
            have hS : 2 * N2 * (2 * N2) = L1 := by rw [← hlen]; exact HLX.out.2.1
            have HT2 : Hid (∀ ww : World, Calls Try.prog 14 #[.int .i64 N2] ww fun e w' => ∃ a c, e = .returned (.tuple #[.agg #[.int .i64 N2, .bool false, .slice a L1 c], .int .i64 0]) ∧ MOwn ww.heap.size w' (topM (2 * N2)) a c ∧ Below ww.heap.size ww w') := Lib.hid fun ww => (top_any N2 ww hN2).mono fun e w' ⟨a, c, he, hm, hb⟩ => by
              have hto : (topO (N2 : Int)).m = topM (2 * N2) := by show topM (2 * ((N2 : Int)).toNat) = _; simp
              refine ⟨a, c, ?_, by rw [hto] at hm; exact hm, hb⟩
              rw [he]
              show Ending.returned (.tuple #[.agg #[.int .i64 N2, .bool false, .slice a (topO (N2 : Int)).m.length c], .int .i64 0]) = _
              rw [hto, topM_len, hS]
            have HQ0 := Lib.hid (And.intro hN2 (And.intro hlen (And.intro hokm (And.intro hxe hS))))
            clear hN2 hok hlen hokm hxe hS
            go_upto_region 15 with (first | (go_at_call 10; ((with_reducible refine (HCK.out _ H8.out.mx).mono ?_); rintro e w2 ⟨rfl, hb2⟩; have H2 := Lib.hid (H8.out.next hb2); clear hb2; have y1 := H2.out.bx.cell 1)) | fail)
            have y0 := H2.out.bx.cell 0
            clear x0 x1 x2 y1
            go_upto_region 16 with (first | (go_at_call 14; (with_reducible refine (HT2.out _).mono ?_); rintro e wt ⟨ta, tc, rfl, hmt, hbt⟩) | fail)
            obtain ⟨T0, hT0⟩ : ∃ Y, wt.heap.size = Y := ⟨_, rfl⟩
            obtain ⟨WT, hWT⟩ : ∃ W, wt.alloc (.cells #[.int .i64 N2, .bool false, .slice ta L1 tc] 24) = W := ⟨_, rfl⟩
            have hbT : Below wt.heap.size wt WT := by rw [← hWT]; exact (Below.refl _ wt).alloc (Nat.le_refl _) _
            have HTT : Hid (BtF X PB w #[.int .i64 N2, .bool false, .slice a1 L1 c1] #[.int .i64 pn, .bool pem, .slice pa PL pc] m1 pm l a1 pa al WT ∧ Blk WT T0 #[.int .i64 N2, .bool false, .slice ta L1 tc] 24 ∧ MOwn w2.heap.size WT (topM (2 * N2)) ta tc ∧ WT.heap.size = T0 + 1 ∧ X + 2 ≤ T0 ∧ (∀ g, ta = some ⟨g, 0, none⟩ → 0 < (topM (2 * N2)).length → g < T0) ∧ (∀ b o, a1 = some ⟨b, o, none⟩ → 0 < m1.length → b < T0)) := Lib.hid ⟨(H2.out.next hbt).next hbT, by rw [← hWT, ← hT0]; exact Blk.new wt _ _, hmt.next hbT rfl, by rw [← hWT, World.size_alloc, hT0], by rw [← hT0]; exact Nat.le_trans H2.out.sz hbt.size, fun g e hg => by rw [← hT0]; exact hmt.lt g e hg, fun b o e hp => by
              obtain ⟨b', o', e', hc⟩ := mat_at H2.out.mx hp
              rw [e] at e'
              cases e'
              have h1 := World.block_lt_of_cell? _ _ hc
              have h2 := hbt.size
              simp only at h1
              omega⟩
            rw [hT0, hWT]
            clear hT0 hWT hbT hmt hbt H2 HT2 y0 H8
            have x0 := HTT.out.1.bx.cell 0
            have x1 := HTT.out.1.bx.cell 1
            have x2 := HTT.out.1.bx.cell 2
            go_wp2_with (first | (go_at_call 30; (with_reducible refine (HDC.out _ HTT.out.1.mx).mono ?_); rintro e W4 ⟨hb4, gf, lb, K, rfl, heg, hsq, hK⟩; have HQ := Lib.hid (And.intro heg (And.intro hsq (And.intro hK hb4))); clear heg hsq hK hb4) | fail)
            have hb4 := HQ.out.2.2.2
            obtain ⟨Z, hZ⟩ : ∃ Z, W4.heap.size = Z := ⟨_, rfl⟩
            have HZ4 : Hid (T0 < Z ∧ X + 2 ≤ T0 ∧ W4.heap.size = Z) := Lib.hid ⟨by rw [← hZ]; have h1 := hb4.size; have h2 := HTT.out.2.2.2.1; omega, HTT.out.2.2.2.2.1, hZ⟩
            have hF4 := HTT.out.1.next hb4
            have HF4 := Lib.hid hF4
            have HI0 : Hid (BuI X T0 N2 L1 w W4 m1 [] W4) := Lib.hid (by
              refine ⟨Oth.refl _ _, hF4.low, ta, tc, HTT.out.2.1.below hb4 HTT.out.2.1.lt, ?_⟩
              have hm4 := HTT.out.2.2.1.next hb4 rfl
              rcases hm4.2.2 with h0 | ⟨g, cs, e, hg, hB, hc⟩
              · exact .inl h0
              · refine (Nat.eq_zero_or_pos (topM (2 * N2)).length).imp id fun hp => ?_
                have hgT := HTT.out.2.2.2.2.2.1 g e hp
                refine ⟨g, 0, e, .inl (by rw [hZ]; have := HZ4.out.1; omega), by omega, fun i hi => ?_⟩
                rw [hB.cell, Nat.zero_add]; exact hc i hi)
            have HKA : Hid (∀ (pre : List ((Nat × Nat) × Int)) (A : World), BuI X T0 N2 L1 w W4 m1 pre A → K A) := Lib.hid fun pre A h => HQ.out.2.2.1 A ⟨h.oth.1, fun k hk hl => h.oth.2 k hl (by have := HTT.out.2.2.2.1; omega)⟩
            have HA1 := Lib.hid HTT.out.2.2.2.2.2.2
            clear hb4 hF4 x0 x1 x2 HTT hZ
            refine wp_rangeFunc_oneN (own := 4) (gf := gf) (lb := lb) rfl HQ.out.1 HQ.out.2.1 (Below.refl _ _) (fun _ => rfl)
              (fun pre A => BuI X T0 N2 L1 w W4 m1 pre A) (fun c pre A => False)
              (fun pre A B h hb => h.nb (hb.widen (Nat.le_refl _) (by omega)) (by have := HZ4.out; omega) (by have := HZ4.out; omega)) (fun c pre A B h hb => h)
              (fun pre A h => HKA.out pre A h) HI0.out ?round2 ?done2 ?stop2
            case round2 =>
              clear HI0
              rintro lp pre ⟨⟨i, j⟩, C⟩ A9 hI hpre hl1 hl2
              dsimp only [encC]
              gi_wp2
              obtain ⟨G, hG⟩ : ∃ G, A9.heap.size = G := ⟨_, rfl⟩
              obtain ⟨A3, hA3⟩ : ∃ A3, A9.alloc (.cells #[.int .i64 i, .int .i64 j] 54) = A3 := ⟨_, rfl⟩
              have hb3 : Below A9.heap.size A9 A3 := by rw [← hA3]; exact (Below.refl _ A9).alloc (Nat.le_refl _) _
              have hG3 : Blk A3 G #[.int .i64 i, .int .i64 j] 54 := by rw [← hA3, ← hG]; exact Blk.new A9 _ _
              rw [hA3, hG]
              refine ⟨(Above.refl _ A9).below hb3, fun r o' hr => ?_⟩
              have hz3 := hb3.size
              have hI2 := hI.nb ((Nb.of hb3 rfl (by omega)).trans (Nb.put (lo := W4.heap.size) (hi := W4.heap.size + 6) (l := lp) (.loop o') (by omega) (by omega) (by omega))) (by have := HZ4.out; omega) (by have := HZ4.out; omega)
              have hG2 := hG3.putLoop hr (.loop o')
              obtain ⟨A2, hA2⟩ : ∃ A2, A3.putObj lp (.loop o') = A2 := ⟨_, rfl⟩
              have hz2 : W4.heap.size + 6 ≤ A2.heap.size := by rw [← hA2]; simp; omega
              rw [hA2] at hI2 hG2 ⊢
              have hgood : ∀ y ∈ pre ++ [((i, j), C)], Good (2 * N2) m1 y := fun y hy => cel_good HQ0.out.2.2.1 y (by rw [← HQ0.out.2.2.2.1]; exact hpre.subset hy)
              have hhalf := (lay_half HQ0.out.2.2.1 pre _ (half_top m1) (fun y hy => hgood y (by simp [hy]))).1
              have hwith := lay_with HQ0.out.1 hhalf (hgood ((i, j), C) (by simp))
              have hsn := layC_snoc (2 * N2) (topM (2 * N2)) pre ((i, j), C)
              obtain ⟨ta9, tc9, hBt, hMn⟩ := hI2.t
              have hlt : (layC (2 * N2) (topM (2 * N2)) pre).length = L1 := by rw [hhalf.1, HQ0.out.2.2.2.2]
              have hln : (layC (2 * N2) (topM (2 * N2)) (pre ++ [((i, j), C)])).length = L1 := by rw [hsn, withM_len, hlt]
              have hwa := with_any ⟨N2, false, layC (2 * N2) (topM (2 * N2)) pre⟩ ta9 tc9 i j C A2 hMn.mat (by simp only; rw [hlt]; have h1 := HLX.out.2.1; have h2 := HLX.out.2.2.2.2.2.1; omega)
              simp only at hwith
              rw [hwith] at hwa
              simp only at hsn
              rw [← hsn] at hwa
              have HWI : Hid (Calls Try.prog 22 #[.agg #[.int .i64 N2, .bool false, .slice ta9 L1 tc9], .int .i64 i, .int .i64 j, .int .i64 C] A2 fun e w' => ∃ a c, e = .returned (.tuple #[.agg #[.int .i64 N2, .bool false, .slice a L1 c], .int .i64 0]) ∧ MOwn A2.heap.size w' (layC (2 * N2) (topM (2 * N2)) (pre ++ [((i, j), C)])) a c ∧ Below A2.heap.size A2 w') := Lib.hid (by
                rw [← hlt]
                refine hwa.mono fun e w' ⟨a, c, he, hm, hb⟩ => ⟨a, c, ?_, hm, hb⟩
                rw [he]
                show Ending.returned (.tuple #[.agg #[.int .i64 N2, .bool false, .slice a (layC (2 * N2) (topM (2 * N2)) (pre ++ [((i, j), C)])).length c], .int .i64 0]) = _
                rw [hln, hlt])
              have HI2 := Lib.hid (And.intro hI2 hz2)
              have t0 := hBt.cell 0
              have t1 := hBt.cell 1
              have t2 := hBt.cell 2
              have g0 := hG2.cell 0
              have g1 := hG2.cell 1
              have HBT := Lib.hid hBt
              clear hA2 hr hI hl1 hl2 hpre hG3 hb3 hA3 hG hz3 hgood hhalf hwith hsn hlt hln hwa hMn hBt hI2 hz2 hG2
              gi_upto_region 20 with (first | (refine ⟨trivial, ?_⟩; gi_at_call 22; (with_reducible refine (CallsIn.inRound lp (callsIn_wide.2 HWI.out)).mono ?_); rintro e w5 ⟨qa, qc, rfl, hmq, hb5⟩) | fail)
              obtain ⟨Q0, hQ0⟩ : ∃ Y, w5.heap.size = Y := ⟨_, rfl⟩
              obtain ⟨W6, hW6⟩ : ∃ W, w5.alloc (.cells #[.int .i64 N2, .bool false, .slice qa L1 qc] 24) = W := ⟨_, rfl⟩
              have hb6 : Below w5.heap.size w5 W6 := by rw [← hW6]; exact (Below.refl _ w5).alloc (Nat.le_refl _) _
              have hQB : Blk W6 Q0 #[.int .i64 N2, .bool false, .slice qa L1 qc] 24 := by rw [← hW6, ← hQ0]; exact Blk.new w5 _ _
              have hT6 := (HBT.out.below hb5 HBT.out.lt).below hb6 (by have := HBT.out.lt; have := hb5.size; omega)
              rw [hQ0, hW6]
              have HST := Lib.hid (fun v0 v1 v2 => HI2.out.1.step (x := ((i, j), C)) (v0 := v0) (v1 := v1) (v2 := v2) (by have := HZ4.out; omega) (by have := HZ4.out; omega) HI2.out.2 hb5 hb6 hmq)
              have q0 := hQB.cell 0
              have q1 := hQB.cell 1
              have q2 := hQB.cell 2
              have f0 := hT6.free 0
              have f1 := hT6.free 1
              have f2 := hT6.free 2
              have s0 := hT6.cell 0
              have s1 := hT6.cell 1
              have s2 := hT6.cell 2
              clear hQ0 hW6 hb6 hQB hT6 hmq hb5 t0 t1 t2 g0 g1
              gi_wp2
              exact HST.out _ _ _ rfl rfl rfl
            case done2 =>
              intro D2 A9 hD2 hI hK2
              obtain ⟨ta9, tc9, hBt, hMn⟩ := hI.t
              rw [HQ0.out.2.2.2.1, lay_all HQ0.out.2.1 HQ0.out.2.2.1] at hMn
              have hX9 := hI.oth.blk HF4.out.bx (by have := HZ4.out; omega)
              have hB9 := hI.oth.blk HF4.out.bb (by have := HZ4.out; omega)
              have hm9 : MAt A9 m1 a1 := by
                rcases HF4.out.mx with h0 | ⟨b, o, e, hc⟩
                · exact .inl h0
                · refine (Nat.eq_zero_or_pos m1.length).imp id fun hp => ⟨b, o, e, fun q hq => ?_⟩
                  have h1 := HA1.out b o e hp
                  exact (hI.oth.cell (p := ⟨b, o + q, none⟩) (by have := HZ4.out; simp; omega) (by simp; omega)).trans (hc q hq)
              have HOC : Hid (Calls Try.prog 16 #[.agg #[.int .i64 N2, .bool false, .slice ta9 L1 tc9], .agg #[.int .i64 N2, .bool false, .slice a1 L1 c1]] A9 fun e w' => e = .returned (.bool true) ∧ Below A9.heap.size A9 w') := Lib.hid (by
                have h3 := oct_any ⟨N2, false, m1⟩ ⟨N2, false, m1⟩ ta9 a1 tc9 c1 A9 hMn.mat hm9 HLX.out.2.2.2.2.2.1
                rw [octB_refl] at h3
                rw [← HLX.out.2.1]; exact h3)
              have t0 := hBt.cell 0
              have t1 := hBt.cell 1
              have t2 := hBt.cell 2
              have x0 := hX9.cell 0
              have x1 := hX9.cell 1
              have x2 := hX9.cell 2
              have HB9 := Lib.hid (And.intro hB9 (And.intro hI.low (And.intro hK2 (And.intro hD2 hI.oth.1))))
              clear hD2 hI hK2 hBt hMn hX9 hB9 hm9 HI0
              go_wp2_with (first | (go_at_call 16; (with_reducible refine HOC.out.mono ?_); rintro e w10 ⟨rfl, hb10⟩; have H10 := Lib.hid (And.intro (HB9.out.1.below hb10 HB9.out.1.lt) hb10); clear hb10; have z0 := H10.out.1.cell 0; have z1 := H10.out.1.free 0) | fail)
              have hne : D2 ≠ X + 1 := by have h1 := HB9.out.2.2.2.1; have h2 := HZ4.out; omega
              refine leaves_all [D2] _ (List.nodup_cons.2 ⟨by simp, List.nodup_nil⟩) (fun E hE => ?_) ?_
              · obtain rfl : E = D2 := by simpa using hE
                exact (Below.heap_setCell _ _ _ _ hne).trans ((H10.out.2.block E (Array.getElem?_eq_some_iff.1 HB9.out.2.2.1).1).trans HB9.out.2.2.1)
              · have hbb : Below (X + 2) (w10.setCell ⟨X + 1, 0, none⟩ (.bool true)) (putAll (w10.setCell ⟨X + 1, 0, none⟩ (.bool true)) [D2]) := putAll_below _ _ _ fun E hE => by
                  obtain rfl : E = D2 := by simpa using hE
                  have h1 := HB9.out.2.2.2.1
                  have h2 := HZ4.out
                  omega
                have hZ := (H10.out.1.set 0 (.bool true)).below hbb (by omega)
                have z0 := hZ.cell 0
                simp at z0
                refine ⟨.bool true, by simp [results, Try.results8, go_sem, z0], rfl, ?_⟩
                rw [HW.out.1]
                have h1 : X ≤ A9.heap.size := by have h2 := HB9.out.2.2.2.2; have h3 := HZ4.out; omega
                exact ((HB9.out.2.1.trans (H10.out.2.mono h1)).setCell (by simp) _).trans (hbb.mono (by omega))
            case stop2 =>
              rintro D2 c pre A9 hD2 hpre h hK2
              exact h.elim
        · obtain rfl : LL = 0 := by omega
          have x0 := H8.out.bx.cell 0
          have x1 := H8.out.bx.cell 1
          have x2 := H8.out.bx.cell 2
          by_cases hno : F ≠ 0 ∨ e1 = true
          · by_cases h0 : F = 0
            · have he : e1 = true := hno.resolve_left (by simp [h0])
              subst he
              have k0 : (F != 0) = false := by simp [h0]
              clear hno h0
              go_wp2_with (first | (go_at_call 10; ((with_reducible refine (HCK.out _ H8.out.mx).mono ?_); rintro e w2 ⟨rfl, hb2⟩; have H2 := Lib.hid (H8.out.next hb2); clear hb2; have y1 := H2.out.bx.cell 1; have z0 := H2.out.bb.cell 0; have z1 := H2.out.bb.free 0)) | fail)
              have hZ := H2.out.bb.set 0 (.bool true)
              have z0 := hZ.cell 0
              simp at z0
              refine ⟨.bool true, by simp [results, Try.results8, go_sem, z0], rfl, ?_⟩
              rw [HW.out.1]
              exact H2.out.low.setCell (by simp) _
            · have k0 : (F != 0) = true := by simp [h0]
              clear hno h0
              go_wp2_with (first | (go_at_call 10; ((with_reducible refine (HCK.out _ H8.out.mx).mono ?_); rintro e w2 ⟨rfl, hb2⟩; have H2 := Lib.hid (H8.out.next hb2); clear hb2; have z0 := H2.out.bb.cell 0; have z1 := H2.out.bb.free 0)) | fail)
              have hZ := H2.out.bb.set 0 (.bool true)
              have z0 := hZ.cell 0
              simp at z0
              refine ⟨.bool true, by simp [results, Try.results8, go_sem, z0], rfl, ?_⟩
              rw [HW.out.1]
              exact H2.out.low.setCell (by simp) _
          · have h0 : F = 0 := by
              by_cases h : F = 0
              · exact h
              · exact absurd (.inl h) hno
            have he : e1 = false := by
              cases e1 with
              | true => exact absurd (.inr rfl) hno
              | false => rfl
            subst he h0
            clear hno
            obtain ⟨N2, hN2, hn2, -, hok⟩ := chk_zero HLX.out.2.2.2.2.1
            obtain ⟨hlen, hokm⟩ := hok rfl
            simp only at hn2 hlen hokm
            subst hn2
            have hxe : xs = celL (2 * N2) m1 (allP (2 * N2)) := by
              rw [← HLX.out.2.2.2.1]
              unfold cellsO
              rw [if_pos ⟨HLX.out.2.2.2.2.1, rfl⟩]
              simp
            have hS : 2 * N2 * (2 * N2) = L1 := by rw [← hlen]; exact HLX.out.2.1
            have HT2 : Hid (∀ ww : World, Calls Try.prog 14 #[.int .i64 N2] ww fun e w' => ∃ a c, e = .returned (.tuple #[.agg #[.int .i64 N2, .bool false, .slice a L1 c], .int .i64 0]) ∧ MOwn ww.heap.size w' (topM (2 * N2)) a c ∧ Below ww.heap.size ww w') := Lib.hid fun ww => (top_any N2 ww hN2).mono fun e w' ⟨a, c, he, hm, hb⟩ => by
              have hto : (topO (N2 : Int)).m = topM (2 * N2) := by show topM (2 * ((N2 : Int)).toNat) = _; simp
              refine ⟨a, c, ?_, by rw [hto] at hm; exact hm, hb⟩
              rw [he]
              show Ending.returned (.tuple #[.agg #[.int .i64 N2, .bool false, .slice a (topO (N2 : Int)).m.length c], .int .i64 0]) = _
              rw [hto, topM_len, hS]
            have HQ0 := Lib.hid (And.intro hN2 (And.intro hlen (And.intro hokm (And.intro hxe hS))))
            clear hN2 hok hlen hokm hxe hS
            go_upto_region 15 with (first | (go_at_call 10; ((with_reducible refine (HCK.out _ H8.out.mx).mono ?_); rintro e w2 ⟨rfl, hb2⟩; have H2 := Lib.hid (H8.out.next hb2); clear hb2; have y1 := H2.out.bx.cell 1)) | fail)
            have y0 := H2.out.bx.cell 0
            clear x0 x1 x2 y1
            go_upto_region 16 with (first | (go_at_call 14; (with_reducible refine (HT2.out _).mono ?_); rintro e wt ⟨ta, tc, rfl, hmt, hbt⟩) | fail)
            obtain ⟨T0, hT0⟩ : ∃ Y, wt.heap.size = Y := ⟨_, rfl⟩
            obtain ⟨WT, hWT⟩ : ∃ W, wt.alloc (.cells #[.int .i64 N2, .bool false, .slice ta L1 tc] 24) = W := ⟨_, rfl⟩
            have hbT : Below wt.heap.size wt WT := by rw [← hWT]; exact (Below.refl _ wt).alloc (Nat.le_refl _) _
            have HTT : Hid (BtF X PB w #[.int .i64 N2, .bool false, .slice a1 L1 c1] #[.int .i64 pn, .bool pem, .slice pa PL pc] m1 pm l a1 pa al WT ∧ Blk WT T0 #[.int .i64 N2, .bool false, .slice ta L1 tc] 24 ∧ MOwn w2.heap.size WT (topM (2 * N2)) ta tc ∧ WT.heap.size = T0 + 1 ∧ X + 2 ≤ T0 ∧ (∀ g, ta = some ⟨g, 0, none⟩ → 0 < (topM (2 * N2)).length → g < T0) ∧ (∀ b o, a1 = some ⟨b, o, none⟩ → 0 < m1.length → b < T0)) := Lib.hid ⟨(H2.out.next hbt).next hbT, by rw [← hWT, ← hT0]; exact Blk.new wt _ _, hmt.next hbT rfl, by rw [← hWT, World.size_alloc, hT0], by rw [← hT0]; exact Nat.le_trans H2.out.sz hbt.size, fun g e hg => by rw [← hT0]; exact hmt.lt g e hg, fun b o e hp => by
              obtain ⟨b', o', e', hc⟩ := mat_at H2.out.mx hp
              rw [e] at e'
              cases e'
              have h1 := World.block_lt_of_cell? _ _ hc
              have h2 := hbt.size
              simp only at h1
              omega⟩
            rw [hT0, hWT]
            clear hT0 hWT hbT hmt hbt H2 HT2 y0 H8
            have x0 := HTT.out.1.bx.cell 0
            have x1 := HTT.out.1.bx.cell 1
            have x2 := HTT.out.1.bx.cell 2
            go_wp2_with (first | (go_at_call 30; (with_reducible refine (HDC.out _ HTT.out.1.mx).mono ?_); rintro e W4 ⟨hb4, gf, lb, K, rfl, heg, hsq, hK⟩; have HQ := Lib.hid (And.intro heg (And.intro hsq (And.intro hK hb4))); clear heg hsq hK hb4) | fail)
            have hb4 := HQ.out.2.2.2
            obtain ⟨Z, hZ⟩ : ∃ Z, W4.heap.size = Z := ⟨_, rfl⟩
            have HZ4 : Hid (T0 < Z ∧ X + 2 ≤ T0 ∧ W4.heap.size = Z) := Lib.hid ⟨by rw [← hZ]; have h1 := hb4.size; have h2 := HTT.out.2.2.2.1; omega, HTT.out.2.2.2.2.1, hZ⟩
            have hF4 := HTT.out.1.next hb4
            have HF4 := Lib.hid hF4
            have HI0 : Hid (BuI X T0 N2 L1 w W4 m1 [] W4) := Lib.hid (by
              refine ⟨Oth.refl _ _, hF4.low, ta, tc, HTT.out.2.1.below hb4 HTT.out.2.1.lt, ?_⟩
              have hm4 := HTT.out.2.2.1.next hb4 rfl
              rcases hm4.2.2 with h0 | ⟨g, cs, e, hg, hB, hc⟩
              · exact .inl h0
              · refine (Nat.eq_zero_or_pos (topM (2 * N2)).length).imp id fun hp => ?_
                have hgT := HTT.out.2.2.2.2.2.1 g e hp
                refine ⟨g, 0, e, .inl (by rw [hZ]; have := HZ4.out.1; omega), by omega, fun i hi => ?_⟩
                rw [hB.cell, Nat.zero_add]; exact hc i hi)
            have HKA : Hid (∀ (pre : List ((Nat × Nat) × Int)) (A : World), BuI X T0 N2 L1 w W4 m1 pre A → K A) := Lib.hid fun pre A h => HQ.out.2.2.1 A ⟨h.oth.1, fun k hk hl => h.oth.2 k hl (by have := HTT.out.2.2.2.1; omega)⟩
            have HA1 := Lib.hid HTT.out.2.2.2.2.2.2
            clear hb4 hF4 x0 x1 x2 HTT hZ
            refine wp_rangeFunc_oneN (own := 4) (gf := gf) (lb := lb) rfl HQ.out.1 HQ.out.2.1 (Below.refl _ _) (fun _ => rfl)
              (fun pre A => BuI X T0 N2 L1 w W4 m1 pre A) (fun c pre A => False)
              (fun pre A B h hb => h.nb (hb.widen (Nat.le_refl _) (by omega)) (by have := HZ4.out; omega) (by have := HZ4.out; omega)) (fun c pre A B h hb => h)
              (fun pre A h => HKA.out pre A h) HI0.out ?round2 ?done2 ?stop2
            case round2 =>
              clear HI0
              rintro lp pre ⟨⟨i, j⟩, C⟩ A9 hI hpre hl1 hl2
              dsimp only [encC]
              gi_wp2
              obtain ⟨G, hG⟩ : ∃ G, A9.heap.size = G := ⟨_, rfl⟩
              obtain ⟨A3, hA3⟩ : ∃ A3, A9.alloc (.cells #[.int .i64 i, .int .i64 j] 54) = A3 := ⟨_, rfl⟩
              have hb3 : Below A9.heap.size A9 A3 := by rw [← hA3]; exact (Below.refl _ A9).alloc (Nat.le_refl _) _
              have hG3 : Blk A3 G #[.int .i64 i, .int .i64 j] 54 := by rw [← hA3, ← hG]; exact Blk.new A9 _ _
              rw [hA3, hG]
              refine ⟨(Above.refl _ A9).below hb3, fun r o' hr => ?_⟩
              have hz3 := hb3.size
              have hI2 := hI.nb ((Nb.of hb3 rfl (by omega)).trans (Nb.put (lo := W4.heap.size) (hi := W4.heap.size + 6) (l := lp) (.loop o') (by omega) (by omega) (by omega))) (by have := HZ4.out; omega) (by have := HZ4.out; omega)
              have hG2 := hG3.putLoop hr (.loop o')
              obtain ⟨A2, hA2⟩ : ∃ A2, A3.putObj lp (.loop o') = A2 := ⟨_, rfl⟩
              have hz2 : W4.heap.size + 6 ≤ A2.heap.size := by rw [← hA2]; simp; omega
              rw [hA2] at hI2 hG2 ⊢
              have hgood : ∀ y ∈ pre ++ [((i, j), C)], Good (2 * N2) m1 y := fun y hy => cel_good HQ0.out.2.2.1 y (by rw [← HQ0.out.2.2.2.1]; exact hpre.subset hy)
              have hhalf := (lay_half HQ0.out.2.2.1 pre _ (half_top m1) (fun y hy => hgood y (by simp [hy]))).1
              have hwith := lay_with HQ0.out.1 hhalf (hgood ((i, j), C) (by simp))
              have hsn := layC_snoc (2 * N2) (topM (2 * N2)) pre ((i, j), C)
              obtain ⟨ta9, tc9, hBt, hMn⟩ := hI2.t
              have hlt : (layC (2 * N2) (topM (2 * N2)) pre).length = L1 := by rw [hhalf.1, HQ0.out.2.2.2.2]
              have hln : (layC (2 * N2) (topM (2 * N2)) (pre ++ [((i, j), C)])).length = L1 := by rw [hsn, withM_len, hlt]
              have hwa := with_any ⟨N2, false, layC (2 * N2) (topM (2 * N2)) pre⟩ ta9 tc9 i j C A2 hMn.mat (by simp only; rw [hlt]; have h1 := HLX.out.2.1; have h2 := HLX.out.2.2.2.2.2.1; omega)
              simp only at hwith
              rw [hwith] at hwa
              simp only at hsn
              rw [← hsn] at hwa
              have HWI : Hid (Calls Try.prog 22 #[.agg #[.int .i64 N2, .bool false, .slice ta9 L1 tc9], .int .i64 i, .int .i64 j, .int .i64 C] A2 fun e w' => ∃ a c, e = .returned (.tuple #[.agg #[.int .i64 N2, .bool false, .slice a L1 c], .int .i64 0]) ∧ MOwn A2.heap.size w' (layC (2 * N2) (topM (2 * N2)) (pre ++ [((i, j), C)])) a c ∧ Below A2.heap.size A2 w') := Lib.hid (by
                rw [← hlt]
                refine hwa.mono fun e w' ⟨a, c, he, hm, hb⟩ => ⟨a, c, ?_, hm, hb⟩
                rw [he]
                show Ending.returned (.tuple #[.agg #[.int .i64 N2, .bool false, .slice a (layC (2 * N2) (topM (2 * N2)) (pre ++ [((i, j), C)])).length c], .int .i64 0]) = _
                rw [hln, hlt])
              have HI2 := Lib.hid (And.intro hI2 hz2)
              have t0 := hBt.cell 0
              have t1 := hBt.cell 1
              have t2 := hBt.cell 2
              have g0 := hG2.cell 0
              have g1 := hG2.cell 1
              have HBT := Lib.hid hBt
              clear hA2 hr hI hl1 hl2 hpre hG3 hb3 hA3 hG hz3 hgood hhalf hwith hsn hlt hln hwa hMn hBt hI2 hz2 hG2
              gi_upto_region 20 with (first | (refine ⟨trivial, ?_⟩; gi_at_call 22; (with_reducible refine (CallsIn.inRound lp (callsIn_wide.2 HWI.out)).mono ?_); rintro e w5 ⟨qa, qc, rfl, hmq, hb5⟩) | fail)
              obtain ⟨Q0, hQ0⟩ : ∃ Y, w5.heap.size = Y := ⟨_, rfl⟩
              obtain ⟨W6, hW6⟩ : ∃ W, w5.alloc (.cells #[.int .i64 N2, .bool false, .slice qa L1 qc] 24) = W := ⟨_, rfl⟩
              have hb6 : Below w5.heap.size w5 W6 := by rw [← hW6]; exact (Below.refl _ w5).alloc (Nat.le_refl _) _
              have hQB : Blk W6 Q0 #[.int .i64 N2, .bool false, .slice qa L1 qc] 24 := by rw [← hW6, ← hQ0]; exact Blk.new w5 _ _
              have hT6 := (HBT.out.below hb5 HBT.out.lt).below hb6 (by have := HBT.out.lt; have := hb5.size; omega)
              rw [hQ0, hW6]
              have HST := Lib.hid (fun v0 v1 v2 => HI2.out.1.step (x := ((i, j), C)) (v0 := v0) (v1 := v1) (v2 := v2) (by have := HZ4.out; omega) (by have := HZ4.out; omega) HI2.out.2 hb5 hb6 hmq)
              have q0 := hQB.cell 0
              have q1 := hQB.cell 1
              have q2 := hQB.cell 2
              have f0 := hT6.free 0
              have f1 := hT6.free 1
              have f2 := hT6.free 2
              have s0 := hT6.cell 0
              have s1 := hT6.cell 1
              have s2 := hT6.cell 2
              clear hQ0 hW6 hb6 hQB hT6 hmq hb5 t0 t1 t2 g0 g1
              gi_wp2
              exact HST.out _ _ _ rfl rfl rfl
            case done2 =>
              intro D2 A9 hD2 hI hK2
              obtain ⟨ta9, tc9, hBt, hMn⟩ := hI.t
              rw [HQ0.out.2.2.2.1, lay_all HQ0.out.2.1 HQ0.out.2.2.1] at hMn
              have hX9 := hI.oth.blk HF4.out.bx (by have := HZ4.out; omega)
              have hB9 := hI.oth.blk HF4.out.bb (by have := HZ4.out; omega)
              have hm9 : MAt A9 m1 a1 := by
                rcases HF4.out.mx with h0 | ⟨b, o, e, hc⟩
                · exact .inl h0
                · refine (Nat.eq_zero_or_pos m1.length).imp id fun hp => ⟨b, o, e, fun q hq => ?_⟩
                  have h1 := HA1.out b o e hp
                  exact (hI.oth.cell (p := ⟨b, o + q, none⟩) (by have := HZ4.out; simp; omega) (by simp; omega)).trans (hc q hq)
              have HOC : Hid (Calls Try.prog 16 #[.agg #[.int .i64 N2, .bool false, .slice ta9 L1 tc9], .agg #[.int .i64 N2, .bool false, .slice a1 L1 c1]] A9 fun e w' => e = .returned (.bool true) ∧ Below A9.heap.size A9 w') := Lib.hid (by
                have h3 := oct_any ⟨N2, false, m1⟩ ⟨N2, false, m1⟩ ta9 a1 tc9 c1 A9 hMn.mat hm9 HLX.out.2.2.2.2.2.1
                rw [octB_refl] at h3
                rw [← HLX.out.2.1]; exact h3)
              have t0 := hBt.cell 0
              have t1 := hBt.cell 1
              have t2 := hBt.cell 2
              have x0 := hX9.cell 0
              have x1 := hX9.cell 1
              have x2 := hX9.cell 2
              have HB9 := Lib.hid (And.intro hB9 (And.intro hI.low (And.intro hK2 (And.intro hD2 hI.oth.1))))
              clear hD2 hI hK2 hBt hMn hX9 hB9 hm9 HI0
              go_wp2_with (first | (go_at_call 16; (with_reducible refine HOC.out.mono ?_); rintro e w10 ⟨rfl, hb10⟩; have H10 := Lib.hid (And.intro (HB9.out.1.below hb10 HB9.out.1.lt) hb10); clear hb10; have z0 := H10.out.1.cell 0; have z1 := H10.out.1.free 0) | fail)
              have hne : D2 ≠ X + 1 := by have h1 := HB9.out.2.2.2.1; have h2 := HZ4.out; omega
              refine leaves_all [D2] _ (List.nodup_cons.2 ⟨by simp, List.nodup_nil⟩) (fun E hE => ?_) ?_
              · obtain rfl : E = D2 := by simpa using hE
                exact (Below.heap_setCell _ _ _ _ hne).trans ((H10.out.2.block E (Array.getElem?_eq_some_iff.1 HB9.out.2.2.1).1).trans HB9.out.2.2.1)
              · have hbb : Below (X + 2) (w10.setCell ⟨X + 1, 0, none⟩ (.bool true)) (putAll (w10.setCell ⟨X + 1, 0, none⟩ (.bool true)) [D2]) := putAll_below _ _ _ fun E hE => by
                  obtain rfl : E = D2 := by simpa using hE
                  have h1 := HB9.out.2.2.2.1
                  have h2 := HZ4.out
                  omega
                have hZ := (H10.out.1.set 0 (.bool true)).below hbb (by omega)
                have z0 := hZ.cell 0
                simp at z0
                refine ⟨.bool true, by simp [results, Try.results8, go_sem, z0], rfl, ?_⟩
                rw [HW.out.1]
                have h1 : X ≤ A9.heap.size := by have h2 := HB9.out.2.2.2.2; have h3 := HZ4.out; omega
                exact ((HB9.out.2.1.trans (H10.out.2.mono h1)).setCell (by simp) _).trans (hbb.mono (by omega))
            case stop2 =>
              rintro D2 c pre A9 hD2 hpre h hK2
              exact h.elim
end Go.Proofs.Ythnefcafhpioaaa
