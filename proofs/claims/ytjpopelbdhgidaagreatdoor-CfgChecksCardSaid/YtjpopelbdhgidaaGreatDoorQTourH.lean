/-
  The project's each of every type, and walk over every node: proved is what each makes of a tour, by induction on the tree.
-/
import Derived.Test.YtjpopelbdhgidaaGreatDoorQTwalkS
import Derived.Deep.DeepCutAuto
/-
  The project's tour over expressions (tree's walk and each): proved is what it leaves, for every expression in memory.
-/
namespace Go.Proofs.YtjpopelbdhgidaaGreatDoor
open Go Go.RowKit

theorem info_node : (Tryz.prog.info? 233).map (fun i => (i.zero, i.size, i.bytes)) = some (some .nilIface, 1, 16) := by kernel_rfl

theorem TourIn.drew {w0 w : World} {B : Nat} {t : Tr} {v : Value} (h : TourIn w0 w B t v) : TourIn w0 w.drew B t v := ⟨h.blk, h.own⟩
theorem TourIn.lim {w0 w : World} {B : Nat} {t : Tr} {v : Value} (h : TourIn w0 w B t v) (L : Int) : TourIn w0 (w.setCell ⟨B, 2, none⟩ (.int .i64 L)).drew B ⟨t.l, t.dep, L⟩ v := by
  obtain ⟨h1, xs, h2, h3⟩ := h
  exact ⟨h1.set 2 (.int .i64 L), xs, ownsRow_setCell_below h2 (a := ⟨B, 2, none⟩) (by simp) (.int .i64 L), h3⟩
theorem TourIn.depth {w0 w : World} {B : Nat} {v : Value} {l : List Nd} {dep lim : Int} (h : TourIn w0 w B ⟨l, dep, lim⟩ v) (D : Int) : TourIn w0 (w.setCell ⟨B, 1, none⟩ (.int .i64 D)).drew B ⟨l, D, lim⟩ v := by
  obtain ⟨h1, xs, h2, h3⟩ := h
  exact ⟨h1.set 1 (.int .i64 D), xs, ownsRow_setCell_below h2 (a := ⟨B, 1, none⟩) (by simp) (.int .i64 D), h3⟩
theorem Fr.drew {B : Nat} {r r' : Option Nat} {a w : World} (h : Fr B r r' a w) : Fr B r r' a w.drew := ⟨h.os, h.tape, h.output, h.size, h.block, h.row⟩
/-- What holds between two statements of walk: the tour, the two cells that its closure has, and that nothing else is turned. -/
structure Mid (w0 w : World) (B : Nat) (t : Tr) (v v' : Value) (d : Int) (wx : World) : Prop where
  tour : TourIn w0 wx B t v'
  b3 : Blk wx w.heap.size #[.pointer (some ⟨B, 0, none⟩)] 240
  b5 : Blk wx (w.heap.size + 1) #[.int .i64 d] 3
  fr : Fr B v.ownBlock v'.ownBlock w wx
theorem TourIn.ne {w0 w : World} {B : Nat} {t : Tr} {v : Value} (h : TourIn w0 w B t v) {c : Nat} {cs : Array Value} {T : TypeId} (hb : Blk w c cs T) (hT : T ≠ 233) : some c ≠ v.ownBlock := fun e => by
  obtain ⟨_, xs, h2, _⟩ := h
  rcases h2.2 with ⟨hv, _⟩ | ⟨g, cap, cur, hv, _, hh, _⟩
  · rw [hv] at e; cases e
  · rw [hv] at e
    have : c = g := Option.some.inj e
    subst this
    rw [hb] at hh
    simp only [Option.some.injEq, Obj.cells.injEq] at hh
    exact hT hh.2.1
theorem blk_grown {w w' : World} {b : Nat} {cs : Array Value} {t : TypeId} {row : Option Nat} (h : Blk w b cs t) (hg : w.grownBy w' row) (hr : row ≠ some b) : Blk w' b cs t :=
  (hg.block b h.lt (fun e => hr e.symm)).trans h
theorem grown_fr {B : Nat} {r : Option Nat} {a w w' : World} {row r' : Option Nat} (h : Fr B r row a w) (hg : w.grownBy w' row) (hr : r' = row ∨ ∀ g, r' = some g → w.heap.size ≤ g) : Fr B r r' a w' :=
  h.trans ⟨hg.os, hg.tape, hg.output, hg.size, fun k hk _ hn => hg.block k hk hn, hr⟩
set_option maxHeartbeats 1000000 in
theorem eachE_any (w0 : World) (B : Nat) (xs : List Nd) (hwalk : ∀ i (h : i < xs.length), WalkOf w0 B xs[i]) (k n : Int) (s : ByteArray) (vx : Value) (d : Int) (t : Tr) (v : Value) (w : World) (c3 c5 : Nat) (T3 T5 : TypeId) (hx : SlIn w0 .E xs vx) (hw : Below w0.heap.size w0 w) (hB0 : w0.heap.size ≤ B) (hd0 : 0 ≤ d) (hd1 : d ≤ 90) (ht : t.ok) (hl : t.lim = 0)
    (h3 : Blk w c3 #[.pointer (some ⟨B, 0, none⟩)] T3) (h5 : Blk w c5 #[.int .i64 d] T5) (hc3 : c3 ≠ B) (hc5 : c5 ≠ B) (hr3 : some c3 ≠ v.ownBlock) (hr5 : some c5 ≠ v.ownBlock) (hin : TourIn w0 w B t v) :
    Calls Tryz.prog 253 #[.agg #[.int .i64 k, .int .i64 n, .string s, vx], .func (.func 197) #[] #[.pointer (some ⟨c3, 0, none⟩), .pointer (some ⟨c5, 0, none⟩)]] w (TouredTo w0 w B v (tourL xs (d + 1) t)) := by
  have hb : Below w.heap.size w (w.alloc (.cells #[.int .i64 k, .int .i64 n, .string s, vx] 272)) := (Below.refl _ w).alloc (Nat.le_refl _) _
  have hsh := showE_any w0 B xs hwalk vx d t v (w.alloc (.cells #[.int .i64 k, .int .i64 n, .string s, vx] 272)) c3 c5 T3 T5 hx (hw.trans (hb.mono hw.size)) hB0 hd0 hd1 ht hl (h3.below hb h3.lt) (h5.below hb h5.lt) hc3 hc5 hr3 hr5 (hin.below hb)
  have HS := Lib.hid hsh; clear hsh
  obtain ⟨a, c, rfl, _⟩ := hx
  clear hwalk h3 h5 hin hw
  obtain ⟨t2, ht2⟩ : ∃ t2, tourL xs (d + 1) t = t2 := ⟨_, rfl⟩
  rw [ht2] at HS ⊢
  clear ht2
  have HBB := Lib.hid hb; clear hb
  go_enter Tryz.func253, Tryz.ntmps253
  go_wp2_with fail
  refine HS.out.mono ?_
  rintro e w2 ⟨v2, rfl, h2, hf⟩
  go_wp2
  go_ret
  exact ⟨v2, rfl, h2, (Fr.below HBB.out).trans hf⟩

/-- What a node's parts make of a tour. -/
def kidsT : Nd → Int → Tr → Tr
  | .mk .E _ _ _ xs _ _ _, d, t => tourL xs d t
  | .mk .C _ _ _ xs cs _ _, d, t => if (tourL xs d t).lim ≠ 0 then tourL xs d t else tourL cs d (tourL xs d t)
  | .mk .S _ _ _ xs cs ts es, d, t => let a := tourL cs d t
    if a.lim ≠ 0 then a else let b := tourL xs d a
      if b.lim ≠ 0 then b else let c := tourL ts d b
        if c.lim ≠ 0 then c else tourL es d c
  | .mk .D _ _ _ _ _ _ _, _, t => t
theorem tourN_eq (x : Nd) (d : Int) (t : Tr) : tourN x d t = if (nodeT x d t).lim ≠ 0 then nodeT x d t else kidsT x (d + 1) (nodeT x d t) := by
  obtain ⟨ty, k, n, nm, xs, cs, ts, es⟩ := x
  unfold tourN
  cases ty <;> rfl
def eachF : Ty → FuncId | .E => 253 | .C => 252 | .S => 247 | .D => 246
/-- A node's each goes through its parts as told. -/
def EachOf (w0 : World) (B : Nat) (x : Nd) : Prop := ∀ (vs : List Value) (d : Int) (t : Tr) (v : Value) (w : World) (c3 c5 : Nat) (T3 T5 : TypeId), NdIn w0 x vs → Below w0.heap.size w0 w → w0.heap.size ≤ B → 0 ≤ d → d ≤ 90 → t.ok → t.lim = 0 →
  Blk w c3 #[.pointer (some ⟨B, 0, none⟩)] T3 → Blk w c5 #[.int .i64 d] T5 → c3 ≠ B → c5 ≠ B → some c3 ≠ v.ownBlock → some c5 ≠ v.ownBlock → TourIn w0 w B t v →
  Calls Tryz.prog (eachF x.ty) #[.agg vs.toArray, .func (.func 197) #[] #[.pointer (some ⟨c3, 0, none⟩), .pointer (some ⟨c5, 0, none⟩)]] w (TouredTo w0 w B v (kidsT x (d + 1) t))

set_option maxRecDepth 100000 in
set_option maxHeartbeats 8000000 in
theorem walk_gen (w0 : World) (B : Nat) (x : Nd) (heach : EachOf w0 B x) : WalkOf w0 B x := by
    intro vs d t v w hin hw hB0 hd0 hd1 htok htl hT
    have hnd := hin
    have hwk := tourN_eq x d t
    obtain ⟨R, hR⟩ : ∃ R, tourN x d t = R := ⟨_, rfl⟩
    rw [hR] at hwk ⊢
    clear hR
    have HR := Lib.hid hwk; clear hwk
    have hby := fun (w : World) h => beyond_any w0 w B t v d h
    obtain ⟨a, c, rfl⟩ := hT.shape
    have hlt := hT.blk.lt
    have HT := Lib.hid hT; clear hT
    have HBY := Lib.hid hby; clear hby
    have HK := Lib.hid heach; clear heach
    have HND := Lib.hid hnd; clear hnd hin
    unfold nodeV
    obtain ⟨I, hI⟩ : ∃ I, ifTy x.ty = I := ⟨_, rfl⟩
    obtain ⟨A, hA⟩ : ∃ A, Value.agg vs.toArray = A := ⟨_, rfl⟩
    rw [hI, hA]
    have HNV := Lib.hid (show nodeV x.ty vs = .iface I A by unfold nodeV; rw [hI, hA]); clear hI hA
    have HONE := Lib.hid (show (Value.iface I A).oneCell' = true from rfl)
    have hbb : Below w.heap.size w ((w.alloc (.cells #[.pointer (some ⟨B, 0, none⟩)] 240)).alloc (.cells #[.int .i64 d] 3)) := ((Below.refl _ w).alloc (Nat.le_refl _) _).alloc (by simp) _
    have hT2 := HT.out.below hbb
    have b3 := (Blk.new w #[.pointer (some ⟨B, 0, none⟩)] 240).alloc (.cells #[.int .i64 d] 3)
    have b5 := Blk.new (w.alloc (.cells #[.pointer (some ⟨B, 0, none⟩)] 240)) #[.int .i64 d] 3
    rw [World.size_alloc] at b5
    go_enter Tryz.func163, Tryz.ntmps163
    go_upto_region 1 with fail
    have hz2 : w.heap.size + 1 < ((w.alloc (.cells #[.pointer (some ⟨B, 0, none⟩)] 240)).alloc (.cells #[.int .i64 d] 3)).heap.size := by simp
    obtain ⟨W2, hW2⟩ : ∃ W2, (w.alloc (.cells #[.pointer (some ⟨B, 0, none⟩)] 240)).alloc (.cells #[.int .i64 d] 3) = W2 := ⟨_, rfl⟩
    rw [hW2] at hbb hT2 b3 b5 hz2 ⊢
    clear hW2
    have k3 : W2.cell? ⟨w.heap.size, 0, none⟩ = some (.pointer (some ⟨B, 0, none⟩)) := b3.cell 0
    have k5 : W2.cell? ⟨w.heap.size + 1, 0, none⟩ = some (.int .i64 d) := b5.cell 0
    have q2 : W2.cell? ⟨B, 2, none⟩ = some (.int .i64 t.lim) := hT2.blk.cell 2
    have f2 := hT2.blk.free 2
    have HT2 := Lib.hid hT2; clear hT2
    have HB3 := Lib.hid b3; clear b3
    have HB5 := Lib.hid b5; clear b5
    have HBB := Lib.hid hbb; clear hbb
    have HBZ := Lib.hid (HBY.out W2.drew HT2.out.drew)
    obtain ⟨L, hL⟩ : ∃ L, byd t.l.length d = L := ⟨_, rfl⟩
    rw [hL] at HBZ
    have HL := Lib.hid hL; clear hL
    go_cut [6] (fun s6 wx => s6 = .bool false ∧ Mid w0 w B ⟨t.l, t.dep, L⟩ (.slice a t.l.length c) (.slice a t.l.length c) d wx)
    case first =>
      go_region_with (go_at_call 196; (with_reducible refine HBZ.out.mono ?_); rintro e w' ⟨rfl, rfl⟩)
      all_goals
        go_wp2_with fail
        go_meet
        exact ⟨rfl, TourIn.lim HT2.out L, HB3.out.other (a := ⟨B, 2, none⟩) (by simp; omega) (.int .i64 L), HB5.out.other (a := ⟨B, 2, none⟩) (by simp; omega) (.int .i64 L), ((Fr.below (B := B) HBB.out).trans (Fr.only ((Only.refl B W2).setCell (p := ⟨B, 2, none⟩) rfl (.int .i64 L)))).drew⟩
    case rest =>
      obtain ⟨rfl, hM⟩ := hcut
      clear k3 k5 q2 f2 HT2 HB3 HB5 HBB HBZ HBY hz2
      obtain ⟨hm1, hm3, hm5, hmf⟩ := hM
      have k3 : wc.cell? ⟨w.heap.size, 0, none⟩ = some (.pointer (some ⟨B, 0, none⟩)) := hm3.cell 0
      have k5 : wc.cell? ⟨w.heap.size + 1, 0, none⟩ = some (.int .i64 d) := hm5.cell 0
      have q0 : wc.cell? ⟨B, 0, none⟩ = some (.slice a t.l.length c) := hm1.blk.cell 0
      have q2 : wc.cell? ⟨B, 2, none⟩ = some (.int .i64 L) := hm1.blk.cell 2
      have f0 := hm1.blk.free 0
      by_cases hL0 : L = 0
      · subst hL0
        have hz := byd_zero HL.out
        have htl2 := htok.1
        have hnT : nodeT x d t = ⟨t.l ++ [x], max t.dep d, 0⟩ := by unfold nodeT; rw [HL.out, if_neg (by simp)]
        have hRv : R = kidsT x (d + 1) ⟨t.l ++ [x], max t.dep d, 0⟩ := by
          rw [HR.out, hnT, if_neg (by simp)]
        have hok2 := nodeT_ok (x := x) htok hd0
        rw [hnT] at hok2
        clear hnT
        have HRV := Lib.hid hRv; clear hRv
        have n3 := hm1.ne hm3 (by decide)
        have n5 := hm1.ne hm5 (by decide)
        have nB : (Value.slice a t.l.length c).ownBlock ≠ some B := fun e => by have := (hm1.row B e).1; omega
        have hBlt := hm1.blk.lt
        have h3lt := hm3.lt
        have h5lt := hm5.lt
        obtain ⟨hmb, xsv, hmo, hmn⟩ := hm1
        obtain ⟨i0, hi0, hz0, hz1, hz2⟩ := info_parts info_node
        have HI0 := Lib.hid hi0; clear hi0
        have HZ0 := Lib.hid hz0; clear hz0
        have HZ1 := Lib.hid hz1; clear hz1
        have HZ2 := Lib.hid hz2; clear hz2
        have HMO := Lib.hid hmo; clear hmo
        have HMB := Lib.hid hmb; clear hmb
        have HMN := Lib.hid hmn; clear hmn
        have HM3 := Lib.hid hm3; clear hm3
        have HM5 := Lib.hid hm5; clear hm5
        have HMF := Lib.hid hmf; clear hmf
        go_upto_region 4 with fail
        go_cut [6] (fun s6 wx => s6 = .bool false ∧ ∃ v', Mid w0 w B ⟨t.l ++ [x], t.dep, 0⟩ (.slice a t.l.length c) v' d wx)
        case first =>
          go_region_law
            (refine step_append_lies _ (by rfl) _ _ _ (by rfl) (B + 1) 233 i0 _ 1 16 Tryz.underlying200 HI0.out HZ0.out HZ1.out HZ2.out rfl (by omega) _ t.l.length xsv (by rfl) (HMO.out.drew.alloc _) ⟨wc.heap.size, 0, none⟩ 1 1 [.iface I A] (by rfl) (by rfl) (World.news_of_block (cs := #[.iface I A]) (t := 233) (fr := (0, 0)) (heap_alloc_new wc.drew _)) (fun u hu => by rw [List.mem_singleton.1 hu]; exact HONE.out) (by omega) (by unfold maxLen; omega) (by omega) (by simp; omega) (wc.heap.size + 1) (by simp) ?_
             intro gg cap w2 hown1 hgrow hat hlt2
             have q4 := (blk_grown ((show Blk wc.drew B _ _ from HMB.out).alloc _) hgrow nB).cell 0
             have q5 := (blk_grown ((show Blk wc.drew B _ _ from HMB.out).alloc _) hgrow nB).free 0
             have q6 := (blk_grown ((show Blk wc.drew w.heap.size _ _ from HM3.out).alloc _) hgrow (fun e => n3 e.symm)).cell 0)
          all_goals
            go_wp2_with fail
            go_meet
            have hxl : xsv.length = t.l.length := by have := HMO.out.1; omega
            have hown2 := ownsRow_setCell_below hown1 (a := ⟨B, 0, none⟩) (by simp) (.slice (some ⟨gg, 0, none⟩) (t.l.length + 1) cap)
            refine ⟨rfl, .slice (some ⟨gg, 0, none⟩) (t.l.length + 1) cap, ⟨(blk_grown ((show Blk wc.drew B _ _ from HMB.out).alloc _) hgrow nB).set 0 _, _, ?_, (by have := HMN.out.snoc hxl HND.out; rwa [HNV.out] at this)⟩, (blk_grown ((show Blk wc.drew w.heap.size _ _ from HM3.out).alloc _) hgrow (fun e => n3 e.symm)).other (a := ⟨B, 0, none⟩) (by simp; omega) _, (blk_grown ((show Blk wc.drew (w.heap.size + 1) _ _ from HM5.out).alloc _) hgrow (fun e => n5 e.symm)).other (a := ⟨B, 0, none⟩) (by simp; omega) _, ?_⟩
            · rw [List.length_append]
              exact hown2
            · refine (grown_fr (HMF.out.drew.alloc _) hgrow ?_).trans (Fr.only ((Only.refl B w2).setCell (p := ⟨B, 0, none⟩) rfl _))
              rcases hat with h | h
              · exact .inl h.symm
              · refine .inr fun g' hg' => ?_
                have : gg = g' := Option.some.inj hg'
                simp; omega
        case rest =>
          clear k3 k5 q0 q2 f0 HMO HMB HMN HM3 HM5 HMF n3 n5 nB HI0 HZ0 HZ1 HZ2 hBlt h3lt h5lt HL HR htl2 HONE
          obtain ⟨rfl, v', hM⟩ := hcut
          obtain ⟨hm1, hm3, hm5, hmf⟩ := hM
          obtain ⟨X, hX⟩ : ∃ X, t.l ++ [x] = X := ⟨_, rfl⟩
          rw [hX] at hok2 HRV hm1
          clear hX
          have k3 : wc.cell? ⟨w.heap.size, 0, none⟩ = some (.pointer (some ⟨B, 0, none⟩)) := hm3.cell 0
          have k5 : wc.cell? ⟨w.heap.size + 1, 0, none⟩ = some (.int .i64 d) := hm5.cell 0
          have q1 : wc.cell? ⟨B, 1, none⟩ = some (.int .i64 t.dep) := hm1.blk.cell 1
          have f1 := hm1.blk.free 1
          have HM1 := Lib.hid hm1; clear hm1
          have HM3 := Lib.hid hm3; clear hm3
          have HM5 := Lib.hid hm5; clear hm5
          have HMF := Lib.hid hmf; clear hmf
          have hne3 : w.heap.size ≠ B := by omega
          have hne5 : w.heap.size + 1 ≠ B := by omega
          go_upto_region 5 with fail
          go_cut [6] (fun s6 wx => s6 = .bool false ∧ Mid w0 w B ⟨X, max t.dep d, 0⟩ (.slice a t.l.length c) v' d wx)
          case first =>
            by_cases hm : d ≤ t.dep
            · have hmx : max t.dep d = t.dep := by omega
              have HMX := Lib.hid hmx; clear hmx
              go_region
              all_goals
                go_wp2_with fail
                go_meet
                rw [HMX.out]
                exact ⟨rfl, TourIn.depth HM1.out t.dep, HM3.out.other (a := ⟨B, 1, none⟩) hne3 (.int .i64 t.dep), HM5.out.other (a := ⟨B, 1, none⟩) hne5 (.int .i64 t.dep), (HMF.out.trans (Fr.only ((Only.refl B wc).setCell (p := ⟨B, 1, none⟩) rfl (.int .i64 t.dep)))).drew⟩
            · have hmx : max t.dep d = d := by omega
              have HMX := Lib.hid hmx; clear hmx
              go_region
              all_goals
                go_wp2_with fail
                go_meet
                rw [HMX.out]
                exact ⟨rfl, TourIn.depth HM1.out d, HM3.out.other (a := ⟨B, 1, none⟩) hne3 (.int .i64 d), HM5.out.other (a := ⟨B, 1, none⟩) hne5 (.int .i64 d), (HMF.out.trans (Fr.only ((Only.refl B wc).setCell (p := ⟨B, 1, none⟩) rfl (.int .i64 d)))).drew⟩
          case rest =>
            clear k3 k5 q1 f1 HM1 HM3 HM5 HMF
            obtain ⟨rfl, hM⟩ := hcut
            obtain ⟨hm1, hm3, hm5, hmf⟩ := hM
            have hold : Below w0.heap.size w0 wc := hw.trans (hmf.old hB0 hw.size (fun g hg => (HT.out.row g hg).1))
            have HC := Lib.hid (HK.out vs d _ v' wc w.heap.size (w.heap.size + 1) _ _ HND.out hold hB0 hd0 (by omega) hok2 rfl hm3 hm5 hne3 hne5 (hm1.ne hm3 (by decide)) (hm1.ne hm5 (by decide)) hm1)
            have HMF := Lib.hid hmf; clear hmf
            clear hm1 hm3 hm5 hold
            obtain ⟨R2, hR2⟩ : ∃ R2, kidsT x (d + 1) ⟨X, max t.dep d, 0⟩ = R2 := ⟨_, rfl⟩
            rw [hR2] at HC HRV
            clear hR2 hok2
            have hnv := HNV.out
            unfold nodeV at hnv
            obtain ⟨hI, hA⟩ := Value.iface.inj hnv
            clear hnv
            subst hI hA
            clear HNV HK HND HT
            obtain ⟨ty, hty⟩ : ∃ ty, x.ty = ty := ⟨_, rfl⟩
            rw [hty] at HC ⊢
            clear hty
            cases ty
            all_goals
              unfold ifTy
              unfold eachF at HC
              simp only at HC ⊢
              go_wp2_with fail
              refine HC.out.mono ?_
              rintro e wz ⟨v2, rfl, h2, hf⟩
              have HF := Lib.hid (HMF.out.trans hf); clear hf
              have H2 := Lib.hid h2; clear h2
              go_wp2
              go_ret
              rw [HRV.out]
              exact ⟨v2, rfl, H2.out, HF.out⟩
      · have hl0 : (L != 0) = true := by simpa using hL0
        have hRv : R = ⟨t.l, t.dep, L⟩ := by
          have : nodeT x d t = ⟨t.l, t.dep, L⟩ := by unfold nodeT; rw [HL.out, if_pos hL0]
          rw [HR.out, this, if_pos hL0]
        have HRV := Lib.hid hRv; clear hRv
        have hdf : decide (L = 0) = false := by simpa using hL0
        have HDF := Lib.hid hdf; clear hdf
        have HM1 := Lib.hid hm1; clear hm1
        have HMF := Lib.hid hmf; clear hmf
        clear hm3 hm5
        go_wp2
        go_ret
        rw [HRV.out]
        exact ⟨.slice a t.l.length c, by simp only; rw [HDF.out]; rfl, HM1.out, HMF.out⟩
end Go.Proofs.YtjpopelbdhgidaaGreatDoor

/-
  The project's each of every type, and walk over every node: proved is what each makes of a tour, by induction on the tree.
-/
namespace Go.Proofs.YtjpopelbdhgidaaGreatDoor
open Go Go.RowKit

/-- A closure's two cells, beside a tour. -/
structure Clos (B c3 c5 : Nat) (T3 T5 : TypeId) (d : Int) (v : Value) (w : World) : Prop where
  b3 : Blk w c3 #[.pointer (some ⟨B, 0, none⟩)] T3
  b5 : Blk w c5 #[.int .i64 d] T5
  n3 : c3 ≠ B
  n5 : c5 ≠ B
  r3 : some c3 ≠ v.ownBlock
  r5 : some c5 ≠ v.ownBlock
theorem row_next {B c : Nat} {v v' : Value} {w w' : World} (hf : Fr B v.ownBlock v'.ownBlock w w') (hc : c < w.heap.size) (hr : some c ≠ v.ownBlock) : some c ≠ v'.ownBlock := by
  rcases hf.row with h | h
  · rw [h]; exact hr
  · intro e; have := h c e.symm; omega
theorem Clos.next {B c3 c5 : Nat} {T3 T5 : TypeId} {d : Int} {v v' : Value} {w w' : World} (h : Clos B c3 c5 T3 T5 d v w) (hf : Fr B v.ownBlock v'.ownBlock w w') : Clos B c3 c5 T3 T5 d v' w' :=
  ⟨h.b3.fr hf h.n3 h.r3, h.b5.fr hf h.n5 h.r5, h.n3, h.n5, row_next hf h.b3.lt h.r3, row_next hf h.b5.lt h.r5⟩

theorem eachC_any (w0 : World) (B : Nat) (k n : Int) (nm : ByteArray) (xs cs ts es : List Nd) (hxs : ∀ i (h : i < xs.length), WalkOf w0 B xs[i]) (hcs : ∀ i (h : i < cs.length), WalkOf w0 B cs[i]) : EachOf w0 B (.mk .C k n nm xs cs ts es) := by
  intro vs d t v w c3 c5 T3 T5 hin hw hB0 hd0 hd1 htok htl h3 h5 hn3 hn5 hr3 hr5 hT
  unfold NdIn at hin
  obtain ⟨⟨rfl, rfl, rfl⟩, -, -, -, vx, vc, vt, ve, rfl, hx, hc, -, -⟩ := hin
  change Calls Tryz.prog 252 #[.agg #[.int .i64 k, .int .i64 n, vx, vc], _] w (TouredTo w0 w B v (if (tourL xs (d + 1) t).lim ≠ 0 then tourL xs (d + 1) t else tourL cs (d + 1) (tourL xs (d + 1) t)))
  have hcl : Clos B c3 c5 T3 T5 d v w := ⟨h3, h5, hn3, hn5, hr3, hr5⟩
  have hb : Below w.heap.size w (w.alloc (.cells #[.int .i64 k, .int .i64 n, vx, vc] 270)) := (Below.refl _ w).alloc (Nat.le_refl _) _
  have hbox := Blk.new w #[.int .i64 k, .int .i64 n, vx, vc] 270
  have hboxB : w.heap.size ≠ B := by have := hT.blk.lt; omega
  have hboxR : some w.heap.size ≠ v.ownBlock := fun e => by have := (hT.row _ e.symm).2; omega
  have hcl1 : Clos B c3 c5 T3 T5 d v (w.alloc (.cells #[.int .i64 k, .int .i64 n, vx, vc] 270)) := hcl.next (Fr.below hb)
  have hT1 := hT.below hb
  have hw1 := hw.trans (hb.mono hw.size)
  have hok1 := tourL_ok xs (d + 1) t htok (by omega)
  have HS1 := Lib.hid (showE_any w0 B xs hxs vx d t v _ c3 c5 T3 T5 hx hw1 hB0 hd0 hd1 htok htl hcl1.b3 hcl1.b5 hn3 hn5 hr3 hr5 hT1)
  have HS2 := Lib.hid (fun t1 v1 w1 (h1 : t1.ok) (h2 : t1.lim = 0) (h3 : Clos B c3 c5 T3 T5 d v1 w1) (h4 : TourIn w0 w1 B t1 v1) (h5 : Below w0.heap.size w0 w1) => showC_any w0 B cs hcs vc d t1 v1 w1 c3 c5 T3 T5 hc h5 hB0 hd0 hd1 h1 h2 h3.b3 h3.b5 h3.n3 h3.n5 h3.r3 h3.r5 h4)
  obtain ⟨a, c, rfl, -⟩ := hx
  obtain ⟨a2, c2, rfl, -⟩ := hc
  obtain ⟨t1, ht1⟩ : ∃ t1, tourL xs (d + 1) t = t1 := ⟨_, rfl⟩
  rw [ht1] at HS1 hok1 ⊢
  clear ht1
  have HCL := Lib.hid hcl1; clear hcl1 hcl h3 h5
  have HBB := Lib.hid hb; clear hb
  have HBX := Lib.hid hbox; clear hbox
  have HW1 := Lib.hid hw1; clear hw1
  have HT0 := Lib.hid hT; clear hT hT1
  by_cases hz : t1.lim = 0
  · rw [if_neg (by simpa using hz)]
    obtain ⟨t2, ht2⟩ : ∃ t2, tourL cs (d + 1) t1 = t2 := ⟨_, rfl⟩
    have hdz : decide (t1.lim = 0) = true := by simpa using hz
    have HS3 := Lib.hid (fun v1 w1 h3 h4 h5 => by have := HS2.out t1 v1 w1 hok1 hz h3 h4 h5; rwa [ht2] at this)
    rw [ht2]
    clear ht2 HS2
    go_enter Tryz.func252, Tryz.ntmps252
    go_wp2_with fail
    refine HS1.out.mono ?_
    rintro e w2 ⟨v2, rfl, h2, hf⟩
    rw [hdz]
    clear hdz
    have k3 : w2.cell? ⟨w.heap.size, 3, none⟩ = some (.slice a2 cs.length c2) := (HBX.out.fr hf hboxB hboxR).cell 3
    have HC2 := Lib.hid (HS3.out v2 w2 (HCL.out.next hf) h2 (HW1.out.trans (hf.old hB0 HW1.out.size (fun g hg => (HT0.out.row g hg).1))))
    have HF := Lib.hid ((Fr.below HBB.out).trans hf); clear hf h2
    go_wp2_with fail
    refine HC2.out.mono ?_
    rintro e w3 ⟨v3, rfl, h3, hf3⟩
    have HF3 := Lib.hid (HF.out.trans hf3); clear hf3
    have H3 := Lib.hid h3; clear h3
    go_wp2
    go_ret
    exact ⟨v3, rfl, H3.out, HF3.out⟩
  · rw [if_pos (by simpa using hz)]
    have hdz : decide (t1.lim = 0) = false := by simpa using hz
    have HDZ := Lib.hid hdz
    go_enter Tryz.func252, Tryz.ntmps252
    go_wp2_with fail
    refine HS1.out.mono ?_
    rintro e w2 ⟨v2, rfl, h2, hf⟩
    rw [hdz]
    clear hdz
    have HF := Lib.hid ((Fr.below HBB.out).trans hf); clear hf
    have H2 := Lib.hid h2; clear h2
    go_wp2
    go_ret
    exact ⟨v2, by rw [HDZ.out]; rfl, H2.out, HF.out⟩

theorem box_next {B b : Nat} {cs : Array Value} {T : TypeId} {v v' : Value} {w w' : World} (h : Blk w b cs T ∧ b ≠ B ∧ some b ≠ v.ownBlock) (hf : Fr B v.ownBlock v'.ownBlock w w') : Blk w' b cs T ∧ b ≠ B ∧ some b ≠ v'.ownBlock :=
  ⟨h.1.fr hf h.2.1 h.2.2, h.2.1, row_next hf h.1.lt h.2.2⟩

set_option maxHeartbeats 4000000 in
theorem eachS_any (w0 : World) (B : Nat) (k n : Int) (nm : ByteArray) (xs cs ts es : List Nd) (hxs : ∀ i (h : i < xs.length), WalkOf w0 B xs[i]) (hcs : ∀ i (h : i < cs.length), WalkOf w0 B cs[i]) (hts : ∀ i (h : i < ts.length), WalkOf w0 B ts[i]) (hes : ∀ i (h : i < es.length), WalkOf w0 B es[i]) : EachOf w0 B (.mk .S k n nm xs cs ts es) := by
  intro vs d t v w c3 c5 T3 T5 hin hw hB0 hd0 hd1 htok htl h3 h5 hn3 hn5 hr3 hr5 hT
  unfold NdIn at hin
  obtain ⟨_, -, -, -, vx, vc, vt, ve, rfl, hx, hc, ht, he⟩ := hin
  change Calls Tryz.prog 247 #[.agg #[.int .i64 k, .string nm, vx, vc, vt, ve], _] w (TouredTo w0 w B v (kidsT (.mk .S k n nm xs cs ts es) (d + 1) t))
  have hcl : Clos B c3 c5 T3 T5 d v w := ⟨h3, h5, hn3, hn5, hr3, hr5⟩
  have hb : Below w.heap.size w (w.alloc (.cells #[.int .i64 k, .string nm, vx, vc, vt, ve] 267)) := (Below.refl _ w).alloc (Nat.le_refl _) _
  have BX := Lib.hid (show Blk (w.alloc (.cells #[.int .i64 k, .string nm, vx, vc, vt, ve] 267)) w.heap.size _ _ ∧ w.heap.size ≠ B ∧ some w.heap.size ≠ v.ownBlock from ⟨Blk.new w #[.int .i64 k, .string nm, vx, vc, vt, ve] 267, by have := hT.blk.lt; omega, fun e => by have := (hT.row _ e.symm).2; omega⟩)
  have hcl1 : Clos B c3 c5 T3 T5 d v (w.alloc (.cells #[.int .i64 k, .string nm, vx, vc, vt, ve] 267)) := hcl.next (Fr.below hb)
  have hT1 := hT.below hb
  have hw1 := hw.trans (hb.mono hw.size)
  have hkt : kidsT (.mk .S k n nm xs cs ts es) (d + 1) t = if (tourL cs (d + 1) t).lim ≠ 0 then tourL cs (d + 1) t else if (tourL xs (d + 1) (tourL cs (d + 1) t)).lim ≠ 0 then tourL xs (d + 1) (tourL cs (d + 1) t) else if (tourL ts (d + 1) (tourL xs (d + 1) (tourL cs (d + 1) t))).lim ≠ 0 then tourL ts (d + 1) (tourL xs (d + 1) (tourL cs (d + 1) t)) else tourL es (d + 1) (tourL ts (d + 1) (tourL xs (d + 1) (tourL cs (d + 1) t))) := rfl
  rw [hkt]
  clear hkt
  have hok1 := tourL_ok cs (d + 1) t htok (by omega)
  have hok2 := tourL_ok xs (d + 1) _ hok1 (by omega)
  have hok3 := tourL_ok ts (d + 1) _ hok2 (by omega)
  have HS1 := Lib.hid (showC_any w0 B cs hcs vc d t v _ c3 c5 T3 T5 hc hw1 hB0 hd0 hd1 htok htl hcl1.b3 hcl1.b5 hn3 hn5 hr3 hr5 hT1)
  have HS2 := Lib.hid (fun t1 v1 w1 (h1 : t1.ok) (h2 : t1.lim = 0) (h3 : Clos B c3 c5 T3 T5 d v1 w1) (h4 : TourIn w0 w1 B t1 v1) (h5 : Below w0.heap.size w0 w1) => showE_any w0 B xs hxs vx d t1 v1 w1 c3 c5 T3 T5 hx h5 hB0 hd0 hd1 h1 h2 h3.b3 h3.b5 h3.n3 h3.n5 h3.r3 h3.r5 h4)
  have HS3 := Lib.hid (fun t1 v1 w1 (h1 : t1.ok) (h2 : t1.lim = 0) (h3 : Clos B c3 c5 T3 T5 d v1 w1) (h4 : TourIn w0 w1 B t1 v1) (h5 : Below w0.heap.size w0 w1) => showS_any w0 B ts hts vt d t1 v1 w1 c3 c5 T3 T5 ht h5 hB0 hd0 hd1 h1 h2 h3.b3 h3.b5 h3.n3 h3.n5 h3.r3 h3.r5 h4)
  have HS4 := Lib.hid (fun t1 v1 w1 (h1 : t1.ok) (h2 : t1.lim = 0) (h3 : Clos B c3 c5 T3 T5 d v1 w1) (h4 : TourIn w0 w1 B t1 v1) (h5 : Below w0.heap.size w0 w1) => showS_any w0 B es hes ve d t1 v1 w1 c3 c5 T3 T5 he h5 hB0 hd0 hd1 h1 h2 h3.b3 h3.b5 h3.n3 h3.n5 h3.r3 h3.r5 h4)
  obtain ⟨a, c2, rfl, -⟩ := hx
  obtain ⟨b, d2, rfl, -⟩ := hc
  obtain ⟨e, f2, rfl, -⟩ := ht
  obtain ⟨g, h2, rfl, -⟩ := he
  obtain ⟨t1, ht1⟩ : ∃ t1, tourL cs (d + 1) t = t1 := ⟨_, rfl⟩
  rw [ht1] at HS1 hok1 hok2 hok3 ⊢
  clear ht1
  have HS2 := Lib.hid (HS2.out t1)
  obtain ⟨t2, ht2⟩ : ∃ t2, tourL xs (d + 1) t1 = t2 := ⟨_, rfl⟩
  rw [ht2] at HS2 hok2 hok3 ⊢
  clear ht2
  have HS3 := Lib.hid (HS3.out t2)
  obtain ⟨t3, ht3⟩ : ∃ t3, tourL ts (d + 1) t2 = t3 := ⟨_, rfl⟩
  rw [ht3] at HS3 hok3 ⊢
  clear ht3
  have HS4 := Lib.hid (HS4.out t3)
  obtain ⟨t4, ht4⟩ : ∃ t4, tourL es (d + 1) t3 = t4 := ⟨_, rfl⟩
  rw [ht4] at HS4 ⊢
  clear ht4
  have HCL := Lib.hid hcl1; clear hcl1 hcl h3 h5
  have HBB := Lib.hid hb; clear hb
  have HW1 := Lib.hid hw1; clear hw1
  have HT0 := Lib.hid hT1; clear hT hT1
  by_cases hz1 : t1.lim = 0
  · rw [if_neg (by simpa using hz1)]
    have hd1 : decide (t1.lim = 0) = true := by simpa using hz1
    by_cases hz2 : t2.lim = 0
    · rw [if_neg (by simpa using hz2)]
      have hd2 : decide (t2.lim = 0) = true := by simpa using hz2
      by_cases hz3 : t3.lim = 0
      · rw [if_neg (by simpa using hz3)]
        have hd3 : decide (t3.lim = 0) = true := by simpa using hz3
        go_enter Tryz.func247, Tryz.ntmps247
        go_wp2_with fail
        refine HS1.out.mono ?_
        rintro e w2 ⟨v2, rfl, h2, hf⟩
        rw [hd1]
        clear hd1
        have B2 := Lib.hid (box_next BX.out hf)
        have k2 : w2.cell? ⟨w.heap.size, 2, none⟩ = some (.slice a xs.length c2) := B2.out.1.cell 2
        have O2 := Lib.hid (HW1.out.trans (hf.old hB0 HW1.out.size (fun g hg => (HT0.out.row g hg).1)))
        have L2 := Lib.hid (HCL.out.next hf)
        have HC2 := Lib.hid (HS2.out v2 w2 hok1 hz1 L2.out h2 O2.out)
        have T2 := Lib.hid h2; clear h2
        have F2 := Lib.hid ((Fr.below HBB.out).trans hf); clear hf
        go_wp2_with fail
        refine HC2.out.mono ?_
        rintro e w3 ⟨v3, rfl, h3, hf⟩
        rw [hd2]
        clear hd2
        have B3 := Lib.hid (box_next B2.out hf)
        have k3 : w3.cell? ⟨w.heap.size, 4, none⟩ = some (.slice e ts.length f2) := B3.out.1.cell 4
        have O3 := Lib.hid (O2.out.trans (hf.old hB0 O2.out.size (fun g hg => (T2.out.row g hg).1)))
        have L3 := Lib.hid (L2.out.next hf)
        have HC3 := Lib.hid (HS3.out v3 w3 hok2 hz2 L3.out h3 O3.out)
        have T3 := Lib.hid h3; clear h3
        have F3 := Lib.hid (F2.out.trans hf); clear hf
        go_wp2_with fail
        refine HC3.out.mono ?_
        rintro e w4 ⟨v4, rfl, h4, hf⟩
        rw [hd3]
        clear hd3
        have B4 := Lib.hid (box_next B3.out hf)
        have k4 : w4.cell? ⟨w.heap.size, 5, none⟩ = some (.slice g es.length h2) := B4.out.1.cell 5
        have O4 := Lib.hid (O3.out.trans (hf.old hB0 O3.out.size (fun g hg => (T3.out.row g hg).1)))
        have L4 := Lib.hid (L3.out.next hf)
        have HC4 := Lib.hid (HS4.out v4 w4 hok3 hz3 L4.out h4 O4.out)
        have T4 := Lib.hid h4; clear h4
        have F4 := Lib.hid (F3.out.trans hf); clear hf
        go_wp2_with fail
        refine HC4.out.mono ?_
        rintro e w5 ⟨v5, rfl, h5, hf⟩
        have F5 := Lib.hid (F4.out.trans hf); clear hf
        have H5 := Lib.hid h5; clear h5
        go_wp2
        go_ret
        exact ⟨v5, rfl, H5.out, F5.out⟩
      · rw [if_pos (by simpa using hz3)]
        have hd3 : decide (t3.lim = 0) = false := by simpa using hz3
        go_enter Tryz.func247, Tryz.ntmps247
        go_wp2_with fail
        refine HS1.out.mono ?_
        rintro e w2 ⟨v2, rfl, h2, hf⟩
        rw [hd1]
        clear hd1
        have B2 := Lib.hid (box_next BX.out hf)
        have k2 : w2.cell? ⟨w.heap.size, 2, none⟩ = some (.slice a xs.length c2) := B2.out.1.cell 2
        have O2 := Lib.hid (HW1.out.trans (hf.old hB0 HW1.out.size (fun g hg => (HT0.out.row g hg).1)))
        have L2 := Lib.hid (HCL.out.next hf)
        have HC2 := Lib.hid (HS2.out v2 w2 hok1 hz1 L2.out h2 O2.out)
        have T2 := Lib.hid h2; clear h2
        have F2 := Lib.hid ((Fr.below HBB.out).trans hf); clear hf
        go_wp2_with fail
        refine HC2.out.mono ?_
        rintro e w3 ⟨v3, rfl, h3, hf⟩
        rw [hd2]
        clear hd2
        have B3 := Lib.hid (box_next B2.out hf)
        have k3 : w3.cell? ⟨w.heap.size, 4, none⟩ = some (.slice e ts.length f2) := B3.out.1.cell 4
        have O3 := Lib.hid (O2.out.trans (hf.old hB0 O2.out.size (fun g hg => (T2.out.row g hg).1)))
        have L3 := Lib.hid (L2.out.next hf)
        have HC3 := Lib.hid (HS3.out v3 w3 hok2 hz2 L3.out h3 O3.out)
        have T3 := Lib.hid h3; clear h3
        have F3 := Lib.hid (F2.out.trans hf); clear hf
        go_wp2_with fail
        refine HC3.out.mono ?_
        rintro e w4 ⟨v4, rfl, h4, hf⟩
        rw [hd3]
        have F4 := Lib.hid (F3.out.trans hf); clear hf
        have H4 := Lib.hid h4; clear h4
        have HDZ := Lib.hid hd3; clear hd3
        go_wp2
        go_ret
        exact ⟨v4, by rw [HDZ.out]; rfl, H4.out, F4.out⟩
    · rw [if_pos (by simpa using hz2)]
      have hd2 : decide (t2.lim = 0) = false := by simpa using hz2
      go_enter Tryz.func247, Tryz.ntmps247
      go_wp2_with fail
      refine HS1.out.mono ?_
      rintro e w2 ⟨v2, rfl, h2, hf⟩
      rw [hd1]
      clear hd1
      have B2 := Lib.hid (box_next BX.out hf)
      have k2 : w2.cell? ⟨w.heap.size, 2, none⟩ = some (.slice a xs.length c2) := B2.out.1.cell 2
      have O2 := Lib.hid (HW1.out.trans (hf.old hB0 HW1.out.size (fun g hg => (HT0.out.row g hg).1)))
      have L2 := Lib.hid (HCL.out.next hf)
      have HC2 := Lib.hid (HS2.out v2 w2 hok1 hz1 L2.out h2 O2.out)
      have T2 := Lib.hid h2; clear h2
      have F2 := Lib.hid ((Fr.below HBB.out).trans hf); clear hf
      go_wp2_with fail
      refine HC2.out.mono ?_
      rintro e w3 ⟨v3, rfl, h3, hf⟩
      rw [hd2]
      have F3 := Lib.hid (F2.out.trans hf); clear hf
      have H3 := Lib.hid h3; clear h3
      have HDZ := Lib.hid hd2; clear hd2
      go_wp2
      go_ret
      exact ⟨v3, by rw [HDZ.out]; rfl, H3.out, F3.out⟩
  · rw [if_pos (by simpa using hz1)]
    have hd1 : decide (t1.lim = 0) = false := by simpa using hz1
    go_enter Tryz.func247, Tryz.ntmps247
    go_wp2_with fail
    refine HS1.out.mono ?_
    rintro e w2 ⟨v2, rfl, h2, hf⟩
    rw [hd1]
    have F2 := Lib.hid ((Fr.below HBB.out).trans hf); clear hf
    have H2 := Lib.hid h2; clear h2
    have HDZ := Lib.hid hd1; clear hd1
    go_wp2
    go_ret
    exact ⟨v2, by rw [HDZ.out]; rfl, H2.out, F2.out⟩

theorem eachD_any (w0 : World) (B : Nat) (k n : Int) (nm : ByteArray) (xs cs ts es : List Nd) : EachOf w0 B (.mk .D k n nm xs cs ts es) := by
  intro vs d t v w c3 c5 T3 T5 hin hw hB0 hd0 hd1 htok htl h3 h5 hn3 hn5 hr3 hr5 hT
  unfold NdIn at hin
  obtain ⟨-, -, -, -, vx, vc, vt, ve, rfl, -, -, -, -⟩ := hin
  change Calls Tryz.prog 246 #[.agg #[.string nm, .int .i64 n], _] w (TouredTo w0 w B v t)
  have hb : Below w.heap.size w (w.alloc (.cells #[.string nm, .int .i64 n] 266)) := (Below.refl _ w).alloc (Nat.le_refl _) _
  have H2 := Lib.hid (hT.below hb)
  have HF := Lib.hid (Fr.below (B := B) (r := v.ownBlock) hb)
  have HZ := Lib.hid (show decide (t.lim = 0) = true by simpa using htl)
  clear hT hb htl h3 h5 hw htok
  go_enter Tryz.func246, Tryz.ntmps246
  go_wp2
  go_ret
  exact ⟨v, by rw [HZ.out]; rfl, H2.out, HF.out⟩

/-- The project's walk, over every node. -/
theorem walkOf_all (w0 : World) (B : Nat) : ∀ (N : Nat) (x : Nd), SizeOf.sizeOf x ≤ N → WalkOf w0 B x := by
  intro N
  induction N with
  | zero =>
    intro x hN
    obtain ⟨ty, k, n, nm, xs, cs, ts, es⟩ := x
    simp only [Nd.mk.sizeOf_spec] at hN
    omega
  | succ N ih =>
    intro x hN
    have hmem := fun y h => Nd.mem_size (x := x) (y := y) h
    obtain ⟨ty, k, n, nm, xs, cs, ts, es⟩ := x
    simp only [Nd.xs, Nd.cs, Nd.ts, Nd.es] at hmem
    have h1 : ∀ i (h : i < xs.length), WalkOf w0 B xs[i] := fun i hi => ih _ (by have := hmem _ (.inl (List.getElem_mem hi)); omega)
    have h2 : ∀ i (h : i < cs.length), WalkOf w0 B cs[i] := fun i hi => ih _ (by have := hmem _ (.inr (.inl (List.getElem_mem hi))); omega)
    have h3 : ∀ i (h : i < ts.length), WalkOf w0 B ts[i] := fun i hi => ih _ (by have := hmem _ (.inr (.inr (.inl (List.getElem_mem hi)))); omega)
    have h4 : ∀ i (h : i < es.length), WalkOf w0 B es[i] := fun i hi => ih _ (by have := hmem _ (.inr (.inr (.inr (List.getElem_mem hi)))); omega)
    refine walk_gen w0 B _ ?_
    cases ty with
    | E =>
      intro vs d t v w c3 c5 T3 T5 hin hw hB0 hd0 hd1 htok htl q3 q5 hn3 hn5 hr3 hr5 hT
      unfold NdIn at hin
      obtain ⟨⟨rfl, rfl, rfl⟩, -, -, -, vx, vc, vt, ve, rfl, hx, -, -, -⟩ := hin
      exact eachE_any w0 B xs h1 k n nm vx d t v w c3 c5 T3 T5 hx hw hB0 hd0 hd1 htok htl q3 q5 hn3 hn5 hr3 hr5 hT
    | C => exact eachC_any w0 B k n nm xs cs ts es h1 h2
    | S => exact eachS_any w0 B k n nm xs cs ts es h1 h2 h3 h4
    | D => exact eachD_any w0 B k n nm xs cs ts es
end Go.Proofs.YtjpopelbdhgidaaGreatDoor
