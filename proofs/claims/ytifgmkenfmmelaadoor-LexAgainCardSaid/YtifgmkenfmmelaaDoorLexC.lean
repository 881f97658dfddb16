/-
  The document's tokens (gnomonref2.Tokens): proved is that it answers, for every text, what 'lexV' says: the tokens with their places, or the first fault and its place; nothing that lay is turned.
-/
import Derived.Test.YtifgmkenfmmelaaDoorLexB
import Derived.Test.YtifgmkenfmmelaaDoorLexK
namespace Go.Proofs.YtifgmkenfmmelaaDoor
open Go Go.RowKit

theorem chk_not10 (s : ByteArray) : ∀ f p, (chk s f p).2 ≠ 10
  | 0, _ => by unfold chk; decide
  | f + 1, p => by
    unfold chk
    split
    · split
      · simp
      · exact chk_not10 s f _
    · simp

set_option maxRecDepth 100000 in
set_option maxHeartbeats 4000000 in
theorem rtokens_bad (s : ByteArray) (w : World) (hs : s.size ≤ 140737488351232) (hc : (chkAll s).2 ≠ 0) : Calls Tryd.prog 10 #[.string s] w (Lexed w (lexV s)) := by
  have hV : lexV s = ((chkAll s).2, atV s (chkAll s).1, []) := by unfold lexV; rw [if_neg hc]
  have hck := fun w => refcheck_any s w (by omega)
  have hat := fun w => refat_any s (chkAll s).1 w (by omega)
  have h10 : (chkAll s).2 = 10 → atV s (chkAll s).1 = (1, 1) := by
    intro h
    unfold chkAll at h ⊢
    split
    · have := atV_mvE s 0
      rw [mvE_done (by omega)] at this
      exact this
    · rename_i h2
      rw [if_neg h2] at h
      exact absurd h (chk_not10 s _ _)
  rw [hV]
  obtain ⟨p, hp⟩ : ∃ p, atV s (chkAll s).1 = p := ⟨_, rfl⟩
  rw [hp] at hat h10 ⊢
  clear hV hp
  obtain ⟨c, hcc⟩ : ∃ c, chkAll s = c := ⟨_, rfl⟩
  rw [hcc] at hck hat hc h10 ⊢
  clear hcc
  obtain ⟨n, e⟩ := c
  obtain ⟨p1, p2⟩ := p
  simp only at hc h10 hck hat ⊢
  have HC := Lib.hid hck; clear hck
  have HA := Lib.hid hat; clear hat
  by_cases h : e = 10
  · have hh := h10 h
    clear h10 HA
    subst h
    obtain ⟨rfl, rfl⟩ := Prod.mk.inj hh
    clear hh
    go_enter Tryd.func10, Tryd.ntmps10
    go_wp2_with (go_at_call 22; refine (HC.out _).mono ?_; rintro e w1 ⟨rfl, rfl⟩)
    exact bodyPost_ret (v := .tuple #[.slice none 0 0, .agg #[.int .i64 1, .int .i64 1], .int .i64 10]) (by simp [results, Tryd.results10, go_sem]) rfl ⟨_, rfl, owns_nil _ _ _ _, (Below.refl _ _).alloc (Nat.le_refl _) _⟩
  · have n10 : (e == 10) = false := by simpa using h
    have n0 : (e != 0) = true := by simpa using hc
    clear h10 h hc
    go_enter Tryd.func10, Tryd.ntmps10
    go_wp2_with (first | (go_at_call 22; refine (HC.out _).mono ?_; rintro e w1 ⟨rfl, rfl⟩) | (go_at_call 23; refine (HA.out _).mono ?_; rintro e w2 ⟨rfl, hb2⟩; have bR2 := (Blk.new w #[.int .i64 0, .int .i64 0] 25).below hb2 (by simp); have f0 := bR2.free 0; have f1 := bR2.free 1; have c0 := bR2.cell 0; have c1 := bR2.cell 1; simp at c0 c1))
    have bR3 := (bR2.set 0 (.int .i64 p1)).set 1 (.int .i64 p2)
    have hbb : Below w.heap.size w ((w2.setCell ⟨w.heap.size, 0, none⟩ (.int .i64 p1)).setCell ⟨w.heap.size, 1, none⟩ (.int .i64 p2)) :=
      ((((Below.refl _ w).alloc (Nat.le_refl _) _).trans (hb2.mono (by simp))).setCell (by simp) _).setCell (by simp) _
    obtain ⟨W, hW⟩ : ∃ W, (w2.setCell ⟨w.heap.size, 0, none⟩ (.int .i64 p1)).setCell ⟨w.heap.size, 1, none⟩ (.int .i64 p2) = W := ⟨_, rfl⟩
    rw [hW] at bR3 hbb ⊢
    have q0 : W.cell? ⟨w.heap.size, 0, none⟩ = some (.int .i64 p1) := bR3.cell 0
    have q1 : W.cell? ⟨w.heap.size, 1, none⟩ = some (.int .i64 p2) := bR3.cell 1
    exact bodyPost_ret (v := .tuple #[.slice none 0 0, .agg #[.int .i64 p1, .int .i64 p2], .int .i64 e]) (by simp [results, Tryd.results10, go_sem, q0, q1]) rfl ⟨_, rfl, owns_nil _ _ _ _, hbb⟩

theorem news_tok (W : World) (kind : Int) (t : ByteArray) (num : Int) (P : Int × Int) (g : Nat) (hg : W.heap.size = g) : ∀ j u, (tokC kind t num P)[j]? = some u → (W.alloc (.cells #[.int .i64 kind, .string t, .int .i64 num, .int .i64 P.1, .int .i64 P.2] 33)).cell? ((⟨g, 0, none⟩ : Addr).add j) = some u := by
  subst hg
  exact World.news_of_block (cs := #[.int .i64 kind, .string t, .int .i64 num, .int .i64 P.1, .int .i64 P.2]) (t := 33) (fr := (0, 0)) (heap_alloc_new W _)
theorem tok_one (kind : Int) (t : ByteArray) (num : Int) (P : Int × Int) : ∀ u ∈ tokC kind t num P, u.oneCell' = true := by simp [tokC, Value.oneCell']
theorem place1 (w : World) : Blk ((w.alloc (.cells #[.int .i64 0, .int .i64 0] 25)).alloc (.cells #[.int .i64 1, .int .i64 1] 25)) (w.heap.size + 1) #[.int .i64 1, .int .i64 1] 25 := by
  have h := Blk.new (w.alloc (.cells #[.int .i64 0, .int .i64 0] 25)) #[.int .i64 1, .int .i64 1] 25
  rw [World.size_alloc] at h
  exact h
/-- The document's loop at its head: byte n is read, P its place, v the list. -/
structure RInv (w wr : World) (s : ByteArray) (n : Nat) (P : Int × Int) (v : Value) (l : List Tk) (f : Nat) : Prop where
  rel : LexRel s f (ptE s s.size n false) (mvE s (ptE s s.size n false) s.size n P) l
  own : wr.ownsRow (w.heap.size + 2) 33 5 v l.length (cellsOf l)
  place : Blk wr (w.heap.size + 1) #[.int .i64 P.1, .int .i64 P.2] 25
  res : Blk wr w.heap.size #[.int .i64 0, .int .i64 0] 25
  bel : Below w.heap.size w wr
  le : n ≤ s.size
  h1 : 1 ≤ P.1
  h2 : 1 ≤ P.2
  h3 : P.1 ≤ n + 1
  h4 : P.2 ≤ n + 1

set_option maxRecDepth 100000 in
set_option maxHeartbeats 4000000 in
theorem rtokens_good (s : ByteArray) (w : World) (hs : s.size ≤ 140737488351232) (hc : (chkAll s).2 = 0) : Calls Tryd.prog 10 #[.string s] w (Lexed w (lexV s)) := by
  obtain ⟨i0, hi0, hz0, hz1, hz2⟩ := info_parts info_tok
  have hck := fun w => refcheck_any s w (by omega)
  have hs2 : s.size ≤ 65536 := by
    by_cases h : 65536 < s.size
    · unfold chkAll at hc; rw [if_pos h] at hc; simp at hc
    · omega
  have HR := Lib.hid (LexRel.start hc)
  obtain ⟨V, hV⟩ : ∃ V, lexV s = V := ⟨_, rfl⟩
  rw [hV]
  have HV := Lib.hid hV; clear hV
  obtain ⟨c, hcc⟩ : ∃ c, chkAll s = c := ⟨_, rfl⟩
  rw [hcc] at hck hc
  clear hcc
  obtain ⟨n, e⟩ := c
  simp only at hc
  subst hc
  have HC := Lib.hid hck; clear hck
  have HSK := Lib.hid (fun n w (h : n ≤ s.size) => rskip_any s n w hs2 h)
  have HI0 := Lib.hid hi0; clear hi0
  have HZ0 := Lib.hid hz0; clear hz0
  have HZ1 := Lib.hid hz1; clear hz1
  have HZ2 := Lib.hid hz2; clear hz2
  go_enter Tryd.func10, Tryd.ntmps10
  go_wp2_with (go_at_call 22; refine (HC.out _).mono ?_; rintro e w1 ⟨rfl, rfl⟩)
  go_loopw [7, 9] (fun x y wr => ∃ n P l f, y = .int .i64 (n : Nat) ∧ RInv w wr s n P x l f) (fun _ y _ => s.size - (intOf y).toNat)
  case atStart => exact ⟨0, (1, 1), [], _, rfl, HR.out, owns_nil _ _ _ _, place1 w, (Blk.new w _ _).alloc _, ((Below.refl _ w).alloc (Nat.le_refl _) _).alloc (by simp) _, by omega, by simp, by simp, by simp, by simp⟩
  case round =>
    clear HR HC
    obtain ⟨n, P, l, f, rfl, hI⟩ := hrel
    have hle := hI.le
    have hb := ptE_bounds s s.size n false hI.le
    have hmb := mvE_bounds s (ptE s s.size n false) s.size n n P hI.h1 hI.h2 hI.h3 hI.h4 (Nat.le_refl _) hb.1
    have hrl := hI.rel
    have hsk := HSK.out n
    have hmv := fun w => rmoved_any s P n (ptE s s.size n false) w hs2 hb.1 hb.2 hI.h1 hI.h2 hI.h3 hI.h4
    obtain ⟨b, hbn⟩ : ∃ b, ptE s s.size n false = b := ⟨_, rfl⟩
    rw [hbn] at hb hmb hrl hsk hmv
    clear hbn
    obtain ⟨Q, hQ⟩ : ∃ Q, mvE s b s.size n P = Q := ⟨_, rfl⟩
    rw [hQ] at hmb hrl hmv
    clear hQ
    have HRL := Lib.hid hrl; clear hrl
    have HS := Lib.hid hsk; clear hsk
    have HM := Lib.hid hmv; clear hmv
    obtain ⟨P1, P2⟩ := P
    obtain ⟨Q1, Q2⟩ := Q
    obtain ⟨va, vc, rfl⟩ := ownsRow_shape hI.own
    have c0 : wr.cell? ⟨w.heap.size + 1, 0, none⟩ = some (.int .i64 P1) := hI.place.cell 0
    have c1 : wr.cell? ⟨w.heap.size + 1, 1, none⟩ = some (.int .i64 P2) := hI.place.cell 1
    have hlt := hI.place.lt
    have H := Lib.hid hI; clear hI
    go_wp2_with (first | (go_at_call 24; refine (HS.out _ hle).mono ?_; rintro e w1 ⟨rfl, rfl⟩) | fail)
    refine (HM.out _).mono ?_
    rintro e w1 ⟨rfl, hb1⟩
    have bP := H.out.place.below hb1 hlt
    have f0 := bP.free 0
    have f1 := bP.free 1
    have d0 := bP.cell 0
    have d1 := bP.cell 1
    simp at d0 d1
    have bQ := (bP.set 0 (.int .i64 Q1)).set 1 (.int .i64 Q2)
    have bR := H.out.res.below hb1 (by omega)
    have bR2 := (bR.other (a := ⟨w.heap.size + 1, 0, none⟩) (by simp) (.int .i64 Q1)).other (a := ⟨w.heap.size + 1, 1, none⟩) (by simp) (.int .i64 Q2)
    have hO2 := ownsRow_setCell_below (ownsRow_setCell_below (ownsRow_above H.out.own (above_of_below hb1 (w.heap.size + 2)) (Nat.le_refl _)) (a := ⟨w.heap.size + 1, 0, none⟩) (by simp) (.int .i64 Q1)) (a := ⟨w.heap.size + 1, 1, none⟩) (by simp) (.int .i64 Q2)
    have hB2 := ((H.out.bel.trans (hb1.mono (by omega))).setCell (p := ⟨w.heap.size + 1, 0, none⟩) (by simp) (.int .i64 Q1)).setCell (p := ⟨w.heap.size + 1, 1, none⟩) (by simp) (.int .i64 Q2)
    clear bP bR
    have hown1 : (Value.slice va l.length vc).ownBlock ≠ some w.heap.size := fun h => by have := (hO2.lt _ h).1; omega
    have hown2 : (Value.slice va l.length vc).ownBlock ≠ some (w.heap.size + 1) := fun h => by have := (hO2.lt _ h).1; omega
    by_cases hp : b < s.size
    · have hp2 : ¬ s.size ≤ b := by omega
      by_cases hk : l.length = 32768
      · have hk2 : ((l.length : Int) == 32768) = true := by simp [hk]
        have hV2 := HRL.out.bad hp (show tokT s b l.length = (23, 0, 0, 0) by unfold tokT; rw [if_pos hk]) (by decide)
        rw [HV.out] at hV2
        simp only at hV2
        have HVV := Lib.hid hV2; clear hV2 hk
        have e0 := bR2.cell 0
        have e1 := bR2.cell 1
        have g0 := bR2.free 0
        have g1 := bR2.free 1
        have x0 := bQ.cell 0
        have x1 := bQ.cell 1
        simp only [List.getElem?_toArray] at e0 e1 x0 x1
        obtain ⟨W1, hW1⟩ : ∃ W1, (w1.setCell ⟨w.heap.size + 1, 0, none⟩ (.int .i64 Q1)).setCell ⟨w.heap.size + 1, 1, none⟩ (.int .i64 Q2) = W1 := ⟨_, rfl⟩
        rw [hW1] at e0 e1 g0 g1 x0 x1 bQ bR2 hO2 hB2
        have HW := Lib.hid hW1; clear hW1
        go_wp2_with fail
        rw [HW.out]
        clear HW f0 f1 d0 d1
        go_region
        go_wp2
        have bR6 : Blk ((W1.setCell ⟨w.heap.size, 0, none⟩ (.int .i64 Q1)).setCell ⟨w.heap.size, 1, none⟩ (.int .i64 Q2)).drew w.heap.size _ _ := (bR2.set 0 (.int .i64 Q1)).set 1 (.int .i64 Q2)
        have hb6 : Below w.heap.size w ((W1.setCell ⟨w.heap.size, 0, none⟩ (.int .i64 Q1)).setCell ⟨w.heap.size, 1, none⟩ (.int .i64 Q2)).drew := ((hB2.setCell (by simp) _).setCell (by simp) _).drew
        obtain ⟨W, hW⟩ : ∃ W, ((W1.setCell ⟨w.heap.size, 0, none⟩ (.int .i64 Q1)).setCell ⟨w.heap.size, 1, none⟩ (.int .i64 Q2)).drew = W := ⟨_, rfl⟩
        rw [hW] at bR6 hb6 ⊢
        have q0 : W.cell? ⟨w.heap.size, 0, none⟩ = some (.int .i64 Q1) := bR6.cell 0
        have q1 : W.cell? ⟨w.heap.size, 1, none⟩ = some (.int .i64 Q2) := bR6.cell 1
        rw [HVV.out]
        exact bodyPost_ret (v := .tuple #[.slice none 0 0, .agg #[.int .i64 Q1, .int .i64 Q2], .int .i64 23]) (by simp [results, Tryd.results10, go_sem, q0, q1]) rfl ⟨_, rfl, owns_nil _ _ _ _, hb6⟩
      · have hk2 : ((l.length : Int) == 32768) = false := by rw [beq_eq_false_iff_ne]; omega
        have hto : tokT s b l.length = oneT s b := by unfold tokT; rw [if_neg hk]
        have hone := fun w => rone_any s b w hs2 hp
        obtain ⟨o, ho⟩ : ∃ o, oneT s b = o := ⟨_, rfl⟩
        rw [ho] at hone hto
        clear ho
        have HO := Lib.hid hto; clear hto hk
        by_cases he : o.1 = 0
        · have HX := Lib.hid (HRL.out.next hp HO.out he)
          obtain ⟨oe, on, okd, om⟩ := o
          simp only at he HX
          subst he
          have hbo : b ≤ on := Nat.le_of_lt HX.out.1
          have hos := HX.out.2.1
          have HMV := Lib.hid (fun w => rmoved_any s (Q1, Q2) b on w hs2 hbo hos hmb.1 hmb.2.1 hmb.2.2.1 hmb.2.2.2)
          have hmb2 := mvE_bounds s on s.size b b (Q1, Q2) hmb.1 hmb.2.1 hmb.2.2.1 hmb.2.2.2 (Nat.le_refl _) hbo
          obtain ⟨R, hR⟩ : ∃ R, mvE s on s.size b (Q1, Q2) = R := ⟨_, rfl⟩
          rw [hR] at HMV HX hmb2
          clear hR
          have hone2 : ∀ w, Calls Tryd.prog 26 #[.string s, .int .i64 b] w fun e w' => e = .returned (okV okd (s.extract b on) om on) ∧ Below w.heap.size w w' := hone
          unfold okV at hone2
          have HN := Lib.hid hone2; clear hone2 hone HO
          obtain ⟨tx, htx⟩ : ∃ tx, s.extract b on = tx := ⟨_, rfl⟩
          rw [htx] at HN HX
          clear htx
          obtain ⟨R1, R2⟩ := R
          go_wp2_with fail
          obtain ⟨W1, hW1⟩ : ∃ W1, (w1.setCell ⟨w.heap.size + 1, 0, none⟩ (.int .i64 Q1)).setCell ⟨w.heap.size + 1, 1, none⟩ (.int .i64 Q2) = W1 := ⟨_, rfl⟩
          rw [hW1] at bQ bR2 hO2 hB2 ⊢
          clear hW1 f0 f1 d0 d1 hb1
          refine (HN.out _).mono ?_
          rintro e w3 ⟨rfl, hb3⟩
          have bR3 := bR2.below hb3 bR2.lt
          have bQ3 := bQ.below hb3 bQ.lt
          have hz3 : w.heap.size + 1 < w3.heap.size := bQ3.lt
          have hO3 := ownsRow_above hO2 (above_of_below hb3 (w.heap.size + 2)) (Nat.le_refl _)
          have hB3 := hB2.trans (hb3.mono (by have := bQ.lt; omega))
          have x0 := bQ3.cell 0
          have x1 := bQ3.cell 1
          have y0 := bQ3.free 0
          have y1 := bQ3.free 1
          simp at x0 x1
          have hne3 : w.heap.size ≠ w3.heap.size := by omega
          have hne4 : w.heap.size + 1 ≠ w3.heap.size := by omega
          have hne5 : w3.heap.size ≠ w.heap.size + 1 := by omega
          clear bR2 bQ hO2 hB2 hb3
          have hN := news_tok (w3.alloc (.cells #[.int .i64 okd, .string tx, .int .i64 om, .int .i64 Q1, .int .i64 Q2] 33)) okd tx om (Q1, Q2) (w3.heap.size + 1) (by simp)
          have hS : w.heap.size + 2 ≤ ((w3.alloc (.cells #[.int .i64 okd, .string tx, .int .i64 om, .int .i64 Q1, .int .i64 Q2] 33)).alloc (.cells #[.int .i64 okd, .string tx, .int .i64 om, .int .i64 Q1, .int .i64 Q2] 33)).heap.size := by simp; omega
          have HNW := Lib.hid hN; clear hN
          have HSZ := Lib.hid hS; clear hS
          have HLN := HX.out.2.2.1
          have hl1 : l.length + 1 ≤ maxLen := by unfold maxLen; omega
          go_wp2_with (first | (at_builtin; (with_reducible refine wpList_append_lies _ rfl (.tmp 65) (.tmp 67) 23 rfl (w.heap.size + 2) 33 i0 _ 5 48 Tryd.underlying23 HI0.out HZ0.out HZ1.out HZ2.out rfl (by omega) _ l.length (cellsOf l) rfl ((hO3.alloc _).alloc _) ⟨_, 0, none⟩ 1 1 (tokC okd tx om (Q1, Q2)) rfl rfl HNW.out (tok_one _ _ _ _) (by omega) hl1 (by omega) HSZ.out _ rfl ?_); (intro gg cap w4 hown4 hgrow hat hlt2; have bR4 := blk_grown ((bR3.alloc _).alloc _) hgrow hown1; have bQ4 := blk_grown ((bQ3.alloc _).alloc _) hgrow hown2; have z0 := bQ4.cell 0; have z1 := bQ4.cell 1; simp at z0 z1)) | fail)
          refine (HMV.out _).mono ?_
          rintro e w6 ⟨rfl, hb6⟩
          have bR6 := bR4.below hb6 bR4.lt
          have bQ6 := bQ4.below hb6 bQ4.lt
          have u0 := bQ6.cell 0
          have u1 := bQ6.cell 1
          have v0 := bQ6.free 0
          have v1 := bQ6.free 1
          simp at u0 u1
          have hO6 := ownsRow_setCell_below (ownsRow_setCell_below (ownsRow_above hown4 (above_of_below hb6 (w.heap.size + 2)) (Nat.le_refl _)) (a := ⟨w.heap.size + 1, 0, none⟩) (by simp) (.int .i64 R1)) (a := ⟨w.heap.size + 1, 1, none⟩) (by simp) (.int .i64 R2)
          have hB6 := (((((hB3.alloc (by omega) _).alloc (by simp; omega) _).grown hgrow (by simp; omega) (fun r hr => by have := (hO3.lt r hr).1; omega)).trans (hb6.mono (by have := bR4.lt; omega))).setCell (p := ⟨w.heap.size + 1, 0, none⟩) (by simp) (.int .i64 R1)).setCell (p := ⟨w.heap.size + 1, 1, none⟩) (by simp) (.int .i64 R2)
          have bR7 := (bR6.other (a := ⟨w.heap.size + 1, 0, none⟩) (by simp) (.int .i64 R1)).other (a := ⟨w.heap.size + 1, 1, none⟩) (by simp) (.int .i64 R2)
          have bQ7 := (bQ6.set 0 (.int .i64 R1)).set 1 (.int .i64 R2)
          obtain ⟨_, _, _, _, f', hrel'⟩ := HX.out
          have hI6 : RInv w ((w6.setCell ⟨w.heap.size + 1, 0, none⟩ (.int .i64 R1)).setCell ⟨w.heap.size + 1, 1, none⟩ (.int .i64 R2)) s on (R1, R2) (.slice (some ⟨gg, 0, none⟩) (l.length + 1) cap) (l ++ [⟨okd, tx, om, (Q1, Q2)⟩]) f' :=
            ⟨hrel', by simp only [List.length_append, List.length_cons, List.length_nil]; rw [cellsOf_snoc]; exact hO6, bQ7, bR7, hB6, hos, hmb2.1, hmb2.2.1, hmb2.2.2.1, hmb2.2.2.2⟩
          have HI6 := Lib.hid hI6; clear hI6 hrel' bQ7 bR7 hB6 hO6
          go_wp2
          go_roundw
          case rel => exact ⟨on, (R1, R2), _, _, rfl, HI6.out⟩
          case measure => simp [intOf]; have := HX.out.1; omega
        · have hV2 := HRL.out.bad hp HO.out he
          obtain ⟨oe, on, okd, om⟩ := o
          simp only at he hV2
          rw [HV.out] at hV2
          have HVV := Lib.hid hV2; clear hV2
          have hone2 : ∀ w, Calls Tryd.prog 26 #[.string s, .int .i64 b] w fun e w' => e = .returned (badV oe) ∧ Below w.heap.size w w' := fun w => by
            have := hone w
            unfold oneV at this
            rw [if_neg he] at this
            exact this
          unfold badV at hone2
          have HN := Lib.hid hone2; clear hone2 hone
          have ne0 : (oe != 0) = true := by simpa using he
          clear he HO
          go_wp2_with fail
          obtain ⟨W1, hW1⟩ : ∃ W1, (w1.setCell ⟨w.heap.size + 1, 0, none⟩ (.int .i64 Q1)).setCell ⟨w.heap.size + 1, 1, none⟩ (.int .i64 Q2) = W1 := ⟨_, rfl⟩
          rw [hW1] at bQ bR2 hO2 hB2 ⊢
          clear hW1 f0 f1 d0 d1 hb1
          refine (HN.out _).mono ?_
          rintro e w3 ⟨rfl, hb3⟩
          have bR3 := bR2.below hb3 bR2.lt
          have bQ3 := bQ.below hb3 bQ.lt
          have hz3 : w.heap.size + 1 < w3.heap.size := bQ3.lt
          have bR4 := bR3.alloc (.cells #[.int .i64 0, .string ⟨#[]⟩, .int .i64 0, .int .i64 0, .int .i64 0] 33)
          have e0 := bR3.cell 0
          have e1 := bR3.cell 1
          have g0 := bR3.free 0
          have g1 := bR3.free 1
          have x0 := bQ3.cell 0
          have x1 := bQ3.cell 1
          simp only [List.getElem?_toArray] at e0 e1
          simp at x0 x1
          have hne3 : w.heap.size ≠ w3.heap.size := by omega
          have hne4 : w.heap.size + 1 ≠ w3.heap.size := by omega
          go_wp2_with fail
          have bQ4 := bQ3.alloc (.cells #[.int .i64 0, .string ⟨#[]⟩, .int .i64 0, .int .i64 0, .int .i64 0] 33)
          have hB4 := (hB2.trans (hb3.mono (by have := bQ.lt; omega))).alloc (by omega) (.cells #[.int .i64 0, .string ⟨#[]⟩, .int .i64 0, .int .i64 0, .int .i64 0] 33)
          obtain ⟨W4, hW4⟩ : ∃ W4, w3.alloc (.cells #[.int .i64 0, .string ⟨#[]⟩, .int .i64 0, .int .i64 0, .int .i64 0] 33) = W4 := ⟨_, rfl⟩
          rw [hW4] at bR4 bQ4 hB4 ⊢
          clear hW4 e0 e1 g0 g1 x0 x1
          have e0 := bR4.cell 0
          have e1 := bR4.cell 1
          have g0 := bR4.free 0
          have g1 := bR4.free 1
          have x0 := bQ4.cell 0
          have x1 := bQ4.cell 1
          simp only [List.getElem?_toArray] at e0 e1
          simp at x0 x1
          have HBQ := Lib.hid bQ4; clear bQ4
          go_region
          go_wp2
          have bR6 : Blk ((W4.setCell ⟨w.heap.size, 0, none⟩ (.int .i64 Q1)).setCell ⟨w.heap.size, 1, none⟩ (.int .i64 Q2)).drew w.heap.size _ _ := (bR4.set 0 (.int .i64 Q1)).set 1 (.int .i64 Q2)
          have hb6 : Below w.heap.size w ((W4.setCell ⟨w.heap.size, 0, none⟩ (.int .i64 Q1)).setCell ⟨w.heap.size, 1, none⟩ (.int .i64 Q2)).drew := ((hB4.setCell (by simp) _).setCell (by simp) _).drew
          obtain ⟨W, hW⟩ : ∃ W, ((W4.setCell ⟨w.heap.size, 0, none⟩ (.int .i64 Q1)).setCell ⟨w.heap.size, 1, none⟩ (.int .i64 Q2)).drew = W := ⟨_, rfl⟩
          rw [hW] at bR6 hb6 ⊢
          have q0 : W.cell? ⟨w.heap.size, 0, none⟩ = some (.int .i64 Q1) := bR6.cell 0
          have q1 : W.cell? ⟨w.heap.size, 1, none⟩ = some (.int .i64 Q2) := bR6.cell 1
          rw [HVV.out]
          exact bodyPost_ret (v := .tuple #[.slice none 0 0, .agg #[.int .i64 Q1, .int .i64 Q2], .int .i64 oe]) (by simp [results, Tryd.results10, go_sem, q0, q1]) rfl ⟨_, rfl, owns_nil _ _ _ _, hb6⟩
    · have hp2 : s.size ≤ b := by omega
      have hD := HRL.out.done hp
      rw [HV.out, show s.extract b b = ⟨#[]⟩ by simp; rfl] at hD
      have HD := Lib.hid hD; clear hD
      have hN := news_tok ((w1.setCell ⟨w.heap.size + 1, 0, none⟩ (.int .i64 Q1)).setCell ⟨w.heap.size + 1, 1, none⟩ (.int .i64 Q2)) 5 ⟨#[]⟩ 0 (Q1, Q2) w1.heap.size (by simp)
      have hS : w.heap.size + 2 ≤ (((w1.setCell ⟨w.heap.size + 1, 0, none⟩ (.int .i64 Q1)).setCell ⟨w.heap.size + 1, 1, none⟩ (.int .i64 Q2)).alloc (.cells #[.int .i64 5, .string ⟨#[]⟩, .int .i64 0, .int .i64 Q1, .int .i64 Q2] 33)).heap.size := by have := hb1.size; simp; omega
      have HN := Lib.hid hN; clear hN
      have HSZ := Lib.hid hS; clear hS
      have HLN := HRL.out.len
      have hl1 : l.length + 1 ≤ maxLen := by unfold maxLen; omega
      go_wp2_with (at_builtin; (with_reducible refine wpList_append_lies _ rfl (.tmp 42) (.tmp 45) 23 rfl (w.heap.size + 2) 33 i0 _ 5 48 Tryd.underlying23 HI0.out HZ0.out HZ1.out HZ2.out rfl (by omega) _ l.length (cellsOf l) rfl (hO2.alloc _) ⟨_, 0, none⟩ 1 1 (tokC 5 ⟨#[]⟩ 0 (Q1, Q2)) rfl rfl HN.out (tok_one _ _ _ _) (by omega) hl1 (by omega) HSZ.out _ rfl ?_); (intro gg cap w2 hown3 hgrow hat hlt2; have bR3 := blk_grown (bR2.alloc _) hgrow hown1; have e0 := bR3.cell 0; have e1 := bR3.cell 1; have g0 := bR3.free 0; have g1 := bR3.free 1; simp only [List.getElem?_toArray] at e0 e1))
      have bR4 := (bR3.set 0 (.int .i64 0)).set 1 (.int .i64 0)
      have hB3 := ((((hB2.alloc (by have := hb1.size; simp; omega) _).grown hgrow (by have := hb1.size; simp; omega) (fun r hr => by have := (hO2.lt r hr).1; omega)).setCell (p := ⟨w.heap.size, 0, none⟩) (by simp) (.int .i64 0)).setCell (p := ⟨w.heap.size, 1, none⟩) (by simp) (.int .i64 0))
      have ho3 := (ownsRow_setCell_below (ownsRow_setCell_below hown3 (a := ⟨w.heap.size, 0, none⟩) (by simp) (.int .i64 0)) (a := ⟨w.heap.size, 1, none⟩) (by simp) (.int .i64 0)).mono (base' := w.heap.size) (by omega)
      obtain ⟨W, hW⟩ : ∃ W, (w2.setCell ⟨w.heap.size, 0, none⟩ (.int .i64 0)).setCell ⟨w.heap.size, 1, none⟩ (.int .i64 0) = W := ⟨_, rfl⟩
      rw [hW] at bR4 hB3 ho3 ⊢
      have q0 : W.cell? ⟨w.heap.size, 0, none⟩ = some (.int .i64 0) := bR4.cell 0
      have q1 : W.cell? ⟨w.heap.size, 1, none⟩ = some (.int .i64 0) := bR4.cell 1
      rw [HD.out]
      exact bodyPost_ret (v := .tuple #[.slice (some ⟨gg, 0, none⟩) (l.length + 1) cap, .agg #[.int .i64 0, .int .i64 0], .int .i64 0]) (by simp [results, Tryd.results10, go_sem, q0, q1]) rfl ⟨_, rfl, by simp only [List.length_append, List.length_cons, List.length_nil]; rw [cellsOf_snoc]; exact ho3, hB3⟩

theorem rtokens_any (s : ByteArray) (w : World) (hs : s.size ≤ 140737488351232) : Calls Tryd.prog 10 #[.string s] w (Lexed w (lexV s)) := by
  by_cases hc : (chkAll s).2 = 0
  · exact rtokens_good s w hs hc
  · exact rtokens_bad s w hs hc
end Go.Proofs.YtifgmkenfmmelaaDoor
