/-
  lex.Tokens: proved is what it answers for every text: the tokens of 'lexV' with their places, or the first fault and its place; nothing that lay is turned.
  Condition: Go's tables of package unicode/utf8 and the two errors of package strconv hold what their text lays ('Env').
-/
import Derived.Test.YtifgmkenfmmelaaDoorLexL
import Derived.Test.YtifgmkenfmmelaaDoorCheck
import Derived.Deep.Onto
namespace Go.Proofs.YtifgmkenfmmelaaDoor
open Go Go.RowKit

/-- What Tokens has left. -/
def Lexed (w : World) (o : Int × (Int × Int) × List Tk) (e : Ending) (w' : World) : Prop :=
  ∃ v, e = .returned (.tuple #[v, .agg #[.int .i64 o.2.1.1, .int .i64 o.2.1.2], .int .i64 o.1]) ∧ w'.ownsRow w.heap.size 33 5 v o.2.2.length (cellsOf o.2.2) ∧ Below w.heap.size w w'
theorem owns_nil (w : World) (base : Nat) (e : TypeId) (size : Nat) : w.ownsRow base e size (.slice none 0 0) 0 [] := ⟨by simp, .inl ⟨rfl, rfl⟩⟩

/-- How much of its text a reader has before it. -/
def restN (w : World) (B : Nat) : Nat := match w.cell? ⟨B, 0, none⟩ with
  | some (.string t) => t.size
  | _ => 0
theorem restN_of {w : World} {B : Nat} {s : ByteArray} {a : Nat} {P : Int × Int} {v : Value} {k : Nat} {xs : List Value} (h : Rs w B s a P v k xs) : restN w B = s.size - a := by
  unfold restN; rw [h.cell]; simp

set_option maxRecDepth 100000 in
set_option maxHeartbeats 4000000 in
theorem tokens_bad (s : ByteArray) (w : World) (hs : s.size ≤ 140737488351232) (hE : Env w) (hc : (chkAll s).2 ≠ 0) : Calls Tryd.prog 9 #[.string s] w (Lexed w (lexV s)) := by
  have hV : lexV s = ((chkAll s).2, atV s (chkAll s).1, []) := by unfold lexV; rw [if_neg hc]
  have hck := fun w hT => check_any s w (by unfold maxLen; omega) hT
  rw [hV]
  have hat := fun w => at_any s (chkAll s).1 w (by omega)
  obtain ⟨p, hp⟩ : ∃ p, atV s (chkAll s).1 = p := ⟨_, rfl⟩
  rw [hp] at hat ⊢
  clear hV hp
  obtain ⟨c, hcc⟩ : ∃ c, chkAll s = c := ⟨_, rfl⟩
  rw [hcc] at hck hat hc ⊢
  clear hcc
  obtain ⟨n, e⟩ := c
  have HC := Lib.hid hck; clear hck
  have HA := Lib.hid hat; clear hat
  obtain ⟨p1, p2⟩ := p
  simp only at hc
  have hT := hE.tabs
  have hE1 : Env (w.alloc (.cells #[.int .i64 0, .int .i64 0] 25)) := hE.later ((Below.refl _ _).alloc (Nat.le_refl _) _)
  have HE := Lib.hid hE1; clear hE1 hE hT
  go_enter Tryd.func9, Tryd.ntmps9
  go_wp2_with (first | (go_at_call 17; (with_reducible refine (HC.out _ HE.out.tabs).mono ?_); rintro e w1 ⟨rfl, hb1⟩; have bR := (Blk.new w #[.int .i64 0, .int .i64 0] 25).below hb1 (by simp)) | (go_at_call 18; (with_reducible refine (HA.out _).mono ?_); rintro e w2 ⟨rfl, hb2⟩; have bR2 := bR.below hb2 bR.lt; have f0 := bR2.free 0; have f1 := bR2.free 1; have c0 := bR2.cell 0; have c1 := bR2.cell 1; simp at c0 c1))
  have bR3 := (bR2.set 0 (.int .i64 p1)).set 1 (.int .i64 p2)
  have hbb : Below w.heap.size w ((w2.setCell ⟨w.heap.size, 0, none⟩ (.int .i64 p1)).setCell ⟨w.heap.size, 1, none⟩ (.int .i64 p2)) :=
    (((((Below.refl _ w).alloc (Nat.le_refl _) _).trans (hb1.mono (by simp))).trans (hb2.mono (by have := hb1.size; simp at this; omega))).setCell (by simp) _).setCell (by simp) _
  obtain ⟨W, hW⟩ : ∃ W, (w2.setCell ⟨w.heap.size, 0, none⟩ (.int .i64 p1)).setCell ⟨w.heap.size, 1, none⟩ (.int .i64 p2) = W := ⟨_, rfl⟩
  rw [hW] at bR3 hbb ⊢
  have q0 : W.cell? ⟨w.heap.size, 0, none⟩ = some (.int .i64 p1) := bR3.cell 0
  have q1 : W.cell? ⟨w.heap.size, 1, none⟩ = some (.int .i64 p2) := bR3.cell 1
  exact bodyPost_ret (v := .tuple #[.slice none 0 0, .agg #[.int .i64 p1, .int .i64 p2], .int .i64 e]) (by simp [results, Tryd.results9, go_sem, q0, q1]) rfl ⟨_, rfl, owns_nil _ _ _ _, hbb⟩

theorem ext0 (s : ByteArray) : s.extract 0 s.size = s := by simp
theorem ext_ne (s : ByteArray) (b : Nat) (h : b < s.size) : ((s.extract b s.size).toList == []) = false := by
  rw [Lib.toList_data, beq_eq_false_iff_ne]
  intro e
  have := congrArg List.length e
  simp at this
  omega
theorem ext_nil (s : ByteArray) (b : Nat) (h : ¬ b < s.size) : ((s.extract b s.size).toList == []) = true := by
  rw [Lib.toList_data, beq_iff_eq]
  apply List.eq_nil_of_length_eq_zero
  simp
  omega
/-- The reader at the head of the loop, and what the call's own result cell holds. -/
structure TokInv (w wr : World) (B : Nat) (s : ByteArray) (b : Nat) (Q : Int × Int) (v : Value) (l : List Tk) (f : Nat) : Prop where
  rs : Rs wr B s b Q v l.length (cellsOf l)
  rel : LexRel s f b Q l
  res : Blk wr w.heap.size #[.int .i64 0, .int .i64 0] 25
  lt : w.heap.size < B
  bel : Below w.heap.size w wr

set_option maxRecDepth 100000 in
set_option maxHeartbeats 4000000 in
theorem tokens_good (s : ByteArray) (w : World) (hs : s.size ≤ 140737488351232) (hE : Env w) (hc : (chkAll s).2 = 0) : Calls Tryd.prog 9 #[.string s] w (Lexed w (lexV s)) := by
  have hck := fun w hT => check_any s w (by unfold maxLen; omega) hT
  have hs2 : s.size ≤ 65536 := by
    by_cases h : 65536 < s.size
    · unfold chkAll at hc; rw [if_pos h] at hc; simp at hc
    · omega
  have HR := Lib.hid (LexRel.start hc)
  obtain ⟨V, hV⟩ : ∃ V, lexV s = V := ⟨_, rfl⟩
  rw [hV]
  have HV := Lib.hid hV; clear hV
  obtain ⟨c, hcc⟩ : ∃ c, chkAll s = c := ⟨_, rfl⟩
  rw [hcc] at hck hc
  clear hcc
  obtain ⟨n, e⟩ := c
  simp only at hc
  subst hc
  have hat := fun w => at_any s 0 w (by omega)
  have h1 : atV s 0 = (1, 1) := by
    have := atV_mvE s 0
    rw [mvE_done (by omega)] at this
    exact this
  rw [h1] at hat
  clear h1
  have HC := Lib.hid hck; clear hck
  have HA := Lib.hid hat; clear hat
  have hE1 : Env (w.alloc (.cells #[.int .i64 0, .int .i64 0] 25)) := hE.later ((Below.refl _ _).alloc (Nat.le_refl _) _)
  have HE := Lib.hid hE1; clear hE1
  have HE0 := Lib.hid hE; clear hE
  go_enter Tryd.func9, Tryd.ntmps9
  go_wp2_with (first | (go_at_call 17; (with_reducible refine (HC.out _ HE.out.tabs).mono ?_); rintro e w1 ⟨rfl, hb1⟩; have bR := (Blk.new w #[.int .i64 0, .int .i64 0] 25).below hb1 (by simp)) | (go_at_call 18; (with_reducible refine (HA.out _).mono ?_); rintro e w2 ⟨rfl, hb2⟩; have bR2 := bR.below hb2 bR.lt) | fail)
  have hz2 : w.heap.size < w2.heap.size := bR2.lt
  have hRs : Rs (w2.alloc (.cells #[.string s, .int .i64 1, .int .i64 1, .slice none 0 0] 43)) w2.heap.size s 0 (1, 1) (.slice none 0 0) 0 [] :=
    ⟨by unfold Rd; rw [ext0]; exact Blk.new w2 _ _, owns_nil _ _ _ _, hs2, by omega, by simp, by simp, by simp, by simp, by omega⟩
  have hB0 : Below w.heap.size w (w2.alloc (.cells #[.string s, .int .i64 1, .int .i64 1, .slice none 0 0] 43)) :=
    ((((Below.refl _ w).alloc (Nat.le_refl _) _).trans (hb1.mono (by simp))).trans (hb2.mono (by have := hb1.size; simp at this; omega))).alloc (by omega) _
  have bR3 := bR2.alloc (.cells #[.string s, .int .i64 1, .int .i64 1, .slice none 0 0] 43)
  obtain ⟨B, hB⟩ : ∃ B, w2.heap.size = B := ⟨_, rfl⟩
  rw [hB] at hRs hz2 ⊢
  obtain ⟨W0, hW0⟩ : ∃ W0, w2.alloc (.cells #[.string s, .int .i64 1, .int .i64 1, .slice none 0 0] 43) = W0 := ⟨_, rfl⟩
  rw [hW0] at hRs hB0 bR3 ⊢
  clear hW0 hB bR2 bR hb2 hb1 HE HA HC
  refine (skip_any hRs).mono ?_
  rintro e w3 ⟨rfl, hr3, hb3⟩
  have hI : TokInv w w3 B s _ _ _ [] _ := ⟨hr3, HR.out, bR3.below hb3 hz2, hz2, hB0.trans (hb3.mono (by omega))⟩
  have HI := Lib.hid (⟨_, _, _, _, _, hI⟩ : ∃ b Q v l f, TokInv w w3 B s b Q v l f)
  clear hI hr3 hb3 bR3 hB0 hRs HR
  go_wp2_with fail
  go_loopw [8] (fun _ wr => ∃ b Q v l f, TokInv w wr B s b Q v l f) (fun _ wr => restN wr B)
  case atStart => exact HI.out
  case round =>
    clear HI
    obtain ⟨b, Q, v, l, f, hI⟩ := hrel
    have hlt := hI.rs.rd.lt
    have c0 := hI.rs.cell
    have H := Lib.hid hI; clear hI
    by_cases hp : b < s.size
    · have hne : ((s.extract b s.size).toList == []) = false := ext_ne s b hp
      have HM := Lib.hid (restN_of H.out.rs)
      go_wp2_with fail
      obtain ⟨o, ho⟩ : ∃ o, tokT s b l.length = o := ⟨_, rfl⟩
      have htok := token_any H.out.rs hp (HE0.out.later H.out.bel)
      rw [ho] at htok
      refine htok.mono ?_
      clear htok
      have HO := Lib.hid ho; clear ho
      rintro e w4 hr
      rcases hr with ⟨he, v', rfl, hr, hown, hbb⟩ | ⟨he, rfl, ⟨v', hr⟩, hbb⟩
      · have HX := Lib.hid (H.out.rel.next hp HO.out he)
        have R4 := Lib.hid (H.out.rs.moved (Nat.le_of_lt HX.out.1) HX.out.2.1 hr hown (by have := HX.out.2.2.1; omega))
        clear hr hown
        have HQ := Lib.hid he; clear he
        go_wp2_with fail
        refine (skip_any R4.out).mono ?_
        rintro e w5 ⟨rfl, hr5, hb5⟩
        obtain ⟨_, _, _, hpp, f', hrel'⟩ := HX.out
        have hI5 : TokInv w w5 B s _ _ _ (l ++ [⟨o.2.2.1, s.extract b o.2.1, o.2.2.2, Q⟩]) f' := ⟨by rw [cellsOf_snoc]; simpa using hr5, hrel', (H.out.res.below hbb H.out.lt).below hb5 H.out.lt, H.out.lt, H.out.bel.trans ((hbb.trans hb5).mono (by have := H.out.lt; omega))⟩
        have HI5 := Lib.hid hI5; clear hI5 hrel' hr5
        have HN := Lib.hid (restN_of HI5.out.rs)
        go_wp2_with fail
        go_roundw
        case rel => exact ⟨_, _, _, _, _, HI5.out⟩
        case measure => rw [HM.out, HN.out]; omega
      · have hV : V = (o.1, Q, []) := by rw [← HV.out]; exact H.out.rel.bad hp HO.out he
        obtain ⟨oe, on, ok, om⟩ := o
        simp only at he hV
        clear HO
        have HVV := Lib.hid hV; clear hV
        obtain ⟨Q1, Q2⟩ := Q
        have d1 : w4.cell? ⟨B, 1, none⟩ = some (.int .i64 Q1) := hr.cell 1
        have d2 : w4.cell? ⟨B, 2, none⟩ = some (.int .i64 Q2) := hr.cell 2
        have bR := H.out.res.below hbb H.out.lt
        have f0 := bR.free 0
        have f1 := bR.free 1
        have e0 : w4.cell? ⟨w.heap.size, 0, none⟩ = some (.int .i64 0) := bR.cell 0
        have e1 : w4.cell? ⟨w.heap.size, 1, none⟩ = some (.int .i64 0) := bR.cell 1
        have hne2 : w.heap.size ≠ B := by omega
        have hne3 : B ≠ w.heap.size := by omega
        have HR4 := Lib.hid bR; clear bR
        have HR5 := Lib.hid hr; clear hr
        go_wp2_with fail
        go_region
        go_wp2
        have bR6 : Blk ((w4.setCell ⟨w.heap.size, 0, none⟩ (.int .i64 Q1)).setCell ⟨w.heap.size, 1, none⟩ (.int .i64 Q2)).drew w.heap.size _ _ := (HR4.out.set 0 (.int .i64 Q1)).set 1 (.int .i64 Q2)
        have hb6 : Below w.heap.size w ((w4.setCell ⟨w.heap.size, 0, none⟩ (.int .i64 Q1)).setCell ⟨w.heap.size, 1, none⟩ (.int .i64 Q2)).drew := (((H.out.bel.trans (hbb.mono (by omega))).setCell (by simp) _).setCell (by simp) _).drew
        obtain ⟨W, hW⟩ : ∃ W, ((w4.setCell ⟨w.heap.size, 0, none⟩ (.int .i64 Q1)).setCell ⟨w.heap.size, 1, none⟩ (.int .i64 Q2)).drew = W := ⟨_, rfl⟩
        rw [hW] at bR6 hb6 ⊢
        have q0 : W.cell? ⟨w.heap.size, 0, none⟩ = some (.int .i64 Q1) := bR6.cell 0
        have q1 : W.cell? ⟨w.heap.size, 1, none⟩ = some (.int .i64 Q2) := bR6.cell 1
        rw [HVV.out]
        exact bodyPost_ret (v := .tuple #[.slice none 0 0, .agg #[.int .i64 Q1, .int .i64 Q2], .int .i64 oe]) (by simp [results, Tryd.results9, go_sem, q0, q1]) rfl ⟨_, rfl, owns_nil _ _ _ _, hb6⟩
    · have hne : ((s.extract b s.size).toList == []) = true := ext_nil s b hp
      have hV : V = (0, (0, 0), l ++ [⟨5, s.extract b b, 0, Q⟩]) := by rw [← HV.out]; exact H.out.rel.done hp
      have HVV := Lib.hid hV; clear hV
      have HT := Lib.hid (take_rs H.out.rs b 5 0 (Nat.le_refl _) H.out.rel.le)
      rw [Nat.sub_self] at HT
      go_wp2_with fail
      refine HT.out.mono ?_
      rintro e w4 ⟨v', rfl, hr, hown, hbb⟩
      have d3 : w4.cell? ⟨B, 3, none⟩ = some v' := hr.cell 3
      have bR := H.out.res.below hbb H.out.lt
      have f0 := bR.free 0
      have f1 := bR.free 1
      have e0 : w4.cell? ⟨w.heap.size, 0, none⟩ = some (.int .i64 0) := bR.cell 0
      have e1 : w4.cell? ⟨w.heap.size, 1, none⟩ = some (.int .i64 0) := bR.cell 1
      have hne2 : w.heap.size ≠ B := by omega
      have hne3 : B ≠ w.heap.size := by omega
      have HR4 := Lib.hid bR; clear bR
      have HR5 := Lib.hid hr; clear hr
      have HO5 := Lib.hid hown; clear hown
      go_wp2
      have bR6 : Blk ((w4.setCell ⟨w.heap.size, 0, none⟩ (.int .i64 0)).setCell ⟨w.heap.size, 1, none⟩ (.int .i64 0)) w.heap.size _ _ := (HR4.out.set 0 (.int .i64 0)).set 1 (.int .i64 0)
      have hb6 : Below w.heap.size w ((w4.setCell ⟨w.heap.size, 0, none⟩ (.int .i64 0)).setCell ⟨w.heap.size, 1, none⟩ (.int .i64 0)) := ((H.out.bel.trans (hbb.mono (by omega))).setCell (by simp) _).setCell (by simp) _
      have ho6 := (ownsRow_setCell_below (ownsRow_setCell_below HO5.out (a := ⟨w.heap.size, 0, none⟩) (by simp; omega) (.int .i64 0)) (a := ⟨w.heap.size, 1, none⟩) (by simp; omega) (.int .i64 0)).mono (base' := w.heap.size) (by omega)
      obtain ⟨W, hW⟩ : ∃ W, (w4.setCell ⟨w.heap.size, 0, none⟩ (.int .i64 0)).setCell ⟨w.heap.size, 1, none⟩ (.int .i64 0) = W := ⟨_, rfl⟩
      rw [hW] at bR6 hb6 ho6 ⊢
      have q0 : W.cell? ⟨w.heap.size, 0, none⟩ = some (.int .i64 0) := bR6.cell 0
      have q1 : W.cell? ⟨w.heap.size, 1, none⟩ = some (.int .i64 0) := bR6.cell 1
      rw [HVV.out]
      exact bodyPost_ret (v := .tuple #[v', .agg #[.int .i64 0, .int .i64 0], .int .i64 0]) (by simp [results, Tryd.results9, go_sem, q0, q1]) rfl ⟨_, rfl, by simp only [List.length_append, List.length_cons, List.length_nil]; rw [cellsOf_snoc]; exact ho6, hb6⟩

theorem tokens_any (s : ByteArray) (w : World) (hs : s.size ≤ 140737488351232) (hE : Env w) : Calls Tryd.prog 9 #[.string s] w (Lexed w (lexV s)) := by
  by_cases hc : (chkAll s).2 = 0
  · exact tokens_good s w hs hE hc
  · exact tokens_bad s w hs hE hc
end Go.Proofs.YtifgmkenfmmelaaDoor
