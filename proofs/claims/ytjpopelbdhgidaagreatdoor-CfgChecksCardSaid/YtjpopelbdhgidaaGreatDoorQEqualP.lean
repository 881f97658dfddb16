/-
  The project's Equal of two programs (tree's): proved is that it answers whether both are gone through to their end and their nodes have the same labels, and that it turns nothing that lay.
-/
import Derived.Test.YtjpopelbdhgidaaGreatDoorQFormD
import Derived.Test.YtjpopelbdhgidaaGreatDoorQPlainE
import Derived.Test.YtjpopelbdhgidaaGreatDoorQWellP
import Derived.BigQuiet
import Derived.Test.YtjpopelbdhgidaaGreatDoorQWellM
import Derived.Deep.RegionHeld3
/-
  The document's form of a statement (gnomonref3's form.stmt): proved is what it leaves in the form's two cells.
-/
namespace Go.Proofs.YtjpopelbdhgidaaGreatDoor
open Go Go.RowKit

end Go.Proofs.YtjpopelbdhgidaaGreatDoor

/-
  Plain: no declaration is within an expression, a condition or a statement that lies in memory.
-/
namespace Go.Proofs.YtjpopelbdhgidaaGreatDoor
open Go Go.RowKit

theorem noD_sl {w : World} {ty : Ty} {l : List Nd} {v : Value} (hL : ∀ b o, RowIn w ty l b o → ∀ y ∈ allL l, y.ty ≠ .D) (h : SlOf l.length (fun b o => RowIn w ty l b o) v) : ∀ y ∈ allL l, y.ty ≠ .D := by
  obtain ⟨a, c, _, _, _, h0 | ⟨b, o, _, hr⟩⟩ := h
  · obtain rfl := List.eq_nil_of_length_eq_zero h0
    intro y hy
    unfold allL at hy
    cases hy
  · exact hL b o hr
mutual
theorem noD_N (w : World) : ∀ (x : Nd) (vs : List Value), NdIn w x vs → x.ty ≠ .D → ∀ y ∈ allN x, y.ty ≠ .D
  | .mk ty k n nm xs cs ts es, vs, h, hty => by
    unfold NdIn at h
    obtain ⟨_, _, _, _, vx, vc, vt, ve, _, hx, hc, ht, he⟩ := h
    have h1 := noD_sl (noD_L w .E xs (by decide)) hx
    have h2 := noD_sl (noD_L w .C cs (by decide)) hc
    have h3 := noD_sl (noD_L w .S ts (by decide)) ht
    have h4 := noD_sl (noD_L w .S es (by decide)) he
    intro y hy
    unfold allN at hy
    rcases List.mem_cons.1 hy with rfl | hy
    · exact hty
    · cases ty with
      | E => exact h1 y hy
      | C => exact (List.mem_append.1 hy).elim (h1 y) (h2 y)
      | S => exact (List.mem_append.1 hy).elim (h2 y) (fun hy => (List.mem_append.1 hy).elim (h1 y) (fun hy => (List.mem_append.1 hy).elim (h3 y) (h4 y)))
      | D => exact absurd rfl hty
theorem noD_L (w : World) : ∀ (ty : Ty) (l : List Nd), ty ≠ .D → ∀ b o, RowIn w ty l b o → ∀ y ∈ allL l, y.ty ≠ .D
  | _, [], _, _, _, _ => by intro y hy; unfold allL at hy; cases hy
  | ty, x :: r, hty, b, o, h => by
    unfold RowIn at h
    obtain ⟨⟨h1, vs, _, h2⟩, h3⟩ := h
    intro y hy
    unfold allL at hy
    exact (List.mem_append.1 hy).elim (noD_N w x vs h2 (by rw [h1]; exact hty) y) (noD_L w ty r hty b (o + ty.size) h3 y)
end
end Go.Proofs.YtjpopelbdhgidaaGreatDoor

/-
  The document's Check and Size of a program (gnomonref3's): proved is what each answers, that Check's answer is the project's, and that neither turns anything that lay.
-/
namespace Go.Proofs.YtjpopelbdhgidaaGreatDoor
open Go Go.RowKit

theorem noD_list {w : World} {l : List Nd} {v : Value} (h : SlIn w .S l v) : ∀ y ∈ allL l, y.ty ≠ .D := noD_sl (ty := .S) (fun b o => noD_L w .S l (by decide) b o) h
end Go.Proofs.YtjpopelbdhgidaaGreatDoor

/-
  Two lists of texts held against one another (gnomonhelp's Texts): proved is that it answers whether they are the same; and plain: the names of both sides are the same.
-/
namespace Go.Proofs.YtjpopelbdhgidaaGreatDoor
open Go Go.RowKit

/-- Two lists of texts are the same. -/
def sameT : List ByteArray → List ByteArray → Bool
  | [], [] => true
  | x :: r, y :: s => (x.toList == y.toList) && sameT r s
  | [], _ :: _ => false
  | _ :: _, [] => false
theorem sameT_refl : ∀ l : List ByteArray, sameT l l = true
  | [] => rfl
  | x :: r => by simp [sameT, sameT_refl r]
theorem sameT_len : ∀ {l m : List ByteArray}, sameT l m = true → l.length = m.length
  | [], [], _ => rfl
  | x :: r, y :: s, h => by
    simp only [sameT, Bool.and_eq_true] at h
    simpa using sameT_len h.2
theorem sameT_drop {l m : List ByteArray} {i : Nat} (h : i < l.length) (h2 : i < m.length) : sameT (l.drop i) (m.drop i) = ((l[i].toList == m[i].toList) && sameT (l.drop (i + 1)) (m.drop (i + 1))) := by
  rw [List.drop_eq_getElem_cons h, List.drop_eq_getElem_cons h2, sameT]
theorem sameT_end {l m : List ByteArray} (h : l.length = m.length) : sameT (l.drop l.length) (m.drop l.length) = true := by
  rw [List.drop_length, h, List.drop_length, sameT]
/-- A list of texts lies at a slice. -/
def StrsIn (w : World) (l : List ByteArray) (v : Value) : Prop := ∃ a c, v = .slice a l.length c ∧ l.length ≤ c ∧ (l.length = 0 ∨ ∃ g o, a = some ⟨g, o, none⟩ ∧ ∀ i (hi : i < l.length), w.cell? ⟨g, o + i, none⟩ = some (.string l[i]))
theorem strs_own {w : World} {base : Nat} {v : Value} {l : List ByteArray} (h : w.ownsRow base 9 1 v l.length (cellsT l)) : StrsIn w l v := by
  obtain ⟨a, c, h1, h2, h3⟩ := own_str h
  exact ⟨a, c, h1, h2, h3.imp id fun ⟨g, hg, hc⟩ => ⟨g, 0, hg, fun i hi => by rw [Nat.zero_add]; exact hc i hi⟩⟩
theorem StrsIn.keep {w w' : World} {l : List ByteArray} {v : Value} (h : StrsIn w l v) (hb : Below w.heap.size w w') : StrsIn w' l v := by
  obtain ⟨a, c, h1, h2, h3⟩ := h
  exact ⟨a, c, h1, h2, h3.imp id fun ⟨g, o, hg, hc⟩ => ⟨g, o, hg, fun i hi => (hb.cell (p := ⟨g, o + i, none⟩) (World.block_lt_of_cell? w ⟨g, o + i, none⟩ (hc i hi))).trans (hc i hi)⟩⟩

set_option maxRecDepth 100000 in
set_option maxHeartbeats 4000000 in
theorem texts_any (l m : List ByteArray) (v u : Value) (w : World) (hv : StrsIn w l v) (hu : StrsIn w m u) (hll : l.length ≤ 9223372036854775807) :
    Calls Tryz.prog 38 #[v, u] w (fun e w' => e = .returned (.bool (sameT l m)) ∧ Below w.heap.size w w') := by
  obtain ⟨a, c, rfl, hlc, hc1⟩ := hv
  obtain ⟨a', c', rfl, hlc', hc2⟩ := hu
  have HC1 := Lib.hid hc1; clear hc1
  have HC2 := Lib.hid hc2; clear hc2
  obtain ⟨Q, hQ⟩ : ∃ Q, sameT l m = Q := ⟨_, rfl⟩
  rw [hQ]
  cases hne : ((l.length : Int) != (m.length : Int)) with
  | true =>
    have e : Q = false := by
      rw [← hQ]
      cases hs : sameT l m with
      | false => rfl
      | true =>
        have := sameT_len hs
        simp [this] at hne
    clear hQ HC1 HC2
    subst e
    go_enter Tryz.func38, Tryz.ntmps38
    go_wp2_with fail
    go_ret
    exact ⟨rfl, Below.refl _ _⟩
  | false =>
  have HLEN := Lib.hid (show l.length = m.length by rw [bne, Bool.not_eq_false', beq_iff_eq] at hne; omega)
  have HQ := Lib.hid hQ.symm; clear hQ
  go_enter Tryz.func38, Tryz.ntmps38
  go_wp2_with fail
  go_loopw [5] (fun x wr => ∃ i : Nat, x = .int .i64 i ∧ i ≤ l.length ∧ Hid (Q = sameT (l.drop i) (m.drop i)) ∧ Below w.heap.size w wr) (fun x _ => l.length - (intOf x).toNat)
  case atStart => exact ⟨0, rfl, by omega, HQ, Below.refl _ _⟩
  case round =>
    obtain ⟨i, rfl, hi, heq, hbr⟩ := hrel
    by_cases hlt : i < l.length
    · have hlt2 : i < m.length := by have := HLEN.out; omega
      have hbi : (i : Int) + 1 ≤ 9223372036854775807 := by omega
      have hxl : ¬ l.length = 0 := by omega
      have hxl2 : ¬ m.length = 0 := by omega
      obtain ⟨g, o, rfl, hcell⟩ := HC1.out.resolve_left hxl
      obtain ⟨g', o', rfl, hcell'⟩ := HC2.out.resolve_left hxl2
      have m0 := hcell i hlt
      have m1 := hcell' i hlt2
      have k0 := (hbr.cell (p := ⟨g, o + i, none⟩) (World.block_lt_of_cell? w ⟨g, o + i, none⟩ m0)).trans m0
      have k1 := (hbr.cell (p := ⟨g', o' + i, none⟩) (World.block_lt_of_cell? w ⟨g', o' + i, none⟩ m1)).trans m1
      have HD := heq.out.trans (sameT_drop hlt hlt2)
      obtain ⟨X, hX⟩ : ∃ X, l[i] = X := ⟨_, rfl⟩
      obtain ⟨Y, hY⟩ : ∃ Y, m[i] = Y := ⟨_, rfl⟩
      rw [hX] at k0 HD
      rw [hY] at k1 HD
      clear hX hY hcell hcell' m0 m1 heq HQ
      have HBR := Lib.hid hbr; clear hbr
      have HDD := Lib.hid HD; clear HD
      obtain ⟨S, hS⟩ : ∃ S, (X.toList != Y.toList) = S := ⟨_, rfl⟩
      have HS := Lib.hid hS; clear hS
      go_upto_region 6 with fail
      go_cut [25] (fun s wx => s = .bool S ∧ Below w.heap.size w wx)
      case first =>
        go_region
        go_wp2_with fail
        go_meet
        exact ⟨by first | rfl | (rw [← HS.out]; rfl), HBR.out.drew⟩
      case rest =>
        obtain ⟨rfl, hb⟩ := hcut
        clear k0 k1 HBR
        cases S with
        | true =>
          have h1 : (X.toList == Y.toList) = false := by have := HS.out; rw [bne, Bool.not_eq_true'] at this; exact this
          have e : Q = false := by rw [HDD.out, h1]; rfl
          clear HDD HS h1
          subst e
          go_wp2_with fail
          go_ret
          exact ⟨rfl, hb⟩
        | false =>
          have h1 : (X.toList == Y.toList) = true := by have := HS.out; rw [bne, Bool.not_eq_false'] at this; exact this
          have e : Q = sameT (l.drop (i + 1)) (m.drop (i + 1)) := by rw [HDD.out, h1]; rfl
          have HE2 := Lib.hid e; clear e HDD HS h1
          go_wp2_with fail
          go_roundw
          case rel => exact ⟨i + 1, by go_num, by omega, HE2, hb⟩
          case measure => simp [intOf]; omega
    · obtain rfl : i = l.length := by omega
      have e : Q = true := heq.out.trans (sameT_end HLEN.out)
      clear heq HQ
      subst e
      go_wp2_with fail
      go_ret
      exact ⟨rfl, hbr⟩

/-! ### plain -/
theorem nmsOf_cons (x : Nd) (l : List Nd) : nmsOf (x :: l) = (if mustN x then [ownNm x] else []) ++ nmsOf l := by
  unfold nmsOf
  cases h : mustN x <;> simp [h]
theorem headU_fst (nm : ByteArray) (a b : Bool) : (headU nm a b).map Prod.fst = if (a || b) then [nm] else [] := by
  unfold headU
  split <;> simp_all
mutual
theorem nms_N : ∀ (x : Nd), (∀ y ∈ allN x, y.ty ≠ .D) → nmsOf (allN x) = (usesN x).map Prod.fst
  | .mk ty k n nm xs cs ts es, h => by
    cases ty with
    | E =>
      unfold allN at h ⊢
      have hx := nms_L xs (fun y hy => h y (by simp [hy]))
      unfold usesN
      simp only [nmsOf_cons, List.map_append, headU_fst, hx]
      simp [mustN, ownNm]
    | C =>
      unfold allN at h ⊢
      have hx := nms_L xs (fun y hy => h y (by simp [hy]))
      have hc := nms_L cs (fun y hy => h y (by simp [hy]))
      unfold usesN
      simp only [nmsOf_cons, nmsOf_app, List.map_append, hx, hc]
      simp [mustN]
    | S =>
      unfold allN at h ⊢
      have hx := nms_L xs (fun y hy => h y (by simp [hy]))
      have hc := nms_L cs (fun y hy => h y (by simp [hy]))
      have ht := nms_L ts (fun y hy => h y (by simp [hy]))
      have he := nms_L es (fun y hy => h y (by simp [hy]))
      unfold usesN
      simp only [nmsOf_cons, nmsOf_app, List.map_append, headU_fst, hx, hc, ht, he]
      simp [mustN, ownNm]
    | D =>
      unfold allN at h
      exact absurd rfl (h _ (List.mem_cons_self ..))
theorem nms_L : ∀ (l : List Nd), (∀ y ∈ allL l, y.ty ≠ .D) → nmsOf (allL l) = (usesL l).map Prod.fst
  | [], _ => by unfold allL usesL; rfl
  | x :: r, h => by
    unfold allL at h ⊢
    unfold usesL
    rw [nmsOf_app, List.map_append, nms_N x (fun y hy => h y (by simp [hy])), nms_L r (fun y hy => h y (by simp [hy]))]
end
theorem nms_D : ∀ (ds : List Nd), fitL .D ds → nmsOf (allL ds) = ds.map ownNm
  | [], _ => by unfold allL; rfl
  | x :: r, h => by
    unfold fitL at h
    obtain ⟨hty, hx, hr⟩ := h
    obtain ⟨ty, k, n, nm, xs, cs, ts, es⟩ := x
    simp only [Nd.ty] at hty
    subst hty
    unfold fitN at hx
    obtain ⟨⟨rfl, rfl, rfl, rfl, rfl⟩, -⟩ := hx
    unfold allL
    rw [nmsOf_app, nms_D r hr, List.map_cons]
    have e : allN (.mk .D 0 n nm [] [] [] []) = [.mk .D 0 n nm [] [] [] []] := by
      unfold allN
      simp
    rw [e, nmsOf_cons]
    simp [mustN, ownNm, nmsOf]
theorem names_few {ds ss : List Nd} (hd : fitL .D ds) (hs : ∀ y ∈ allL ss, y.ty ≠ .D) (hz : (progT ds ss).lim = 0) : ds.length + (usesL ss).length ≤ 4096 := by
  have h := (progT_ok ds ss).1
  rw [progT_list hz, allL_app, List.length_append] at h
  have h1 := congrArg List.length (nms_D ds hd)
  have h2 := congrArg List.length (nms_L ss hs)
  have h3 : ∀ l, (nmsOf l).length ≤ l.length := fun l => by unfold nmsOf; rw [List.length_map]; exact List.length_filter_le ..
  have h4 := h3 (allL ds)
  have h5 := h3 (allL ss)
  simp only [List.length_map] at h1 h2
  omega
theorem fault_lim {t : Tr} (h : faultT t = 0) : t.lim = 0 := by
  unfold faultT at h
  split at h
  · exact h
  · rename_i hn
    simpa using hn
end Go.Proofs.YtjpopelbdhgidaaGreatDoor

/-
  Plain: what well's Check tells of a program, and how long the names of a tree are.
-/
namespace Go.Proofs.YtjpopelbdhgidaaGreatDoor
open Go Go.RowKit Go.Maps

/-- What Check tells. -/
def wellP (ds ss : List Nd) : ByteArray × Int := if faultT (progT ds ss) ≠ 0 then (⟨#[]⟩, faultT (progT ds ss)) else if (declW [] ds).2 ≠ 0 then declW [] ds else badU (lookL ds) (usesL ss)
theorem nms_sz {ds ss : List Nd} (hd : fitL .D ds) (hs : ∀ y ∈ allL ss, y.ty ≠ .D) (hz : faultT (progT ds ss) = 0) : (∀ x ∈ ds, (ownNm x).size ≤ 128) ∧ (∀ u ∈ usesL ss, u.1.size ≤ 128) := by
  have h := fault_names hz
  rw [progT_list (fault_lim hz), allL_app] at h
  have h1 : ∀ n ∈ nmsOf (allL ds ++ allL ss), n.size ≤ 128 := by
    intro n hn
    unfold nmsOf at hn
    obtain ⟨x, hx, rfl⟩ := List.mem_map.1 hn
    obtain ⟨h2, h3⟩ := List.mem_filter.1 hx
    exact h x h2 h3
  rw [nmsOf_app, nms_D ds hd, nms_L ss hs] at h1
  exact ⟨fun x hx => h1 _ (List.mem_append_left _ (List.mem_map_of_mem hx)), fun u hu => h1 _ (List.mem_append_right _ (List.mem_map_of_mem hu))⟩
theorem dNm_own {x : Nd} (h : x.ty = .D) : dNm x = ownNm x := by
  obtain ⟨ty, k, n, s, xs, cs, ts, es⟩ := x
  simp only [Nd.ty] at h
  subst h
  rfl
theorem declW_sz (k : Nat) : ∀ (r p : List Nd), (∀ x ∈ r, (dNm x).size ≤ k) → (declW p r).1.size ≤ k
  | [], _, _ => Nat.zero_le _
  | x :: r, p, h => by
    rw [declW]
    split
    · exact h x List.mem_cons_self
    · exact declW_sz k r _ (fun y hy => h y (List.mem_cons_of_mem _ hy))
theorem badU_sz (f : ByteArray → Int) (k : Nat) : ∀ (l : List Us), (∀ u ∈ l, u.1.size ≤ k) → (badU f l).1.size ≤ k
  | [], _ => Nat.zero_le _
  | x :: r, h => by
    rw [badU]
    split
    · exact h x List.mem_cons_self
    · split
      · exact badU_sz f k r (fun y hy => h y (List.mem_cons_of_mem _ hy))
      · exact h x List.mem_cons_self
theorem flat_le_sl {w : World} {l : List Nd} {v : Value} (hL : ∀ b o, RowIn w .S l b o → (flatL l).length ≤ (allL l).length) (h : SlOf l.length (fun b o => RowIn w .S l b o) v) : (flatL l).length ≤ (allL l).length := by
  obtain ⟨a, c, _, _, _, h0 | ⟨b, o, _, hr⟩⟩ := h
  · obtain rfl := List.eq_nil_of_length_eq_zero h0
    rw [flatL]
    exact Nat.zero_le _
  · exact hL b o hr
mutual
theorem flat_le_N (w : World) : ∀ (x : Nd) (vs : List Value), NdIn w x vs → x.ty = .S → (flatN x).length ≤ (allN x).length
  | .mk ty k n nm xs cs ts es, vs, h, hty => by
    simp only [Nd.ty] at hty
    subst hty
    unfold NdIn at h
    obtain ⟨_, _, _, _, vx, vc, vt, ve, _, _, _, ht, he⟩ := h
    have h3 := flat_le_sl (flat_le_L w ts) ht
    have h4 := flat_le_sl (flat_le_L w es) he
    unfold flatN allN
    simp only [List.length_cons, List.length_append]
    omega
theorem flat_le_L (w : World) : ∀ (l : List Nd) (b o : Nat), RowIn w .S l b o → (flatL l).length ≤ (allL l).length
  | [], _, _, _ => by rw [flatL]; exact Nat.zero_le _
  | x :: r, b, o, h => by
    unfold RowIn at h
    obtain ⟨⟨h1, vs, _, h2⟩, h3⟩ := h
    have h4 := flat_le_N w x vs h2 h1
    have h5 := flat_le_L w r _ _ h3
    rw [flatL, allL, List.length_append, List.length_append]
    omega
end
theorem flat_few {w : World} {ds ss : List Nd} {v : Value} (hs : SlIn w .S ss v) (hz : faultT (progT ds ss) = 0) : (flatL ss).length ≤ 4096 := by
  have h := (progT_ok ds ss).1
  rw [progT_list (fault_lim hz), allL_app, List.length_append] at h
  have h2 := flat_le_sl (flat_le_L w ss) hs
  omega
theorem wellP_sz {ds ss : List Nd} (hd : fitL .D ds) (hs : ∀ y ∈ allL ss, y.ty ≠ .D) : (wellP ds ss).1.size ≤ 128 := by
  unfold wellP
  split
  · exact Nat.zero_le _
  · rename_i hz
    have hz : faultT (progT ds ss) = 0 := by simpa using hz
    obtain ⟨h1, h2⟩ := nms_sz hd hs hz
    split
    · exact declW_sz 128 ds [] (fun x hx => by rw [dNm_own (ty_of hd x hx)]; exact h1 x hx)
    · exact badU_sz _ 128 _ h2
theorem clone_w (s : ByteArray) (w : World) (hs : s.size ≤ 128) : Calls Tryz.prog 58 #[.string s] w fun e w' => e = .returned (.string s) ∧ Below w.heap.size w w' := clone_any s w (by omega)
end Go.Proofs.YtjpopelbdhgidaaGreatDoor

/-
  The project's Equal of two programs (tree's): proved is that it answers whether both are gone through to their end and their nodes have the same labels, and that it turns nothing that lay.
-/
namespace Go.Proofs.YtjpopelbdhgidaaGreatDoor
open Go Go.RowKit

theorem below_drew {w wA : World} (h : Below w.heap.size w wA) : Below w.heap.size w wA.drew := h.drew
theorem below_next {w wA w1 : World} (h : Below w.heap.size w wA) (hb : Below wA.heap.size wA w1) : Below w.heap.size w w1 := h.trans (hb.mono h.size)
theorem Blk.next {w w' : World} {b : Nat} {cs : Array Value} {t : TypeId} (h : Blk w b cs t) (hb : Below w.heap.size w w') : Blk w' b cs t := h.below hb h.lt
/-- A list of nodes lies at a, in none of the blocks bs. -/
def LS (W : World) (l : List Nd) (a : Option Addr) (bs : List Nat) : Prop := l.length = 0 ∨ ∃ b wA, a = some ⟨b, 0, none⟩ ∧ CellsAre wA W l b 0 ∧ (l.length ≠ 0 → b < W.heap.size) ∧ ∀ k ∈ bs, b ≠ k
theorem CellsAre.lt {w0 w : World} {l : List Nd} {b o : Nat} (h : CellsAre w0 w l b o) (hl : l.length ≠ 0) : b < w.heap.size := by
  obtain ⟨vs, h1, _⟩ := h 0 (by omega)
  exact World.block_lt_of_cell? w ⟨b, o + 0, none⟩ h1
theorem LS.of {wA W : World} {l : List Nd} {a : Option Addr} {b : Nat} {bs : List Nat} (h : l.length = 0 ∨ (a = some ⟨b, 0, none⟩ ∧ CellsAre wA W l b 0 ∧ wA.heap.size ≤ b)) (hk : ∀ k ∈ bs, k < wA.heap.size) : LS W l a bs :=
  h.imp id fun ⟨h1, h2, h3⟩ => ⟨b, wA, h1, h2, h2.lt, fun k hb => by have := hk k hb; omega⟩
theorem LS.below {W W' : World} {l : List Nd} {a : Option Addr} {bs : List Nat} (h : LS W l a bs) (hb : Below W.heap.size W W') : LS W' l a bs :=
  h.imp id fun ⟨b, wA, h1, h2, h3, h4⟩ => ⟨b, wA, h1, h2.keep hb, fun hl => Nat.lt_of_lt_of_le (h3 hl) hb.size, h4⟩
theorem LS.alloc {W : World} {l : List Nd} {a : Option Addr} {bs : List Nat} (h : LS W l a bs) (o : Obj) : LS (W.alloc o) l a (W.heap.size :: bs) := by
  have hb : Below W.heap.size W (W.alloc o) := (Below.refl _ W).alloc (Nat.le_refl _) o
  rcases h with h | ⟨b, wA, h1, h2, h3, h4⟩
  · exact .inl h
  · by_cases hl : l.length = 0
    · exact .inl hl
    · exact .inr ⟨b, wA, h1, h2.keep hb, fun hl => Nat.lt_of_lt_of_le (h3 hl) hb.size, List.forall_mem_cons.2 ⟨Nat.ne_of_lt (h3 hl), h4⟩⟩
theorem LS.set {W : World} {l : List Nd} {a : Option Addr} {bs : List Nat} (h : LS W l a bs) {b : Nat} (hb : b ∈ bs) (o : Nat) (u : Value) : LS (W.setCell ⟨b, o, none⟩ u) l a bs :=
  h.imp id fun ⟨b', wA, h1, h2, h3, h4⟩ => ⟨b', wA, h1, fun i hi => by
    obtain ⟨vs, h5, h6⟩ := h2 i hi
    exact ⟨vs, (World.cell?_of_block (w := W) (Below.heap_setCell W ⟨b, o, none⟩ u b' (h4 b hb))).trans h5, h6⟩, fun hl => by rw [World.size_setCell]; exact h3 hl, h4⟩
/-- A list of nodes lies at a. -/
def LL (W : World) (l : List Nd) (a : Option Addr) : Prop := l.length = 0 ∨ ∃ b wA, a = some ⟨b, 0, none⟩ ∧ CellsAre wA W l b 0
theorem LS.list {W : World} {l : List Nd} {a : Option Addr} {bs : List Nat} (h : LS W l a bs) : LL W l a := h.imp id fun ⟨b, wA, h1, h2, _⟩ => ⟨b, wA, h1, h2⟩
theorem LL.keep {W W' : World} {l : List Nd} {a : Option Addr} (h : LL W l a) (hb : Below W.heap.size W W') : LL W' l a := h.imp id fun ⟨b, wA, h1, h2⟩ => ⟨b, wA, h1, h2.keep hb⟩

end Go.Proofs.YtjpopelbdhgidaaGreatDoor
