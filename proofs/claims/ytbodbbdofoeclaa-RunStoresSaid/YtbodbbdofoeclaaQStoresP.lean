/-
  Plain: what is stored is loaded again.
-/
import Derived.Test.YtbodbbdofoeclaaQLoopsP

namespace Go.Proofs.Ytbodbbdofoeclaa
open Go Go.RowKit Go.Maps

def aS : ByteArray := ⟨#[97]⟩
def declA (z : Int) : Nd := .mk .D 0 z aS [] [] [] []
def storeS (nm : ByteArray) (x y : Nd) : Nd := .mk .S 2 0 nm [x, y] [] [] []
def itemE (nm : ByteArray) (x : Nd) : Nd := kE 4 0 nm [x]
def soD (z : Int) : List Nd := [oneD, declA z]
def soS (i j v : Int) : List Nd := [storeS aS (numE i) (numE v), giveS xS (itemE aS (numE j))]
theorem kD_two {z : Int} (h : z ≠ 0) : kD z = 2 := by unfold kD; rw [if_neg h]
theorem so_look (z : Int) : lookL (soD z) aS = kD z := by kernel_rfl
theorem so_lookx (z : Int) : lookL (soD z) xS = 1 := by kernel_rfl
theorem so_decl {z : Int} (h1 : 1 ≤ z) (h2 : z ≤ 50) : (declW [] (soD z)).2 = 0 := by
  have hk := kD_two (z := z) (by omega)
  have e1 : dF [] oneD = 0 := by decide +kernel
  have e2 : dF [oneD] (declA z) = 0 := by
    unfold dF
    rw [show lookL [oneD] (dNm (declA z)) = 0 from by kernel_rfl, show dSz (declA z) = z from rfl, hk]
    rw [if_neg (by decide), if_neg (by omega), if_neg (by decide +kernel)]
  unfold soD declW
  rw [if_neg (by simpa using e1)]
  unfold declW
  rw [List.nil_append, if_neg (by simpa using e2)]
  unfold declW
  rfl
theorem so_vars {z : Int} (h : z ≠ 0) : varsL (soD z) = [xS] := by
  have e : (z == 0) = false := by simpa using h
  show List.map dNm (List.filter (fun x => dSz x == 0) [oneD, declA z]) = _
  rw [List.filter_cons_of_pos (by decide +kernel), List.filter_cons_of_neg (by show ¬ (z == 0) = true; simp [e])]
  rfl
theorem so_arrs {z : Int} (h : z ≠ 0) : arrsL (soD z) = [declA z] := by
  have e : (z == 0) = false := by simpa using h
  show List.filter (fun x => !(dSz x == 0)) [oneD, declA z] = _
  rw [List.filter_cons_of_neg (by decide +kernel), List.filter_cons_of_pos (by show (!(z == 0)) = true; simp [e])]
  rfl
theorem so_plx {z : Int} (h : z ≠ 0) : plW (soD z) xS = 0 := by unfold plW; rw [so_vars h, so_arrs h]; kernel_rfl
theorem so_pla {z : Int} (h : z ≠ 0) : plW (soD z) aS = 0 := by unfold plW; rw [so_vars h, so_arrs h]; kernel_rfl
theorem so_start {z : Int} (h : z ≠ 0) : runS (soD z) [] = ⟨[0], [List.replicate z.toNat 0], [], 0, []⟩ := by
  unfold runS startR
  rw [so_vars h, so_arrs h]
  rfl
theorem so_lim (z i j v : Int) : (progT (soD z) (soS i j v)).lim = 0 := by
  unfold soS numE
  split <;> split <;> split <;> kernel_rfl
theorem so_all (z i j v : Int) : allL (soD z ++ soS i j v) = [oneD, declA z, storeS aS (numE i) (numE v)] ++ (numL i ++ numL v) ++ [giveS xS (itemE aS (numE j)), itemE aS (numE j)] ++ numL j := by
  rw [← all_num, ← all_num, ← all_num]
  simp [soD, soS, allN, allL, oneD, declA, giveS, storeS, itemE, kE]
theorem so_uses (i j v : Int) : usesL (soS i j v) = [(aS, true), (xS, false), (aS, true)] := by
  simp [soS, usesL, usesN, giveS, storeS, itemE, kE, headU, uses_num]
theorem so_runF {z : Int} (h1 : 1 ≤ z) (h2 : z ≤ 50) (i j v : Int) : runF (soD z) (soS i j v) [] 10 = 0 := by
  refine runF_of (well_of (fault_of (so_lim z i j v) ?_) (so_decl h1 h2) ?_) (by omega) (by simp)
  · rw [so_all]
    intro y hy
    rcases List.mem_append.1 hy with hy | hy
    · rcases List.mem_append.1 hy with hy | hy
      · rcases List.mem_append.1 hy with hy | hy
        · simp only [List.mem_cons, List.not_mem_nil, or_false] at hy
          rcases hy with rfl | rfl | rfl
          · exact ⟨by decide +kernel, by decide +kernel⟩
          · refine ⟨?_, by kernel_rfl⟩
            show wellD z = true
            unfold wellD
            simp
            omega
          · exact ⟨by show wellS 2 aS 2 0 0 0 = true; decide +kernel, by kernel_rfl⟩
        · rcases List.mem_append.1 hy with hy | hy
          · exact num_good i y hy
          · exact num_good v y hy
      · simp only [List.mem_cons, List.not_mem_nil, or_false] at hy
        rcases hy with rfl | rfl
        · exact ⟨by show wellS 1 xS 1 0 0 0 = true; decide +kernel, by kernel_rfl⟩
        · exact ⟨by show wellE 4 0 aS 1 = true; decide +kernel, by kernel_rfl⟩
    · exact num_good j y hy
  · rw [so_uses]
    have hk := kD_two (z := z) (by omega)
    unfold badU
    simp only
    rw [so_look, hk]
    rw [if_neg (by decide), if_pos (by rfl)]
    unfold badU
    simp only
    rw [so_lookx, if_neg (by decide), if_pos (by rfl)]
    unfold badU
    simp only
    rw [so_look, hk, if_neg (by decide), if_pos (by rfl)]
    unfold badU
    rfl
def soArr (z i v : Int) : List Int := (List.replicate z.toNat 0).set i.toNat v
theorem so_store (z : Int) (m : Nat) (i v : Int) (s : Rn) : stN ⟨plW (soD z), m⟩ (storeS aS (numE i) (numE v)) s = (itemR ⟨plW (soD z), m⟩ aS i s).bind fun k s => .go () (putA ⟨plW (soD z), m⟩ aS k v s) := by
  show (valN _ (numE i) s).bind (fun i s => (valN _ (numE v) s).bind fun v s => (itemR _ aS i s).bind fun j s => .go () (putA _ aS j v s)) = _
  rw [val_num, bind_go, val_num, bind_go]
theorem so_item (z : Int) (m : Nat) (j : Int) (s : Rn) : asgR ⟨plW (soD z), m⟩ xS (itemE aS (numE j)) s = ((itemR ⟨plW (soD z), m⟩ aS j s).bind fun k s => .go ((s.arrs.getD (plW (soD z) aS) []).getD k 0) s).bind fun v s => .go () (putV ⟨plW (soD z), m⟩ xS v s) := by
  have hb : barN (itemE aS (numE j)) = false := rfl
  unfold asgR
  rw [hb]
  show ((valN ⟨plW (soD z), m⟩ (numE j) s).bind _).bind _ = _
  rw [val_num, bind_go]
  rfl
theorem soItem_go (z : Int) (h : z ≠ 0) (m t : Nat) (i : Int) (x : List Int) (A : List Int) (ht : t ≠ m) : itemR ⟨plW (soD z), m⟩ aS i ⟨x, [A], [], t, []⟩ = if i < 0 ∨ (A.length : Int) ≤ i then .stop 3 3 ⟨x, [A], [], t + 1, []⟩ else .go i.toNat ⟨x, [A], [], t + 1, []⟩ := by
  unfold itemR stepR
  rw [if_neg ht]
  show (if i < 0 ∨ ((([A] : List (List Int)).getD (plW (soD z) aS) []).length : Int) ≤ i then _ else _) = _
  rw [so_pla h]
  rfl
def soFin (z i j v : Int) : Int × Int × Rn :=
  if i < 0 ∨ z ≤ i then (3, 3, ⟨[0], [List.replicate z.toNat 0], [], 1, []⟩)
  else if j < 0 ∨ z ≤ j then (3, 3, ⟨[0], [soArr z i v], [], 2, []⟩)
  else (2, 0, ⟨[(soArr z i v).getD j.toNat 0], [soArr z i v], [], 2, []⟩)
theorem so_runO {z : Int} (h1 : 1 ≤ z) (i j v : Int) : runO (soD z) (soS i j v) [] 10 = soFin z i j v := by
  have hz : z ≠ 0 := by omega
  unfold runO
  rw [so_start hz]
  unfold soS
  rw [stL_cons, show ((10 : Int)).toNat = 10 from rfl, so_store z, soItem_go z hz _ _ _ _ _ (by decide)]
  have hl : ((List.replicate z.toNat (0 : Int)).length : Int) = z := by simp; omega
  rw [hl]
  unfold soFin
  by_cases hi : i < 0 ∨ z ≤ i
  · rw [if_pos hi, if_pos hi]
    rfl
  · rw [if_neg hi, if_neg hi]
    rw [bind_go, bind_go]
    have hp : putA ⟨plW (soD z), 10⟩ aS i.toNat v ⟨[0], [List.replicate z.toNat 0], [], 0 + 1, []⟩ = ⟨[0], [soArr z i v], [], 1, []⟩ := by
      unfold putA
      simp only
      rw [so_pla hz]
      rfl
    rw [hp, stL_one, st_give, so_item, soItem_go z hz _ _ _ _ _ (by decide)]
    have hl2 : ((soArr z i v).length : Int) = z := by unfold soArr; rw [List.length_set]; exact hl
    rw [hl2]
    by_cases hj : j < 0 ∨ z ≤ j
    · rw [if_pos hj, if_pos hj]
      rfl
    · rw [if_neg hj, if_neg hj, bind_go, bind_go, so_pla hz]
      show (2, 0, putV ⟨plW (soD z), 10⟩ xS ((soArr z i v).getD j.toNat 0) ⟨[0], [soArr z i v], [], 2, []⟩) = _
      unfold putV
      simp only
      rw [so_plx hz]
      rfl
end Go.Proofs.Ytbodbbdofoeclaa
