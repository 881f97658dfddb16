/-
  Plain: the full tree of sums of a height: proved is how many temporaries, edges and points it takes.
-/
import Derived.Test.YtgbpobbdijmikaaDoorQCfgV

namespace Go.Proofs.YtgbpobbdijmikaaDoor
open Go Go.RowKit Go.Maps

def fullT : Nat → Nd
  | 0 => .mk .E 2 0 ⟨#[120]⟩ [] [] [] []
  | h + 1 => .mk .E 6 0 ⟨#[]⟩ [fullT h, fullT h] [] [] []
def tmDs : List Nd := [.mk .D 0 0 ⟨#[120]⟩ [] [] [] []]
def tmSs (h : Nat) : List Nd := [.mk .S 1 0 ⟨#[120]⟩ [fullT h] [] [] []]
set_option maxRecDepth 100000 in
theorem tm_ok : ∀ h, h < 10 → cfgF tmDs (tmSs h) = 0 := by decide +kernel
set_option maxRecDepth 100000 in
theorem tm_tmp : ∀ h, h < 10 → (lowD tmDs (tmSs h)).tmp = if h < 2 then 0 else (h : Int) := by decide +kernel
set_option maxRecDepth 100000 in
theorem tm_eds : ∀ h, h < 10 → (lowD tmDs (tmSs h)).eds.length = if h = 0 then 1 else 2 ^ h - 1 := by decide +kernel
set_option maxRecDepth 100000 in
theorem tm_pts : ∀ h, h < 10 → (lowD tmDs (tmSs h)).pts = if h = 0 then 2 else ((2 ^ h : Nat) : Int) := by decide +kernel
/-- It lies in memory, behind a block. -/
def FullIn (w : World) (lo : Nat) : Nat → List Value → Prop
  | 0, vs => vs = [.int .i64 2, .int .i64 0, .string ⟨#[120]⟩, .slice none 0 0]
  | h + 1, vs => ∃ b us, lo ≤ b ∧ vs = [.int .i64 6, .int .i64 0, .string ⟨#[]⟩, .slice (some ⟨b, 0, none⟩) 2 2] ∧ us.length = 4 ∧ Blk w b [us, us].flatten.toArray 25 ∧ FullIn w lo h us
theorem FullIn.next {w w' : World} {lo : Nat} (hb : Below w.heap.size w w') : ∀ {h : Nat} {vs : List Value}, FullIn w lo h vs → FullIn w' lo h vs
  | 0, _, h => h
  | _ + 1, _, ⟨b, us, h1, h2, h3, h4, h5⟩ => ⟨b, us, h1, h2, h3, h4.next hb, h5.next hb⟩
theorem FullIn.only {w w' : World} {lo X : Nat} (ho : Only X w w') (hX : X < lo) : ∀ {h : Nat} {vs : List Value}, FullIn w lo h vs → FullIn w' lo h vs
  | 0, _, h => h
  | _ + 1, _, ⟨b, us, h1, h2, h3, h4, h5⟩ => ⟨b, us, h1, h2, h3, h4.only ho (by omega), h5.only ho hX⟩
theorem two_len {x y : Nd} : [x, y].length ≤ maxLen := by show 2 ≤ maxLen; unfold maxLen; omega
theorem full_in {w : World} {lo : Nat} : ∀ {h : Nat} {vs : List Value}, FullIn w lo h vs → (fullT h).ty = .E ∧ NdIn w (fullT h) vs
  | 0, _, h => by
    unfold FullIn at h
    subst h
    refine ⟨rfl, ?_⟩
    unfold fullT NdIn
    exact ⟨⟨rfl, rfl, rfl⟩, lit_ok (by decide) (by decide), ok0, by decide, .slice none 0 0, .slice none 0 0, .slice none 0 0, .slice none 0 0, rfl, sl0 w .E, sl0 w .C, sl0 w .S, sl0 w .S⟩
  | h + 1, _, ⟨b, us, h1, h2, h3, h4, h5⟩ => by
    subst h2
    obtain ⟨h6, h7⟩ := full_in h5
    have hsl : SlIn w .E [fullT h, fullT h] (.slice (some ⟨b, 0, none⟩) 2 2) := slIn_blk (vss := [us, us]) h4 rfl two_len (nodes2 h6 h7 h6 h7)
    refine ⟨rfl, ?_⟩
    unfold fullT NdIn
    exact ⟨⟨rfl, rfl, rfl⟩, lit_ok (by decide) (by decide), ok0, by decide, .slice (some ⟨b, 0, none⟩) 2 2, .slice none 0 0, .slice none 0 0, .slice none 0 0, rfl, hsl, sl0 w .C, sl0 w .S, sl0 w .S⟩
end Go.Proofs.YtgbpobbdijmikaaDoor
