/-
  The project's name and nameless (tree's): proved is what each answers of a node.
-/
import Derived.Test.YtbchibmmkmldiaaGreatDoorOwnN
namespace Go.Proofs.YtbchibmmkmldiaaGreatDoor
open Go Go.RowKit

/-- A node's name, and whether it must be one. -/
def mustN : Nd → Bool
  | .mk .E k _ _ _ _ _ _ => (k == 2) || (k == 4)
  | .mk .C _ _ _ _ _ _ _ => false
  | .mk .S k _ _ _ _ _ _ => (k == 1) || (k == 2)
  | .mk .D _ _ _ _ _ _ _ => true
def ownNm : Nd → ByteArray
  | .mk .C _ _ _ _ _ _ _ => ⟨#[]⟩
  | .mk _ _ _ nm _ _ _ _ => nm

theorem asE (t : TypeId) (hne : t ≠ 84) (v : Value) (xT : TypeId) (w : World) : (Instr.typeAssert (.iface t v) xT 84 true).run Tryz.prog w = .ok (.tuple #[.agg #[.int .i64 0, .int .i64 0, .string ⟨#[]⟩, .slice none 0 0], .bool false]) w := assert_no (by kernel_rfl) hne (by kernel_rfl) v xT w

set_option maxRecDepth 100000 in
set_option maxHeartbeats 4000000 in
theorem treename_any (x : Nd) (vs : List Value) (w0 w : World) (hin : NdIn w0 x vs) :
    Calls Tryz.prog 66 #[nodeV x.ty vs] w (fun e w' => e = .returned (.tuple #[.string (ownNm x), .bool (mustN x)]) ∧ Below w.heap.size w w') := by
  obtain ⟨ty, k, n, nm, xs, cs, ts, es⟩ := x
  unfold NdIn at hin
  obtain ⟨-, -, -, -, vx, vc, vt, ve, rfl, hx, hc, ht, he⟩ := hin
  obtain ⟨a, c, rfl, -, -, -⟩ := hx
  obtain ⟨a2, c2, rfl, -, -, -⟩ := hc
  obtain ⟨a3, c3, rfl, -, -, -⟩ := ht
  obtain ⟨a4, c4, rfl, -, -, -⟩ := he
  cases ty with
  | E =>
    change Calls _ _ #[.iface 84 (.agg #[.int .i64 k, .int .i64 n, .string nm, .slice a xs.length c])] w (fun e w' => e = .returned (.tuple #[.string nm, .bool ((k == 2) || (k == 4))]) ∧ Below w.heap.size w w')
    have HAL := Lib.hid ((Below.refl w.heap.size w).alloc (Nat.le_refl _) (.cells #[.int .i64 k, .int .i64 n, .string nm, .slice a xs.length c] 84))
    have y1 := asD 84 (by decide)
    have y2 := asS 84 (by decide)
    have y4 := isE
    cases h1 : (k == 2) with
    | true =>
      go_enter Tryz.func66, Tryz.ntmps66
      go_wp2
      go_quiet (fail)
      go_wp2
      go_ret2
      exact ⟨rfl, below_drewN HAL.out _⟩
    | false =>
      cases h2 : (k == 4) with
      | true =>
        go_enter Tryz.func66, Tryz.ntmps66
        go_wp2
        go_quiet (fail)
        go_wp2
        go_ret2
        exact ⟨rfl, below_drewN HAL.out _⟩
      | false =>
        go_enter Tryz.func66, Tryz.ntmps66
        go_wp2
        go_quiet (fail)
        go_wp2
        go_ret2
        exact ⟨rfl, below_drewN HAL.out _⟩
  | C =>
    change Calls _ _ #[.iface 122 (.agg #[.int .i64 k, .int .i64 n, .slice a xs.length c, .slice a2 cs.length c2])] w (fun e w' => e = .returned (.tuple #[.string ⟨#[]⟩, .bool false]) ∧ Below w.heap.size w w')
    have HAL := Lib.hid ((Below.refl w.heap.size w).alloc (Nat.le_refl _) (.cells #[.int .i64 k, .int .i64 n, .slice a xs.length c, .slice a2 cs.length c2] 122))
    have y1 := asD 122 (by decide)
    have y2 := asS 122 (by decide)
    have y3 := asE 122 (by decide)
    go_enter Tryz.func66, Tryz.ntmps66
    go_wp2
    go_ret2
    exact ⟨rfl, Below.refl _ w⟩
  | S =>
    change Calls _ _ #[.iface 119 (.agg #[.int .i64 k, .string nm, .slice a xs.length c, .slice a2 cs.length c2, .slice a3 ts.length c3, .slice a4 es.length c4])] w (fun e w' => e = .returned (.tuple #[.string nm, .bool ((k == 1) || (k == 2))]) ∧ Below w.heap.size w w')
    have HAL := Lib.hid ((Below.refl w.heap.size w).alloc (Nat.le_refl _) (.cells #[.int .i64 k, .string nm, .slice a xs.length c, .slice a2 cs.length c2, .slice a3 ts.length c3, .slice a4 es.length c4] 119))
    have y1 := asD 119 (by decide)
    have y2 := isS
    cases h1 : (k == 1) with
    | true =>
      go_enter Tryz.func66, Tryz.ntmps66
      go_wp2
      go_quiet (fail)
      go_wp2
      go_ret2
      exact ⟨rfl, below_drewN HAL.out _⟩
    | false =>
      cases h2 : (k == 2) with
      | true =>
        go_enter Tryz.func66, Tryz.ntmps66
        go_wp2
        go_quiet (fail)
        go_wp2
        go_ret2
        exact ⟨rfl, below_drewN HAL.out _⟩
      | false =>
        go_enter Tryz.func66, Tryz.ntmps66
        go_wp2
        go_quiet (fail)
        go_wp2
        go_ret2
        exact ⟨rfl, below_drewN HAL.out _⟩
  | D =>
    change Calls _ _ #[.iface 118 (.agg #[.string nm, .int .i64 n])] w (fun e w' => e = .returned (.tuple #[.string nm, .bool true]) ∧ Below w.heap.size w w')
    have HAL := Lib.hid ((Below.refl w.heap.size w).alloc (Nat.le_refl _) (.cells #[.string nm, .int .i64 n] 118))
    have y1 := isD
    go_enter Tryz.func66, Tryz.ntmps66
    go_wp2
    go_ret2
    exact ⟨rfl, HAL.out⟩

def namelessB (x : Nd) : Bool := mustN x && !nameB (ownNm x)
theorem nameless_any (x : Nd) (vs : List Value) (w0 w : World) (hin : NdIn w0 x vs) :
    Calls Tryz.prog 43 #[nodeV x.ty vs] w (fun e w' => e = .returned (.bool (namelessB x)) ∧ Below w.heap.size w w') := by
  have hsz : (ownNm x).size ≤ maxLen := by
    obtain ⟨ty, k, n, nm, xs, cs, ts, es⟩ := x
    unfold NdIn at hin
    cases ty
    case C => exact Nat.zero_le _
    all_goals exact hin.2.2.2.1
  have hn := treename_any x vs w0 w hin
  have hl := fun w => name_any (ownNm x) w hsz
  have hb : namelessB x = (mustN x && !nameB (ownNm x)) := rfl
  rw [hb]
  clear hb
  obtain ⟨V, hV⟩ : ∃ V, nodeV x.ty vs = V := ⟨_, rfl⟩
  obtain ⟨nm, hnm⟩ : ∃ nm, ownNm x = nm := ⟨_, rfl⟩
  obtain ⟨m, hm⟩ : ∃ m, mustN x = m := ⟨_, rfl⟩
  rw [hV, hnm, hm] at hn
  rw [hV, hm, hnm]
  simp only [hnm] at hl
  obtain ⟨q, hq⟩ : ∃ q, nameB nm = q := ⟨_, rfl⟩
  rw [hq]
  simp only [hq] at hl
  clear hV hnm hm hq hsz hin
  have HN := Lib.hid hn; clear hn
  have HL := Lib.hid hl; clear hl
  cases m with
  | false =>
    go_enter Tryz.func43, Tryz.ntmps43
    go_wp2_with (first | (go_at_call 66; (with_reducible refine HN.out.mono ?_); rintro e w1 ⟨rfl, hw1⟩) | fail)
    go_ret
    exact ⟨rfl, hw1⟩
  | true =>
    go_enter Tryz.func43, Tryz.ntmps43
    go_wp2_with (first | (go_at_call 66; (with_reducible refine HN.out.mono ?_); rintro e w1 ⟨rfl, hw1⟩) | (go_at_call 67; (with_reducible refine (HL.out w1).mono ?_); rintro e w2 ⟨rfl, hw2⟩) | fail)
    go_ret
    exact ⟨rfl, hw1.trans (hw2.mono hw1.size)⟩
end Go.Proofs.YtbchibmmkmldiaaGreatDoor
