/-
  (*lex.reader).digits: proved is what it answers and leaves, as 'TokRes' says.
  Condition: Go's tables of package unicode/utf8 and the two errors of package strconv hold what their text lays ('Env').
-/
import Derived.Test.YtifgmkenfmmelaaDoorLexR
namespace Go.Proofs.YtifgmkenfmmelaaDoor
open Go Go.RowKit

/-- What of package-level memory the lexer reads. -/
structure Env (w : World) : Prop where
  tabs : Lib.Utf8Tabs 0 1 w
  syn : ∃ tp p, w.cell? ⟨2, 0, none⟩ = some (.iface tp p)
  rng : ∃ tp p, w.cell? ⟨3, 0, none⟩ = some (.iface tp p)
theorem cell_below {w w' : World} {a : Addr} {v : Value} (h : w.cell? a = some v) (hb : Below w.heap.size w w') : w'.cell? a = some v := by
  have lt := World.block_lt_of_cell? w a h
  exact (hb.cell (p := a) lt).trans h
theorem Env.later {w w' : World} (h : Env w) (hb : Below w.heap.size w w') : Env w' := by
  obtain ⟨h1, ⟨t2, p2, h2⟩, ⟨t3, p3, h3⟩⟩ := h
  exact ⟨Utf8Tabs_below h1 hb, ⟨t2, p2, cell_below h2 hb⟩, ⟨t3, p3, cell_below h3 hb⟩⟩

/-- What strconv.ParseInt says of a text of digits: an error, or none. -/
def parseE (l : List UInt8) : Int × Int := match Lib.parseIntB 64 l with
  | .ok v => (0, v)
  | _ => (21, 0)
/-- What ParseInt leaves. -/
def Parsed (w : World) (l : List UInt8) (e : Ending) (w' : World) : Prop :=
  Below w.heap.size w w' ∧ (((parseE l).1 = 0 ∧ e = .returned (.tuple #[.int .i64 (parseE l).2, .nilIface])) ∨ ((parseE l).1 = 21 ∧ ∃ x t p, e = .returned (.tuple #[.int .i64 x, .iface t p])))
theorem parse_any (s : ByteArray) (w : World) (hs : s.size ≤ 65536) (hE : Env w) :
    Calls Tryd.prog 58 #[.string s, .int .i64 10, .int .i64 64] w (Parsed w s.data.toList) := by
  obtain ⟨_, ⟨t2, p2, h2⟩, ⟨t3, p3, h3⟩⟩ := hE
  cases h : Lib.parseIntB 64 s.data.toList with
  | ok v =>
    refine (Tryd.strconv_ParseInt_10_at64_ok s (by omega) v h w).mono ?_
    have hp : parseE s.data.toList = (0, v) := by unfold parseE; rw [h]
    rintro e w' ⟨rfl, rfl | ⟨t, rfl⟩⟩
    · exact ⟨Below.refl _ _, .inl (by rw [hp]; exact ⟨rfl, rfl⟩)⟩
    · exact ⟨Lib.bytesWorld_below _ _ _, .inl (by rw [hp]; exact ⟨rfl, rfl⟩)⟩
  | «syntax» =>
    refine (Tryd.strconv_ParseInt_10_at64_syntax s (by omega) h _ w h2 (.inr ⟨_, _, rfl⟩)).mono ?_
    have hp : parseE s.data.toList = (21, 0) := by unfold parseE; rw [h]
    rintro e w' ⟨N, rfl, _, _, hb⟩
    exact ⟨hb, .inr (by rw [hp]; exact ⟨rfl, _, _, _, rfl⟩)⟩
  | range =>
    refine (Tryd.strconv_ParseInt_10_at64_range s (by omega) h _ w h3 (.inr ⟨_, _, rfl⟩)).mono ?_
    have hp : parseE s.data.toList = (21, 0) := by unfold parseE; rw [h]
    rintro e w' ⟨N, rfl, _, _, hb⟩
    exact ⟨hb, .inr (by rw [hp]; exact ⟨rfl, _, _, _, rfl⟩)⟩
theorem parse_at (s : ByteArray) (a n : Nat) (ha : a ≤ n) (hn : n ≤ s.size) (hs : s.size ≤ 65536) (w : World) (hE : Env w) :
    Calls Tryd.prog 58 #[.string ((s.extract a s.size).extract 0 (n - a)), .int .i64 10, .int .i64 64] w (Parsed w (s.extract a n).data.toList) := by
  rw [text_ext s a n ha hn]
  exact parse_any _ w (by simp; omega) hE

/-- The rune at byte n, as the program asks: of the text's end one that no token has. -/
def frs (s : ByteArray) (n : Nat) : Int := ((Lib.decodeGo (s.extract n s.size)).1 : Nat)
theorem first_at (s : ByteArray) (n : Nat) (w : World) (hE : Env w) :
    Calls Tryd.prog 38 #[.string (s.extract n s.size)] w fun e w' => e = .returned (.int .i32 (frs s n)) ∧ Below w.heap.size w w' := first_any _ w hE.tabs
theorem first_cut (s : ByteArray) (a n : Nat) (ha : a ≤ n) (hn : n ≤ s.size) (w : World) (hE : Env w) :
    Calls Tryd.prog 38 #[.string ((s.extract a s.size).extract (n - a) (s.size - a))] w fun e w' => e = .returned (.int .i32 (frs s n)) ∧ Below w.heap.size w w' := by
  rw [rest_ext s a n ha hn]
  exact first_at s n w hE
theorem isLetter_is (r : Int) (b : Bool) (hb : isLet r = b) (w : World) : Calls Tryd.prog 28 #[.int .i32 r] w fun e w' => e = .returned (.bool b) ∧ w = w' := by
  rw [← hb]
  exact isLetter_any r w

/-- A number with a zero ahead. -/
def zeroB (s : ByteArray) (a n : Nat) : Bool := decide (1 < n - a) && decide (((s.extract a s.size).data.toList.headD 0).toNat = 48)
/-- A token that begins with a digit. -/
def digT (s : ByteArray) (a : Nat) : Int × Nat × Int × Int :=
  if (zeroB s a (spE isDig s s.size a) || isLet (frs s (spE isDig s s.size a))) = true then (21, 0, 0, 0) else if (parseE (s.extract a (spE isDig s s.size a)).data.toList).1 = 0 then (0, spE isDig s s.size a, 2, (parseE (s.extract a (spE isDig s s.size a)).data.toList).2) else (21, 0, 0, 0)

end Go.Proofs.YtifgmkenfmmelaaDoor
