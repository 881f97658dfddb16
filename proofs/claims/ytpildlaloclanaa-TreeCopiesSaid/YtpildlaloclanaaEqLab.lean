/-
  Two labels of nodes are compared part by part: proved is what the comparison of the struct (with its array) answers.
-/
import Derived.Test.YtpildlaloclanaaLabel
import Derived.ChangeKeysEq
import Derived.Laws.StructEq
namespace Go.Proofs.Ytpildlaloclanaa
open Go Go.RowKit
theorem eq_intK {P : Program} {t : TypeId} {q : IntKind} (hu : P.underlying t = some (.int q)) (d : Nat) (a b : Int) (w : World) : (Op.equalIn (d + 1) t (.int q a) (.int q b)).run P w = .ok (a == b) w := by
  simp [Op.equalIn, run_underlying hu]
theorem eq_strK {P : Program} {t : TypeId} (hu : P.underlying t = some .string) (d : Nat) (a b : ByteArray) (w : World) : (Op.equalIn (d + 1) t (.string a) (.string b)).run P w = .ok (a.toList == b.toList) w := run_equalIn_string w d t a b hu
theorem eq_int (d : Nat) (a b : Int) (w : World) : (Op.equalIn (d + 1) 3 (.int .i64 a) (.int .i64 b)).run Try.prog w = .ok (a == b) w := eq_intK (by kernel_rfl) d a b w
theorem part_int (cs : Array Value) (i : Nat) (v : Value) (h : cs[i]? = some v) (w : World) : (part 3 cs i).run Try.prog w = .ok v w := by
  have h2 : Try.prog.underlying 3 = some (.int .i64) := by kernel_rfl
  simp [part, isAgg, run_underlying h2, h]
theorem eq_arr (d : Nat) (a0 a1 a2 a3 b0 b1 b2 b3 : Int) (w : World) : (Op.equalIn (d + 1 + 1) 119 (.agg #[.int .i64 a0, .int .i64 a1, .int .i64 a2, .int .i64 a3]) (.agg #[.int .i64 b0, .int .i64 b1, .int .i64 b2, .int .i64 b3])).run Try.prog w = .ok ((a0 == b0) && (a1 == b1) && (a2 == b2) && (a3 == b3)) w := by
  have h1 : Try.prog.underlying 119 = some (.array 4 3) := by kernel_rfl
  have h3 : (Try.prog.info? 3).map (fun i => i.size) = some 1 := by kernel_rfl
  have h4 : Try.prog.cellsOf 3 = 1 := by kernel_rfl
  obtain ⟨i, hi, _⟩ := Option.map_eq_some_iff.1 h3
  clear h3
  rw [run_equalIn_array w (d + 1) _ _ h1 hi, h4, show List.range 4 = [0, 1, 2, 3] from rfl]
  have p0 : ∀ (w : World) (x y z u : Value), (part 3 #[x, y, z, u] 0).run Try.prog w = .ok x w := fun w x y z u => part_int _ 0 _ rfl w
  have p1 : ∀ (w : World) (x y z u : Value), (part 3 #[x, y, z, u] 1).run Try.prog w = .ok y w := fun w x y z u => part_int _ 1 _ rfl w
  have p2 : ∀ (w : World) (x y z u : Value), (part 3 #[x, y, z, u] 2).run Try.prog w = .ok z w := fun w x y z u => part_int _ 2 _ rfl w
  have p3 : ∀ (w : World) (x y z u : Value), (part 3 #[x, y, z, u] 3).run Try.prog w = .ok u w := fun w x y z u => part_int _ 3 _ rfl w
  simp only [Op.eqItems, Sem.run_bind, Nat.mul_one, p0, eq_int, Result.andThen_ok]
  by_cases g0 : a0 = b0 <;> by_cases g1 : a1 = b1 <;> by_cases g2 : a2 = b2 <;> by_cases g3 : a3 = b3 <;> simp [p1, p2, p3, eq_int, g0, g1, g2, g3]
theorem eq_lab (l k n c0 c1 c2 c3 l' k' n' d0 d1 d2 d3 : Int) (s s' : ByteArray) (w : World) :
    (binOp .eql 121 (.agg #[.int .u8 l, .int .i64 k, .int .i64 n, .string s, .int .i64 c0, .int .i64 c1, .int .i64 c2, .int .i64 c3]) (.agg #[.int .u8 l', .int .i64 k', .int .i64 n', .string s', .int .i64 d0, .int .i64 d1, .int .i64 d2, .int .i64 d3])).run Try.prog w
      = .ok (.bool ((l == l') && (k == k') && (n == n') && (s.toList == s'.toList) && ((c0 == d0) && (c1 == d1) && (c2 == d2) && (c3 == d3)))) w := by
  have h4 : Try.prog.underlying 119 = some (.array 4 3) := by kernel_rfl
  have h5 : Try.prog.underlying 3 = some (.int .i64) := by kernel_rfl
  have h6 : Try.prog.underlying 2 = some (.int .i64) := by kernel_rfl
  have h7 : Try.prog.underlying 5 = some (.int .u8) := by kernel_rfl
  have h8 : Try.prog.underlying 9 = some .string := by kernel_rfl
  have hst : Try.prog.stoodInHeld 121 = false := by kernel_rfl
  have hi : (Try.prog.info? 119).map (fun i => i.size) = some 4 := by kernel_rfl
  obtain ⟨i, hi, hs⟩ := Option.map_eq_some_iff.1 hi
  have hft : Try.prog.underlying 121 = some (.struct (Try.prog.fieldsOf 121)) := by kernel_rfl
  have hfs : (Try.prog.fieldsOf 121).toList.map (fun f => (f.name, f.type, f.offset)) = [("letter", 5, 0), ("kind", 3, 1), ("num", 2, 2), ("name", 9, 3), ("counts", 119, 4)] := by kernel_rfl
  simp only [binOp, Op.equal, Op.maxDepth, Sem.run_bind]
  rw [show (10000 : Nat) = 9999 + 1 from rfl, run_equalIn_struct _ _ _ _ _ hft hst]
  obtain ⟨fs, hfs0⟩ : ∃ fs, (Try.prog.fieldsOf 121).toList = fs := ⟨_, rfl⟩
  rw [hfs0] at hfs ⊢
  clear hfs0 hft hst
  obtain ⟨f0, fs, rfl, hf0, hfs⟩ := List.map_eq_cons_iff.1 hfs
  obtain ⟨f1, fs, rfl, hf1, hfs⟩ := List.map_eq_cons_iff.1 hfs
  obtain ⟨f2, fs, rfl, hf2, hfs⟩ := List.map_eq_cons_iff.1 hfs
  obtain ⟨f3, fs, rfl, hf3, hfs⟩ := List.map_eq_cons_iff.1 hfs
  obtain ⟨f4, fs, rfl, hf4, hfs⟩ := List.map_eq_cons_iff.1 hfs
  obtain rfl := List.map_eq_nil_iff.1 hfs
  simp only [Prod.mk.injEq] at hf0 hf1 hf2 hf3 hf4
  obtain ⟨n0, t0, o0⟩ := hf0
  obtain ⟨n1, t1, o1⟩ := hf1
  obtain ⟨n2, t2, o2⟩ := hf2
  obtain ⟨n3, t3, o3⟩ := hf3
  obtain ⟨n4, t4, o4⟩ := hf4
  have m0 : ("letter" : String) ≠ "_" := by decide
  have m1 : ("kind" : String) ≠ "_" := by decide
  have m2 : ("num" : String) ≠ "_" := by decide
  have m3 : ("name" : String) ≠ "_" := by decide
  have m4 : ("counts" : String) ≠ "_" := by decide
  have q0 : ∀ w, (part 5 #[Value.int .u8 l, .int .i64 k, .int .i64 n, .string s, .int .i64 c0, .int .i64 c1, .int .i64 c2, .int .i64 c3] 0).run Try.prog w = .ok (.int .u8 l) w := fun w => by simp [part, isAgg, run_underlying h7]
  have q1 : ∀ w, (part 3 #[Value.int .u8 l, .int .i64 k, .int .i64 n, .string s, .int .i64 c0, .int .i64 c1, .int .i64 c2, .int .i64 c3] 1).run Try.prog w = .ok (.int .i64 k) w := fun w => by simp [part, isAgg, run_underlying h5]
  have q2 : ∀ w, (part 2 #[Value.int .u8 l, .int .i64 k, .int .i64 n, .string s, .int .i64 c0, .int .i64 c1, .int .i64 c2, .int .i64 c3] 2).run Try.prog w = .ok (.int .i64 n) w := fun w => by simp [part, isAgg, run_underlying h6]
  have q3 : ∀ w, (part 9 #[Value.int .u8 l, .int .i64 k, .int .i64 n, .string s, .int .i64 c0, .int .i64 c1, .int .i64 c2, .int .i64 c3] 3).run Try.prog w = .ok (.string s) w := fun w => by simp [part, isAgg, run_underlying h8]
  have q4 : ∀ w, (part 119 #[Value.int .u8 l, .int .i64 k, .int .i64 n, .string s, .int .i64 c0, .int .i64 c1, .int .i64 c2, .int .i64 c3] 4).run Try.prog w = .ok (.agg #[.int .i64 c0, .int .i64 c1, .int .i64 c2, .int .i64 c3]) w := fun w => by simp [part, isAgg, run_underlying h4, sizeOf, typeInfo, hi, hs]
  have r0 : ∀ w, (part 5 #[Value.int .u8 l', .int .i64 k', .int .i64 n', .string s', .int .i64 d0, .int .i64 d1, .int .i64 d2, .int .i64 d3] 0).run Try.prog w = .ok (.int .u8 l') w := fun w => by simp [part, isAgg, run_underlying h7]
  have r1 : ∀ w, (part 3 #[Value.int .u8 l', .int .i64 k', .int .i64 n', .string s', .int .i64 d0, .int .i64 d1, .int .i64 d2, .int .i64 d3] 1).run Try.prog w = .ok (.int .i64 k') w := fun w => by simp [part, isAgg, run_underlying h5]
  have r2 : ∀ w, (part 2 #[Value.int .u8 l', .int .i64 k', .int .i64 n', .string s', .int .i64 d0, .int .i64 d1, .int .i64 d2, .int .i64 d3] 2).run Try.prog w = .ok (.int .i64 n') w := fun w => by simp [part, isAgg, run_underlying h6]
  have r3 : ∀ w, (part 9 #[Value.int .u8 l', .int .i64 k', .int .i64 n', .string s', .int .i64 d0, .int .i64 d1, .int .i64 d2, .int .i64 d3] 3).run Try.prog w = .ok (.string s') w := fun w => by simp [part, isAgg, run_underlying h8]
  have r4 : ∀ w, (part 119 #[Value.int .u8 l', .int .i64 k', .int .i64 n', .string s', .int .i64 d0, .int .i64 d1, .int .i64 d2, .int .i64 d3] 4).run Try.prog w = .ok (.agg #[.int .i64 d0, .int .i64 d1, .int .i64 d2, .int .i64 d3]) w := fun w => by simp [part, isAgg, run_underlying h4, sizeOf, typeInfo, hi, hs]
  have e0 : ∀ w, (Op.equalIn 9999 5 (.int .u8 l) (.int .u8 l')).run Try.prog w = .ok (l == l') w := fun w => eq_intK h7 9998 l l' w
  have e1 : ∀ w, (Op.equalIn 9999 3 (.int .i64 k) (.int .i64 k')).run Try.prog w = .ok (k == k') w := fun w => eq_intK h5 9998 k k' w
  have e2 : ∀ w, (Op.equalIn 9999 2 (.int .i64 n) (.int .i64 n')).run Try.prog w = .ok (n == n') w := fun w => eq_intK h6 9998 n n' w
  have e3 : ∀ w, (Op.equalIn 9999 9 (.string s) (.string s')).run Try.prog w = .ok (s.toList == s'.toList) w := fun w => eq_strK h8 9998 s s' w
  have e4 : ∀ w, (Op.equalIn 9999 119 (.agg #[.int .i64 c0, .int .i64 c1, .int .i64 c2, .int .i64 c3]) (.agg #[.int .i64 d0, .int .i64 d1, .int .i64 d2, .int .i64 d3])).run Try.prog w = .ok ((c0 == d0) && (c1 == d1) && (c2 == d2) && (c3 == d3)) w := fun w => eq_arr 9997 c0 c1 c2 c3 d0 d1 d2 d3 w
  clear h4 h5 h6 h7 h8
  simp only [Op.eqFields, n0, t0, o0, n1, t1, o1, n2, t2, o2, n3, t3, o3, n4, t4, o4, m0, m1, m2, m3, m4, ne_eq, not_false_eq_true, if_true, Sem.run_bind, q0, r0, e0, Result.andThen_ok]
  cases (l == l') with
  | false => simp
  | true =>
    simp only [Bool.not_true, Bool.false_eq_true, if_false, Sem.run_bind, q1, r1, e1, Result.andThen_ok]
    cases (k == k') with
    | false => simp
    | true =>
      simp only [Bool.not_true, Bool.false_eq_true, if_false, Sem.run_bind, q2, r2, e2, Result.andThen_ok]
      cases (n == n') with
      | false => simp
      | true =>
        simp only [Bool.not_true, Bool.false_eq_true, if_false, Sem.run_bind, q3, r3, e3, Result.andThen_ok]
        cases (s.toList == s'.toList) with
        | false => simp
        | true =>
          simp only [Bool.not_true, Bool.false_eq_true, if_false, Sem.run_bind, q4, r4, e4, Result.andThen_ok]
          cases ((c0 == d0) && (c1 == d1) && (c2 == d2) && (c3 == d3)) <;> simp
end Go.Proofs.Ytpildlaloclanaa
