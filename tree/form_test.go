package tree

import (
	"math"
	"slices"
	"testing"

	"gnomon/api"
)

// grade: the error of a node of which it is known whether its form and its Name are as they must be.
func grade(form, named bool) api.Errno {
	switch {
	case !form:
		return api.ErrTreeForm
	case !named:
		return api.ErrTreeName
	}
	return api.OK
}

// exprRow: how an expression of a kind must be.
type exprRow struct {
	kind  int
	nums  []int64 // which of those tried it may have
	named bool
	args  int
}

// exprRows: P3.1, of expressions. Kinds that it doesn't list are none.
func exprRows() []exprRow {
	zero := []int64{0}
	return []exprRow{
		{1, []int64{0, 1, math.MaxInt64}, false, 0}, {2, zero, true, 0}, {3, zero, false, 0}, {4, zero, true, 1}, {5, zero, false, 1},
		{6, zero, false, 2}, {7, zero, false, 2}, {8, zero, false, 2}, {9, zero, false, 2}, {10, zero, false, 2},
	}
}

func wantExpr(e api.Expr) api.Errno {
	for _, r := range exprRows() {
		if r.kind == e.Kind {
			return grade(slices.Contains(r.nums, e.Num) && (r.named || e.Name == "") && len(e.Args) == r.args, !r.named || e.Name == "x")
		}
	}
	return api.ErrTreeForm
}

func triedKinds() []int {
	return []int{math.MinInt, -256, -2, -1, 0, 1, 2, 3, 4, 5, 6, 7, 8, 9, 10, 11, 12, 257, 1 << 32, 1<<32 + 1, math.MaxInt}
}

func triedNames() []string { return []string{"", "x", "while", "1"} }

func TestFormOfExpressions(t *testing.T) {
	args := slices.Repeat([]api.Expr{num(1)}, 4)
	for _, kind := range triedKinds() {
		for _, n := range []int64{math.MinInt64, -1, 0, 1, math.MaxInt64} {
			for _, s := range triedNames() {
				for many := range len(args) + 1 {
					e := api.Expr{Kind: kind, Num: n, Name: s, Args: args[:many]}
					want := wantExpr(e)
					for where, got := range exprEverywhere(e) {
						if got != want {
							t.Errorf("P3.1: %v, place %d: %d, want %d", e, where, got, want)
						}
					}
				}
			}
		}
	}
}

// exprEverywhere: the errors of things that have their form, but for e, which each has somewhere.
func exprEverywhere(e api.Expr) []api.Errno {
	c := held(num(1), api.OpLt, e)
	return []api.Errno{
		Expr(e), Expr(op(api.ENeg, e)), Expr(op(api.EAdd, e, num(1))), Expr(op(api.ERem, num(1), negated(5, e))), Expr(item("a", e)),
		Cond(c), Cond(held(e, api.OpGe, num(1))), Cond(join(api.COr, yes(), join(api.CNot, c))),
		Check(body(set("x", e))), Check(body(store("x", e, num(1)))), Check(body(skip(), store("x", num(1), e))),
		Check(body(asked(api.SWhile, c))), Check(body(asked(api.SWhile, yes(), set("x", e)))), Check(body(branch(yes(), nil, []api.Stmt{skip(), set("x", e)}))),
	}
}

// condRow: how a condition of a kind must be.
type condRow struct {
	kind         int
	ops          []int
	exprs, parts int
}

// condRows: P3.1, of conditions.
func condRows() []condRow {
	zero := []int{0}
	return []condRow{{1, zero, 0, 0}, {2, zero, 0, 0}, {3, []int{1, 2, 3, 4, 5, 6}, 2, 0}, {4, zero, 0, 1}, {5, zero, 0, 2}, {6, zero, 0, 2}}
}

func wantCond(c api.Cond) api.Errno {
	for _, r := range condRows() {
		if r.kind == c.Kind {
			return grade(slices.Contains(r.ops, c.Op) && len(c.Exprs) == r.exprs && len(c.Parts) == r.parts, true)
		}
	}
	return api.ErrTreeForm
}

func TestFormOfConditions(t *testing.T) {
	exprs, parts := slices.Repeat([]api.Expr{num(1)}, 3), slices.Repeat([]api.Cond{yes()}, 3)
	for _, kind := range triedKinds() {
		for _, how := range []int{math.MinInt, -1, 0, 1, 2, 3, 4, 5, 6, 7, 8, 1<<32 + 1, math.MaxInt} {
			for i := range len(exprs) + 1 {
				for j := range len(parts) + 1 {
					c := api.Cond{Kind: kind, Op: how, Exprs: exprs[:i], Parts: parts[:j]}
					want := wantCond(c)
					for where, got := range []api.Errno{
						Cond(c), Cond(join(api.CNot, c)), Cond(join(api.CAnd, c, yes())), Cond(join(api.COr, yes(), join(api.CNot, c))),
						Check(body(asked(api.SAssert, c))), Check(body(asked(api.SAssume, c))), Check(body(branch(c, nil, nil))),
						Check(body(asked(api.SWhile, yes(), skip(), asked(api.SWhile, join(api.CAnd, yes(), c))))),
					} {
						if got != want {
							t.Errorf("P3.1: %v, place %d: %d, want %d", c, where, got, want)
						}
					}
				}
			}
		}
	}
}

// stmtRow: how a statement of a kind must be.
type stmtRow struct {
	kind         int
	named        bool
	exprs, conds int
	then, other  bool // whether these may be other than empty
}

// stmtRows: P3.1, of statements.
func stmtRows() []stmtRow {
	return []stmtRow{
		{1, true, 1, 0, false, false}, {2, true, 2, 0, false, false}, {3, false, 0, 1, true, true}, {4, false, 0, 1, true, false},
		{5, false, 0, 1, false, false}, {6, false, 0, 1, false, false}, {7, false, 0, 0, false, false},
	}
}

func wantStmt(s api.Stmt) api.Errno {
	for _, r := range stmtRows() {
		if r.kind == s.Kind {
			form := len(s.Exprs) == r.exprs && len(s.Conds) == r.conds && (r.then || len(s.Then) == 0) && (r.other || len(s.Else) == 0)
			return grade(form && (r.named || s.Name == ""), !r.named || s.Name == "x")
		}
	}
	return api.ErrTreeForm
}

func TestFormOfStatements(t *testing.T) {
	for _, kind := range triedKinds() {
		for _, s := range triedNames() {
			for shape := range 4 * 3 * 3 * 3 {
				p := api.Stmt{
					Kind: kind, Name: s,
					Exprs: slices.Repeat([]api.Expr{num(1)}, shape%4),
					Conds: slices.Repeat([]api.Cond{yes()}, shape/4%3),
					Then:  slices.Repeat([]api.Stmt{skip()}, shape/12%3),
					Else:  slices.Repeat([]api.Stmt{skip()}, shape/36),
				}
				want := wantStmt(p)
				for where, got := range []api.Errno{
					Check(body(p)), Check(body(skip(), p)), Check(body(asked(api.SWhile, yes(), p))),
					Check(body(branch(yes(), []api.Stmt{skip(), p}, nil))), Check(body(branch(yes(), nil, []api.Stmt{blocks(3, true, p)}))),
				} {
					if got != want {
						t.Errorf("P3.1: %v, place %d: %d, want %d", p, where, got, want)
					}
				}
			}
		}
	}
}

func TestFormOfDeclarations(t *testing.T) {
	for size, form := range map[int]bool{
		math.MinInt: false, -1 << 31: false, -1: false, 0: true, 1: true, 1024: true, 1025: true, 1<<31 - 2: true, 1<<31 - 1: true,
		1 << 31: false, 1<<31 + 1: false, 1 << 32: false, 1<<32 + 1: false, math.MaxInt: false,
	} {
		for _, s := range triedNames() {
			want := grade(form, s == "x")
			if e := Check(api.Prog{Decls: []api.Decl{{Name: s, Size: size}}}); e != want {
				t.Errorf("P3.1: %q of size %d: %d, want %d", s, size, e, want)
			}
			if e := Check(api.Prog{Decls: []api.Decl{{Name: "y"}, {Name: s, Size: size}}, Body: []api.Stmt{skip()}}); e != want {
				t.Errorf("P3.1: %q of size %d behind another: %d, want %d", s, size, e, want)
			}
		}
	}
}

func TestFormAheadOfNames(t *testing.T) {
	noForm := []api.Stmt{{}, set("x", num(-1)), set("if", num(-1)), {Kind: api.SSkip, Name: "if"}, asked(api.SAssert, api.Cond{}), set("x", op(api.ENeg)), set("x", op(api.EInput, variable("if")))}
	noName := []api.Stmt{set("if", num(1)), set("x", variable("")), store("1", num(1), num(1)), asked(api.SAssert, held(num(1), api.OpLt, item("true", num(1))))}
	for i, a := range noForm {
		for j, b := range noName {
			for _, p := range []api.Prog{body(a, b), body(b, a), body(asked(api.SWhile, yes(), b), a), body(branch(yes(), []api.Stmt{b}, []api.Stmt{a})), {Decls: []api.Decl{{Name: "if"}}, Body: []api.Stmt{a}}} {
				if e := Check(p); e != api.ErrTreeForm {
					t.Errorf("P3.2: rows %d, %d: %d", i, j, e)
				}
			}
		}
	}
	for want, l := range map[api.Errno][]api.Decl{
		api.ErrTreeForm: {{Name: "if"}, {Name: "x", Size: -1}},
		api.ErrTreeName: {{Name: "x", Size: 1}, {}},
	} {
		if e := Check(api.Prog{Decls: l}); e != want {
			t.Errorf("P3.2: %v: %d, want %d", l, e, want)
		}
	}
	if e := Expr(op(api.EAdd, variable("if"), num(-1))); e != api.ErrTreeForm {
		t.Errorf("P3.2: Expr: %d", e)
	}
	if e := Cond(held(variable("if"), 7, num(1))); e != api.ErrTreeForm {
		t.Errorf("P3.2: Cond: %d", e)
	}
}

func TestNilAndEmptyListsHaveOneForm(t *testing.T) {
	e := api.Expr{Kind: api.ENum, Args: []api.Expr{}}
	c := api.Cond{Kind: api.CTrue, Exprs: []api.Expr{}, Parts: []api.Cond{}}
	s := api.Stmt{Kind: api.SSkip, Exprs: []api.Expr{}, Conds: []api.Cond{}, Then: []api.Stmt{}, Else: []api.Stmt{}}
	if a, b, c := Expr(e), Cond(c), Check(body(s)); a != api.OK || b != api.OK || c != api.OK {
		t.Errorf("P3.1: %d, %d, %d", a, b, c)
	}
}
