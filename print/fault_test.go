package print

import (
	"math"
	"slices"
	"testing"

	"gnomon/api"
	"gnomon/tree"
)

// wrongExprs: some that tree.Expr refuses, by its error.
func wrongExprs() map[api.Errno][]api.Expr {
	one := num(1)
	return map[api.Errno][]api.Expr{
		api.ErrTreeForm: {
			{}, {Kind: -1}, {Kind: api.ERem + 1}, {Kind: math.MaxInt}, {Kind: math.MinInt}, num(-1), num(math.MinInt64),
			{Kind: api.ENum, Name: "x"}, {Kind: api.ENum, Args: []api.Expr{one}}, {Kind: api.EVar, Name: "x", Num: 1},
			{Kind: api.EVar, Name: "x", Args: []api.Expr{one}}, {Kind: api.EInput, Name: "x"}, {Kind: api.EInput, Args: []api.Expr{one}},
			{Kind: api.EItem, Name: "a"}, {Kind: api.EItem, Name: "a", Args: []api.Expr{one, one}}, {Kind: api.ENeg},
			{Kind: api.ENeg, Args: []api.Expr{one, one}}, {Kind: api.EAdd}, {Kind: api.ESub, Args: []api.Expr{one}},
			{Kind: api.EMul, Args: []api.Expr{one, one, one}}, {Kind: api.EDiv, Num: 1, Args: []api.Expr{one, one}},
			{Kind: api.ERem, Name: "x", Args: []api.Expr{one, one}},
		},
		api.ErrTreeName: {vari(""), vari("while"), vari("1"), vari("x y"), vari("\xff"), item("", one), item("input", one)},
		api.ErrTreeDeep: {repeated(api.MaxDepth, one, neg), repeated(1000, one, neg)},
		api.ErrTreeMany: {wide(2049, "x"), {Kind: api.EAdd, Args: make([]api.Expr, api.MaxNodes)}},
	}
}

// wrongConds: some that tree.Cond refuses, without those that an expression spoils.
func wrongConds() map[api.Errno][]api.Cond {
	return map[api.Errno][]api.Cond{
		api.ErrTreeForm: {
			{}, {Kind: -1}, {Kind: api.COr + 1}, {Kind: math.MaxInt}, {Kind: math.MinInt}, cmp(num(1), 0, num(1)), cmp(num(1), -1, num(1)), cmp(num(1), api.OpGe+1, num(1)),
			{Kind: api.CTrue, Op: 1}, {Kind: api.CFalse, Parts: []api.Cond{yes()}}, {Kind: api.CTrue, Exprs: []api.Expr{num(1)}},
			{Kind: api.CCmp, Op: 1}, {Kind: api.CCmp, Op: 1, Exprs: []api.Expr{num(1)}}, {Kind: api.CCmp, Op: 1, Exprs: []api.Expr{num(1), num(1), num(1)}},
			{Kind: api.CNot}, {Kind: api.CNot, Op: 1, Parts: []api.Cond{yes()}}, {Kind: api.CNot, Parts: []api.Cond{yes(), yes()}},
			{Kind: api.CAnd, Parts: []api.Cond{yes()}}, {Kind: api.COr, Parts: []api.Cond{yes(), yes(), yes()}}, {Kind: api.CAnd},
		},
		api.ErrTreeDeep: {repeated(api.MaxDepth, yes(), not), repeated(1000, yes(), not)},
		api.ErrTreeMany: {cmp(wide(1024, "x"), 1, wide(1025, "x")), {Kind: api.CAnd, Parts: make([]api.Cond, api.MaxNodes)}},
	}
}

// exprRefuses: an error of tree.Expr, which is told as it is by whatever has the expression.
func exprRefuses(t *testing.T, e api.Expr, want api.Errno) {
	t.Helper()
	if s, f := Expr(e); s != "" || f != want || tree.Expr(e) != want {
		t.Errorf("P5.1: %.60q, %d; want %d", s, f, want)
	}
	condRefuses(t, cmp(e, api.OpLt, num(1)), want)
	condRefuses(t, cmp(num(1), api.OpLt, e), want)
	refuses(t, "SAssign", body(assign("x", e)), want)
	refuses(t, "SStore's index", body(store("a", e, num(1))), want)
	refuses(t, "SStore's value", body(store("a", num(1), e)), want)
}

func condRefuses(t *testing.T, c api.Cond, want api.Errno) {
	t.Helper()
	if s, f := Cond(c); s != "" || f != want || tree.Cond(c) != want {
		t.Errorf("P5.2: %.60q, %d; want %d", s, f, want)
	}
	for _, kind := range []int{api.SIf, api.SWhile, api.SAssert, api.SAssume} {
		refuses(t, "a condition", body(skip(), asks(kind, c)), want)
	}
}

func TestErrorsOfExprs(t *testing.T) {
	for want, l := range wrongExprs() {
		for _, e := range l {
			exprRefuses(t, e, want)
			for _, place := range exprPlaces() {
				exprRefuses(t, place.with(e), want)
			}
		}
	}
}

func TestErrorsOfConds(t *testing.T) {
	for want, l := range wrongConds() {
		for _, c := range l {
			condRefuses(t, c, want)
			for _, place := range condPlaces() {
				condRefuses(t, place.with(c), want)
			}
		}
	}
}

func TestErrorsOfPrograms(t *testing.T) {
	for want, l := range map[api.Errno][]api.Prog{
		api.ErrTreeForm: {
			body(api.Stmt{}), body(api.Stmt{Kind: -1}), body(api.Stmt{Kind: api.SSkip + 1}), body(api.Stmt{Kind: math.MaxInt}),
			body(api.Stmt{Kind: api.SAssign, Name: "x"}), body(api.Stmt{Kind: api.SStore, Name: "x", Exprs: []api.Expr{num(1)}}),
			body(api.Stmt{Kind: api.SIf}), body(api.Stmt{Kind: api.SWhile}), body(api.Stmt{Kind: api.SAssert}), body(api.Stmt{Kind: api.SAssume}),
			body(api.Stmt{Kind: api.SWhile, Conds: []api.Cond{yes()}, Else: []api.Stmt{skip()}}), body(api.Stmt{Kind: api.SSkip, Name: "x"}),
			body(api.Stmt{Kind: api.SSkip, Then: []api.Stmt{skip()}}), body(loop(yes(), skip(), api.Stmt{})), body(choice(yes(), nil, []api.Stmt{{}})),
			{Decls: []api.Decl{{Name: "x", Size: -1}}}, {Decls: []api.Decl{{Name: "x", Size: math.MaxInt32 + 1}}}, {Decls: []api.Decl{{Name: "x", Size: math.MinInt}}},
		},
		api.ErrTreeName: {body(assign("", num(1))), body(assign("if", num(1))), body(store("1", num(1), num(1))), {Decls: make([]api.Decl, 1)}, {Decls: []api.Decl{{Name: "input", Size: 3}}}},
		api.ErrTreeDeep: {body(repeated(api.MaxDepth, skip(), func(s api.Stmt) api.Stmt { return loop(yes(), s) })), body(repeated(api.MaxDepth, skip(), func(s api.Stmt) api.Stmt { return choice(yes(), nil, []api.Stmt{s}) }))},
		api.ErrTreeMany: {body(slices.Repeat([]api.Stmt{skip()}, api.MaxNodes+1)...), {Decls: make([]api.Decl, api.MaxNodes+1)}},
	} {
		for i, p := range l {
			if e := tree.Check(p); e != want {
				t.Fatalf("row %d of %d: tree.Check says %d", i, want, e)
			}
			refuses(t, "a program", p, want)
			// tree.Check's error comes first, however long the text were.
			if want == api.ErrTreeForm || want == api.ErrTreeName {
				p.Decls = slices.Concat(slices.Repeat([]api.Decl{{Name: "a23456789012345678901234567890", Size: 1000}}, 2000), p.Decls)
				refuses(t, "a long program", p, want)
			}
		}
	}
}

// TestTreesThatHaveThemselves: they are told as soon as others.
func TestTreesThatHaveThemselves(t *testing.T) {
	e, c, s := two(api.EAdd, num(1), num(1)), both(api.CAnd, yes(), yes()), loop(yes(), skip(), skip())
	e.Args[1], c.Parts[1], s.Then[1] = e, c, s
	exprRefuses(t, e, api.ErrTreeDeep)
	condRefuses(t, c, api.ErrTreeDeep)
	refuses(t, "a loop in itself", body(s), api.ErrTreeDeep)
	e.Args[0], c.Parts[0] = e, c
	exprRefuses(t, e, api.ErrTreeDeep)
	condRefuses(t, c, api.ErrTreeDeep)
	// One part in many places.
	exprRefuses(t, repeated(20, num(1), func(e api.Expr) api.Expr { return two(api.EMul, e, e) }), api.ErrTreeMany)
	condRefuses(t, repeated(60, yes(), func(c api.Cond) api.Cond { return both(api.COr, c, c) }), api.ErrTreeMany)
}
