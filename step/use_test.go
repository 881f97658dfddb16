package step

import (
	"strings"
	"testing"

	"gnomon/api"
	"gnomon/cfg"
	"gnomon/run"
)

// alike holds the outcomes of a program, run as a tree and as its graph, against each other, for each number of steps up to most or some more than there are, and answers how it stands at last.
func alike(t *testing.T, p api.Prog, c api.Cfg, script []int64, most int) string {
	t.Helper()
	for k := range most + 1 {
		want, e := run.Run(p, script, k)
		o, point, f := Run(c, script, k)
		if e != api.OK || f != api.OK || told(o, 0) != told(want, 0) {
			t.Fatalf("P10.4: %+v on %v, %d steps: %s, %d; want %s, %d", p, script, k, told(o, 0), f, told(want, 0), e)
		}
		if point < 0 || point >= c.Points || o.Status == api.Running && point == c.Exit {
			t.Fatalf("P10.2: %+v on %v, %d steps: at %d", p, script, k, point)
		}
		if k > o.Steps+1 || k == most {
			return standing(o)
		}
	}
	return ""
}

// TestProgramsAlike: each sort of statement, expression and condition, with each way that it can go.
func TestProgramsAlike(t *testing.T) {
	for _, s := range []string{
		"", "var x;", "skip;", "var x; x = 1; x = x + 2;", "var x; x = (x + 1) * input;", "while true { }", "while true { skip; }", "while false { skip; } skip;", "assert 1 < 0;", "assert 0 < 1; skip;", "var x; x = input;", "assume 1 < 0; skip;", "assume true; skip;", "assume false; skip;",
		"var x; x = --input; x = -x; x = ---3; x = -x - -x;", "var x; var y; x = input / input; y = input % x; x = y * y * y * y * y * y;", "var x; x = MAX; x = x + input; x = x - input;",
		"array a[3]; var i; while i < 4 { a[i] = i * i; i = i + 1; }", "array a[3]; a[input] = input; a[a[1]] = a[2] + a[input];", "array a[2]; array b[3]; var x; b[1] = input; a[b[1]] = 1; x = a[b[1] - 1] + b[a[b[1]]];",
		"var x; x = input; if x < 0 || !x > 3 && true { x = -x; } else { x = 7 % x; } assert x != 5;", "var x; if input < input { } else { } x = input;", "var x; if input == 1 { x = 2; } x = x + 1; if x >= 3 { } else { assert false; }",
		"var x; while x < 3 && input != 0 { x = x + 1; assert x < 3 || input == 1; } assume x <= 2; skip;", "var x; while input > 0 { while input > 0 { x = x + 1; } x = x * 2; }", "var x; assume [input < 0 || input > 0] && ![input == 1]; x = 1 / x;",
		"var x; assert ![true && ![false || input != 1]] || x / x == 1;", "var x; var y; x = (input - y) * (input - (x - (y - input)));", "assert true; assert !false; assert false; skip;",
	} {
		p := source(t, s)
		c := lowered(t, p)
		for _, l := range [][]int64{nil, {5}, {0, 0}, {-3, 1}, {1, 1, 1}, {1, 2, 3, 4}, {0, 1, 0, 1, 0, 1}, {least, most, least}, {most, 1}, {least, -1}, {2, 0, 1, 5, 5, 5}, {3}, {-1}, {1, 0}} {
			alike(t, p, c, l, 60)
		}
	}
}

// exprOf: an expression with so much within it, of trees that no source may spell so.
func (g grower) exprOf(depth int) api.Expr {
	kind := []int{api.ENum, api.ENum, api.EVar, api.EVar, api.EInput, api.EItem, api.ENeg, api.EAdd, api.EAdd, api.ESub, api.ESub, api.EMul, api.EDiv, api.ERem}[g.IntN(14)]
	if depth <= 0 {
		kind = []int{api.ENum, api.EVar, api.EVar, api.EInput}[g.IntN(4)]
	}
	e := api.Expr{Kind: kind}
	switch kind {
	case api.ENum:
		e.Num = []int64{0, 1, 2, 3, g.Int64N(9), most}[g.IntN(6)]
	case api.EVar:
		e.Name = []string{"x", "y"}[g.IntN(2)]
	case api.EItem:
		e.Name = []string{"a", "b"}[g.IntN(2)]
		e.Args = []api.Expr{g.exprOf(depth - 2)}
	case api.ENeg:
		e.Args = []api.Expr{g.exprOf(depth - 1)}
	case api.EAdd, api.ESub, api.EMul, api.EDiv, api.ERem:
		e.Args = []api.Expr{g.exprOf(depth - 1), g.exprOf(depth - 1)}
	}
	return e
}

func (g grower) condOf(depth int) api.Cond {
	c := api.Cond{Kind: []int{api.CCmp, api.CCmp, api.CNot, api.CAnd, api.COr, api.CTrue, api.CFalse}[g.IntN(7)]}
	if depth <= 0 {
		c.Kind = api.CCmp
	}
	switch c.Kind {
	case api.CCmp:
		c.Op, c.Exprs = 1+g.IntN(6), []api.Expr{g.exprOf(g.IntN(3)), g.exprOf(g.IntN(2))}
	case api.CNot:
		c.Parts = []api.Cond{g.condOf(depth - 1)}
	case api.CAnd, api.COr:
		c.Parts = []api.Cond{g.condOf(depth - 1), g.condOf(depth - 1)}
	}
	return c
}

func (g grower) stmtOf(depth int) api.Stmt {
	s := api.Stmt{Kind: []int{api.SAssign, api.SAssign, api.SStore, api.SAssert, api.SAssume, api.SSkip, api.SIf, api.SIf, api.SWhile, api.SWhile}[g.IntN(10-4*max(0, 1-depth))]}
	switch s.Kind {
	case api.SAssign:
		s.Name, s.Exprs = []string{"x", "y"}[g.IntN(2)], []api.Expr{g.exprOf(g.IntN(4))}
	case api.SStore:
		s.Name, s.Exprs = []string{"a", "b"}[g.IntN(2)], []api.Expr{g.exprOf(g.IntN(2)), g.exprOf(g.IntN(3))}
	case api.SAssert, api.SAssume:
		s.Conds = []api.Cond{g.condOf(2)}
	case api.SIf:
		s.Conds, s.Then, s.Else = []api.Cond{g.condOf(2)}, g.block(depth-1), g.block(depth-1)
	case api.SWhile:
		s.Conds, s.Then = []api.Cond{g.condOf(1)}, g.block(depth-1)
	}
	return s
}

func (g grower) block(depth int) []api.Stmt {
	var l []api.Stmt
	for range g.IntN(4) {
		l = append(l, g.stmtOf(depth))
	}
	return l
}

func (g grower) prog() api.Prog {
	p := api.Prog{Decls: []api.Decl{{Name: "x"}, {Name: "a", Size: 1 + g.IntN(4)}, {Name: "b", Size: 1 + g.IntN(4)}, {Name: "y"}}}
	g.Shuffle(4, func(i, j int) { p.Decls[i], p.Decls[j] = p.Decls[j], p.Decls[i] })
	for range 1 + g.IntN(6) {
		p.Body = append(p.Body, g.stmtOf(3))
	}
	return p
}

// TestGrownProgramsAlike: programs of all sorts, with scripts of all sorts.
func TestGrownProgramsAlike(t *testing.T) {
	g := newGrower(3)
	how := map[string]int{}
	for range 4000 {
		p := g.prog()
		c, e := cfg.Lower(p)
		if e != api.OK {
			t.Fatalf("%+v has no graph: %d", p, e)
		}
		for _, l := range [][]int64{nil, g.script(), {1, 2, 0, 1, 3, 1, 1, 0, 2, 1}} {
			how[alike(t, p, c, l, 45)]++
		}
	}
	for _, s := range strings.Fields("R H O Z B A") {
		if how[s] < 200 {
			t.Errorf("%s: only %d", s, how[s])
		}
	}
}

// TestLongProgramsAlike: programs that take many steps and inputs, at all their lengths near some, up to the limits.
func TestLongProgramsAlike(t *testing.T) {
	full := make([]int64, api.MaxScript)
	for i := range full {
		full[i] = int64(i % 7)
	}
	for _, s := range []string{
		"var x; while true { x = input; }", "var x; var n; array a[7]; while true { x = input; a[x] = a[x] + x; n = n + 1; assert a[x] <= n * 7; }", "var x; while x < 20000 { x = x + 1; } assert x != 20000;",
		"var x; while input != 7 { x = x + 1; if x == 9000 { x = x / (x - 9000); } }", "var x; x = 1; while true { x = x * 3 - x * 2 + 1; }", "var n; array a[1024]; while true { a[n] = n; n = n + 1; }",
	} {
		p := source(t, s)
		c := lowered(t, p)
		for _, n := range []int{0, 1, 1000, 65535, 65536} {
			for _, k := range []int{0, 1, 2, 999, 1000, 1001, 4096, 65534, 65535, 65536} {
				want, _ := run.Run(p, full[:n], k)
				if o, _, e := Run(c, full[:n], k); e != api.OK || told(o, 0) != told(want, 0) {
					t.Errorf("P10.4: %s with %d inputs, %d steps: %.200s, %d; want %.200s", s, n, k, told(o, 0), e, told(want, 0))
				}
			}
		}
	}
}
