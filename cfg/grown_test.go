package cfg

import (
	"math/rand/v2"
	"slices"
	"strings"
	"testing"

	"gnomon/api"
)

// like holds the graph of a program against the model's, and answers the error.
func like(t *testing.T, what string, p api.Prog) api.Errno {
	t.Helper()
	want, why := modelled(p)
	c, e := Lower(p)
	if e != why || !same(c, want) {
		t.Fatalf("P9.1: %.900s: %.2000s, %d; want %.2000s, %d", what, whole(c), e, whole(want), why)
	}
	if f := Check(c); e == api.OK && f != api.OK {
		t.Fatalf("P9.4: %.900s: %.2000s: %d", what, whole(c), f)
	}
	return e
}

// TestAllShort: each expression of up to three parts in each place where one can stand, and each condition of up to three parts.
func TestAllShort(t *testing.T) {
	parts := []string{"0", "1", "-1", "--1", "x", "y", "input", "b[1]", "a[y]", "-x", "x + 1"}
	exprs := slices.Clone(parts)
	for _, p := range parts {
		exprs = append(exprs, "-("+p+")", "a["+p+"]", "-a["+p+"]", "--("+p+")")
		for _, q := range parts {
			for _, op := range []string{" + ", " - ", " * ", " / ", " % "} {
				exprs = append(exprs, "("+p+")"+op+"("+q+")")
			}
		}
	}
	check := func(s string) { like(t, s, read(t, "var x; array a[3]; var y; array b[2]; "+s)) }
	for _, e := range exprs {
		for _, form := range []string{
			"x = E;", "b[E] = 3;", "a[x] = E;", "a[input] = E;", "a[E] = x - 1;", "assert E < x;", "assume x <= E; y = E;", "assume y + 1 == E;", "x = 1 - (E);", "y = x * x - (E);", "y = (E) - x * x;", "y = a[E];", "y = -(E);",
			"if E == 0 { x = E; } else { skip; }", "while E != y { y = y + 1; }",
		} {
			check(strings.ReplaceAll(form, "E", e))
		}
	}
	conds := []string{"true", "false", "x < 1", "input == y"}
	for range 2 {
		for _, c := range slices.Clone(conds) {
			conds = append(conds, "!["+c+"]")
			for _, d := range []string{"true", "false", "x > y", "1 <= -x"} {
				conds = append(conds, "["+c+"] && ["+d+"]", "["+d+"] && ["+c+"]", "["+c+"] || ["+d+"]", "["+d+"] || ["+c+"]")
			}
		}
	}
	for _, c := range conds {
		for _, form := range []string{"assert C;", "assume C;", "if C { }", "if C { skip; }", "if C { } else { x = 1; }", "if C { skip; } else { skip; }", "while C { }", "while C { skip; }", "if true { assume C; skip; }"} {
			check(strings.ReplaceAll(form, "C", c))
		}
	}
}

// grower makes sources, the same ones in each run.
type grower struct{ *rand.Rand }

func newGrower(seed uint64) grower { return grower{rand.New(rand.NewPCG(seed, 9))} }

func (g grower) one(of ...string) string { return of[g.IntN(len(of))] }

func (g grower) expr(depth int) string {
	next := func() string { return "(" + g.expr(depth-1) + ")" }
	switch g.IntN(9) * min(depth, 1) {
	case 1:
		return "-" + next()
	case 2:
		return g.one("a[", "b[") + g.expr(depth-1) + "]"
	case 3, 4, 5, 6:
		return next() + g.one(" + ", " + ", " - ", " - ", " * ", " * ", " / ", " % ") + next()
	}
	return g.one("0", "1", "2", "-1", "-3", "--2", "x", "y", "z", "x", "y", "input", "MAX", "-MAX", "a[0]", "-x", "x + 1", "y - 1", "x % 2")
}

func (g grower) cond(depth int) string {
	next := func() string { return "[" + g.cond(depth-1) + "]" }
	switch g.IntN(6) * min(depth, 1) {
	case 1:
		return g.one("true", "false")
	case 2:
		return "!" + next()
	case 3, 4:
		return next() + g.one(" && ", " || ") + next()
	}
	return g.expr(g.IntN(3)) + g.one(" < ", " <= ", " == ", " != ", " > ", " >= ") + g.expr(g.IntN(3))
}

func (g grower) stmt(depth int) string {
	kind := g.IntN(9)
	if depth <= 0 {
		kind = g.IntN(6)
	}
	switch kind {
	case 0, 1:
		return g.one("x = ", "y = ", "z = ") + g.expr(g.IntN(4)) + "; "
	case 2:
		return g.one("a[", "b[") + g.expr(g.IntN(2)) + "] = " + g.expr(g.IntN(3)) + "; "
	case 3, 4:
		return g.one("assume ", "assert ", "assert ") + g.cond(2) + "; "
	case 5:
		return "skip; "
	case 6:
		return "while " + g.cond(2) + " { " + g.stmts(depth-1) + "} "
	}
	s := "if " + g.cond(2) + " { " + g.stmts(depth-1) + "} "
	if g.IntN(2) == 0 {
		s += "else { " + g.stmts(depth-1) + "} "
	}
	return s
}

func (g grower) stmts(depth int) string {
	s := ""
	for range g.IntN(4) {
		s += g.stmt(depth)
	}
	return s
}

func (g grower) prog() string {
	l := []string{"var x; ", "var y; ", "var z; ", "array a[2]; ", "array b[3]; "}
	g.Shuffle(len(l), func(i, j int) { l[i], l[j] = l[j], l[i] })
	s := strings.Join(l, "")
	for range g.IntN(7) {
		s += g.stmt(3)
	}
	return s
}

// TestGrown: programs of all sorts against the model.
func TestGrown(t *testing.T) {
	g := newGrower(1)
	most := 0
	for range 5000 {
		s := g.prog()
		p := read(t, s)
		like(t, s, p)
		c, _ := modelled(p)
		most = max(most, c.Points)
	}
	if most < 150 {
		t.Errorf("only %d points", most)
	}
}

// comb: an expression with temporaries at the depths 0 to depth, or nearly so.
func (g grower) comb(depth int) api.Expr {
	kind := func() int { return api.EAdd + g.IntN(5) }
	e := api.Expr{Kind: kind(), Args: []api.Expr{vari("x0"), constant(2)}}
	for range depth {
		first := api.Expr{Kind: kind(), Args: []api.Expr{constant(3), vari("x0")}}
		switch g.IntN(60) {
		case 0:
			first = vari("x0")
		case 1, 2, 3, 4:
			first = api.Expr{Kind: api.EInput}
		}
		e = api.Expr{Kind: kind(), Args: []api.Expr{first, e}}
	}
	return e
}

// TestGrownAtLimits: as many variables, temporaries and points as graphs may have, some more and some fewer.
func TestGrownAtLimits(t *testing.T) {
	g := newGrower(2)
	count := map[api.Errno]int{}
	for range 300 {
		n := 3 + g.IntN(30)
		var p api.Prog
		for _, name := range strings.Fields(numbered(n, "x# ")) {
			p.Decls = append(p.Decls, api.Decl{Name: name})
		}
		p.Body = []api.Stmt{assign("x0", g.comb(64-n-g.IntN(3)))}
		switch g.IntN(3) {
		case 0:
			p.Body = append(p.Body, slices.Repeat([]api.Stmt{{Kind: api.SAssert, Conds: []api.Cond{{Kind: api.CTrue}}}}, 1310+g.IntN(60))...)
		case 1:
			p.Body = append(p.Body, slices.Repeat([]api.Stmt{skip()}, 3500)...)
		}
		count[like(t, "at limits", p)]++
	}
	for _, e := range []api.Errno{api.OK, api.ErrCfgVars, api.ErrCfgPoints} {
		if count[e] < 35 {
			t.Errorf("error %d: only %d of %v", e, count[e], count)
		}
	}
}
