package cfg

import (
	"math"
	"slices"
	"strings"
	"testing"

	"gnomon/api"
)

// nested: an expression with n temporaries, where x0 is declared: to the left of each minus is one that is kept.
func nested(n int) api.Expr {
	e := constant(1)
	for range n {
		e = api.Expr{Kind: api.ESub, Args: []api.Expr{{Kind: api.ENeg, Args: []api.Expr{vari("x0")}}, e}}
	}
	return e
}

// temporaries: a program with so many variables and temporaries.
func temporaries(vars, temps int) api.Prog {
	var p api.Prog
	for _, name := range strings.Fields(numbered(vars, "x# ")) {
		p.Decls = append(p.Decls, api.Decl{Name: name})
	}
	p.Body = []api.Stmt{assign("x0", nested(temps))}
	return p
}

// TestManyVariables: variables and temporaries of MaxVars together, and one more.
func TestManyVariables(t *testing.T) {
	if api.MaxVars != 64 || api.MaxPoints != 4096 || api.MaxEdges != 8192 || api.MaxArrays != 16 || api.MaxSize != 1024 || api.ErrCfgVars != 90 || api.ErrCfgPoints != 91 || api.ErrCfgForm != 92 {
		t.Error("unlike the chapter's numbers")
	}
	for vars := 4; vars <= api.MaxScalars; vars++ {
		for temps := api.MaxVars - vars - 2; temps <= api.MaxVars-vars; temps++ {
			c := lowered(t, temporaries(vars, temps))
			if len(c.Vars) != vars || c.Temps != temps {
				t.Fatalf("P9.1: %s; want %d variables, %d temporaries", whole(c), vars, temps)
			}
			takes(t, "many variables", c)
		}
		p := temporaries(vars, api.MaxVars-vars+1)
		bars(t, "one variable more", p, api.ErrCfgVars)
		bars(t, "two more", temporaries(vars+1, api.MaxVars-vars+1), map[bool]api.Errno{true: api.ErrCfgVars, false: api.ErrWellMany}[vars < api.MaxScalars])
		// With more points than may be at the same time, and by a part that no run reaches.
		p.Body = append(p.Body, slices.Repeat([]api.Stmt{{Kind: api.SAssert, Conds: []api.Cond{{Kind: api.CTrue}}}}, 1500)...)
		bars(t, "and more points", p, api.ErrCfgVars)
		p = temporaries(vars, api.MaxVars-vars+1)
		p.Body = []api.Stmt{{Kind: api.SWhile, Conds: []api.Cond{{Kind: api.CFalse}}, Then: p.Body}}
		if vars > 4 { // else it would be too deep
			bars(t, "one variable more, in a loop", p, api.ErrCfgVars)
		}
	}
}

// TestManyPoints: MaxPoints points, and one more.
func TestManyPoints(t *testing.T) {
	repeat := strings.Repeat
	for _, r := range []struct {
		source string
		points int
	}{
		{repeat("skip;", 4094), 4095}, {repeat("skip;", 4095), 4096}, {repeat("skip;", 4096), 4097},
		{repeat("assert true;", 1364), 4093}, {repeat("assert true;", 1365), 4096}, {repeat("assert true;", 1366), 4099}, {repeat("assert true;", 1365) + "skip;", 4097}, {repeat("assert true;", 1364) + "skip; skip; skip;", 4096},
		{repeat("assert true;", 1363) + "if true { skip; } skip; skip; skip; skip;", 4096}, {repeat("assert true;", 1363) + "if true { skip; } skip; skip; skip; skip; skip;", 4097},
		{repeat("assert true;", 1362) + "if true { skip; } else { skip; } while true { skip; } assume input < 1; skip;", 4095}, {repeat("assert true;", 1362) + "if true && true { skip; } else { skip; } while true { skip; } assume input < 1 || true; skip;", 4097},
	} {
		p := read(t, r.source)
		if want, _ := modelled(p); r.points <= 4096 && want.Points != r.points {
			t.Fatalf("%.90s: the model has %d points, not %d", r.source, want.Points, r.points)
		}
		if r.points > 4096 {
			bars(t, r.source, p, api.ErrCfgPoints)
		} else if c := lowered(t, p); c.Points != r.points || Check(c) != api.OK {
			t.Errorf("P9.1: %.90s: %d points, %d; want %d", r.source, c.Points, Check(c), r.points)
		}
	}
	// As many edges as a program can have.
	c := lowered(t, read(t, "var x;"+repeat("while x < 1 { }", 1023)))
	if c.Points != 1024 || len(c.Edges) != 2046 {
		t.Errorf("P9.1: %d points, %d edges", c.Points, len(c.Edges))
	}
	takes(t, "many edges", c)
}

// noPrograms: programs that aren't well, and well.Check's error.
func noPrograms(t *testing.T) []struct {
	p    api.Prog
	want api.Errno
} {
	endless := []api.Stmt{{Kind: api.SWhile, Conds: []api.Cond{{Kind: api.CTrue}}}}
	endless[0].Then = endless
	return []struct {
		p    api.Prog
		want api.Errno
	}{
		{body(api.Stmt{}), api.ErrTreeForm}, {body(api.Stmt{Kind: api.SAssign, Name: "x"}), api.ErrTreeForm}, {body(api.Stmt{Kind: api.SStore, Name: "a"}), api.ErrTreeForm},
		{body(api.Stmt{Kind: api.SIf}), api.ErrTreeForm}, {body(api.Stmt{Kind: api.SWhile}), api.ErrTreeForm}, {body(api.Stmt{Kind: api.SAssert}), api.ErrTreeForm}, {body(api.Stmt{Kind: api.SAssume}), api.ErrTreeForm},
		{body(api.Stmt{Kind: api.SAssume, Conds: []api.Cond{{}}}), api.ErrTreeForm}, {body(api.Stmt{Kind: api.SAssert, Conds: []api.Cond{{Kind: api.CAnd}}}), api.ErrTreeForm},
		{body(api.Stmt{Kind: 8}), api.ErrTreeForm}, {body(api.Stmt{Kind: -1}), api.ErrTreeForm},
		{body(assign("x", api.Expr{})), api.ErrTreeForm}, {body(assign("x", constant(-1))), api.ErrTreeForm}, {body(assign("x", api.Expr{Kind: api.ENeg})), api.ErrTreeForm},
		{body(assign("x", api.Expr{Kind: 11})), api.ErrTreeForm}, {body(assign("x", api.Expr{Kind: api.EItem, Name: "a"})), api.ErrTreeForm},
		{body(assign("while", constant(1))), api.ErrTreeName}, {body(assign("", constant(1))), api.ErrTreeName},
		{body(endless...), api.ErrTreeDeep}, {body(slices.Repeat([]api.Stmt{skip()}, api.MaxNodes+1)...), api.ErrTreeMany},
		{read(t, "var x; var x;"), api.ErrWellTwice}, {read(t, "array a[1025];"), api.ErrWellSize}, {read(t, numbered(33, "var x#;")), api.ErrWellMany}, {read(t, numbered(17, "array x#[1];")), api.ErrWellMany},
		{read(t, "x = 1;"), api.ErrWellNone}, {read(t, "var x; if false { y = x; }"), api.ErrWellNone}, {read(t, "array a[1]; a = 1;"), api.ErrWellKind}, {read(t, "var x; x = x[0];"), api.ErrWellKind},
	}
}

// TestNoPrograms: well.Check's error, ahead of the layer's own.
func TestNoPrograms(t *testing.T) {
	for _, r := range noPrograms(t) {
		bars(t, "no program", r.p, r.want)
	}
	p := temporaries(32, 33)
	p.Body = append(p.Body, slices.Repeat([]api.Stmt{{Kind: api.SAssert, Conds: []api.Cond{{Kind: api.CTrue}}}}, 1500)...)
	bars(t, "too much of all", p, api.ErrCfgVars)
	p.Body = append(p.Body, assign("none", constant(1)))
	bars(t, "and no program", p, api.ErrWellNone)
}

// TestDeep: each sort of part, as deep as a tree may be.
func TestDeep(t *testing.T) {
	e, c, s := vari("x"), api.Cond{Kind: api.CTrue}, skip()
	for range api.MaxDepth - 2 {
		e = api.Expr{Kind: api.ENeg, Args: []api.Expr{e}}
		c = api.Cond{Kind: api.CNot, Parts: []api.Cond{c}}
		s = api.Stmt{Kind: api.SIf, Conds: []api.Cond{{Kind: api.CTrue}}, Then: []api.Stmt{s}}
	}
	p := body(assign("x", e), api.Stmt{Kind: api.SAssume, Conds: []api.Cond{c}}, api.Stmt{Kind: api.SWhile, Conds: []api.Cond{{Kind: api.CTrue}}, Then: []api.Stmt{s}})
	p.Decls = []api.Decl{{Name: "x"}}
	got := lowered(t, p)
	if got.Points != 4+61+1+62 || got.Temps != 1 || len(got.Edges) != 62+1+1+63 {
		t.Errorf("P9.1: %s", drawn(got))
	}
	like(t, "deep", p)
	takes(t, "deep", got)
	p.Body[2].Then = []api.Stmt{{Kind: api.SIf, Conds: []api.Cond{{Kind: api.CTrue}}, Then: p.Body[2].Then}}
	bars(t, "too deep", p, api.ErrTreeDeep)
}

// TestGraphsOfManyVariables: each number of variables and temporaries about MaxVars, and those far from it.
func TestGraphsOfManyVariables(t *testing.T) {
	for vars := range 68 {
		for temps := -3; temps <= 68; temps++ {
			c := api.Cfg{Vars: make([]string, vars), Temps: temps, Points: 1}
			if temps < 0 || vars+temps > 64 {
				refuses(t, "variables", c, api.ErrCfgVars)
			} else {
				takes(t, "variables", c)
			}
		}
		for _, temps := range []int{math.MinInt64, math.MinInt64 + 64, -1 << 32, 1 << 32, math.MaxInt64 - 64, math.MaxInt64} {
			refuses(t, "variables", api.Cfg{Vars: make([]string, vars), Temps: temps, Points: 1}, api.ErrCfgVars)
		}
	}
	refuses(t, "variables", api.Cfg{Vars: make([]string, 1<<20), Points: 1}, api.ErrCfgVars)
	refuses(t, "variables", api.Cfg{Vars: make([]string, 1<<20), Temps: -1 << 20, Points: 1}, api.ErrCfgVars)
}

// circle: a graph of as many points as may be, all of them but Exit with two edges: 8190.
func circle() api.Cfg {
	c := api.Cfg{Points: api.MaxPoints, Exit: api.MaxPoints - 1}
	for point := range c.Exit {
		e := edgeOf(point, point+1, api.KAssume)
		e.Op = api.OpLt
		c.Edges = append(c.Edges, sides(e)...)
		c.Edges[2*point+1].To = 0
	}
	return c
}

// TestGraphsOfManyPoints: points and edges, at the limits and past them.
func TestGraphsOfManyPoints(t *testing.T) {
	for _, n := range []int{1, 2, 4095, 4096} {
		takes(t, "points", api.Cfg{Points: n, Exit: n - 1})
	}
	for _, n := range []int{math.MinInt64, -1 << 32, -2, -1, 0, 4097, 8192, 1 << 32, math.MaxInt64} {
		refuses(t, "points", api.Cfg{Points: n}, api.ErrCfgPoints)
	}
	c := circle()
	a := takes(t, "a circle", c)
	if len(c.Edges) != 8190 || !slices.Equal(a.heads, []int{0}) || len(a.order) != 4096 || a.order[4095] != 4095 || slices.Contains(a.reached, false) {
		t.Errorf("P9.3: %d edges, heads %v", len(c.Edges), a.heads)
	}
	// No point has room for more edges, so with more of them the form is another one, and with more still they are too many.
	for n := 8191; n <= 8194; n++ {
		c.Edges = append(c.Edges, edgeOf(0, 1, api.KNop))
		refuses(t, "edges", c, map[bool]api.Errno{true: api.ErrCfgForm, false: api.ErrCfgPoints}[n <= 8192])
	}
	refuses(t, "edges", api.Cfg{Points: 1, Edges: make([]api.Edge, 8192)}, api.ErrCfgForm)
	refuses(t, "edges", api.Cfg{Points: 1, Edges: make([]api.Edge, 8193)}, api.ErrCfgPoints)
	refuses(t, "edges", api.Cfg{Points: 1, Edges: make([]api.Edge, 1<<20)}, api.ErrCfgPoints)
	// The room behind a list is none of it.
	takes(t, "room", api.Cfg{Vars: make([]string, 64, 99), Arrays: make([]api.Decl, 0, 99), Points: 1, Edges: make([]api.Edge, 0, 9999)})
}

// TestWhichErrorComesFirst: variables, points, then the form.
func TestWhichErrorComesFirst(t *testing.T) {
	form := []func(c *api.Cfg){
		func(c *api.Cfg) { c.Exit = c.Points },
		func(c *api.Cfg) { c.Exit = -1 },
		func(c *api.Cfg) { c.Arrays = make([]api.Decl, 1) },
		func(c *api.Cfg) { c.Arrays = slices.Repeat([]api.Decl{{Size: 1}}, 17) },
		func(c *api.Cfg) { c.Edges = append(c.Edges, api.Edge{}) },
		func(c *api.Cfg) { c.Edges = append(c.Edges, edgeOf(1<<40, -1<<40, 1<<40)) },
	}
	points := []func(c *api.Cfg){
		func(c *api.Cfg) { c.Points = 0 }, func(c *api.Cfg) { c.Points = -1 }, func(c *api.Cfg) { c.Points = 4097 }, func(c *api.Cfg) { c.Edges = make([]api.Edge, 8193) },
	}
	vars := []func(c *api.Cfg){
		func(c *api.Cfg) { c.Temps = -1 }, func(c *api.Cfg) { c.Temps = 65 }, func(c *api.Cfg) { c.Vars = make([]string, 65) }, func(c *api.Cfg) { c.Vars, c.Temps = make([]string, 64), 1 },
	}
	bent := func(l ...func(c *api.Cfg)) api.Cfg {
		c := api.Cfg{Points: 1}
		for _, f := range l {
			f(&c)
		}
		return c
	}
	for _, f := range form {
		refuses(t, "form", bent(f), api.ErrCfgForm)
		for _, g := range points {
			refuses(t, "points", bent(g), api.ErrCfgPoints)
			refuses(t, "points, form", bent(g, f), api.ErrCfgPoints)
			refuses(t, "form, points", bent(f, g), api.ErrCfgPoints)
			for _, h := range vars {
				refuses(t, "variables", bent(h), api.ErrCfgVars)
				refuses(t, "variables, form", bent(h, f), api.ErrCfgVars)
				refuses(t, "variables, points", bent(h, g), api.ErrCfgVars)
				refuses(t, "all", bent(h, g, f), api.ErrCfgVars)
				refuses(t, "all", bent(f, g, h), api.ErrCfgVars)
			}
		}
	}
}
