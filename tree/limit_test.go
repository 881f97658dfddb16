package tree

import (
	"math/rand"
	"slices"
	"testing"

	"gnomon/api"
)

// skips: n statements, one node each.
func skips(n int) []api.Stmt { return slices.Repeat([]api.Stmt{skip()}, n) }

// wants holds the errors of Check, Depth, Nodes, Names and Copy of p against one.
func wants(t *testing.T, what string, p api.Prog, want api.Errno) {
	t.Helper()
	_, a := Depth(p)
	_, b := Nodes(p)
	_, c := Names(p)
	_, d := Copy(p)
	if e := Check(p); e != want || a != want || b != want || c != want || d != want {
		t.Errorf("P3.2: %s: %d, %d, %d, %d, %d; want %d", what, e, a, b, c, d, want)
	}
}

func TestDepthLimit(t *testing.T) {
	not := yes()
	for n := range 70 {
		want := api.OK
		if n > 63 {
			want = api.ErrTreeDeep
		}
		// Each has a node at depth n + 1, and none deeper.
		if e := Expr(negated(n, num(1))); e != want {
			t.Errorf("P3.2: Expr at depth %d: %d, want %d", n+1, e, want)
		}
		if e := Cond(not); e != want {
			t.Errorf("P3.2: Cond at depth %d: %d, want %d", n+1, e, want)
		}
		wants(t, "Then", body(blocks(n, false, skip())), want)
		wants(t, "Else", body(blocks(n, true, skip())), want)
		if n > 0 {
			wants(t, "Args", body(set("x", negated(n-1, num(1)))), want)
			wants(t, "the second of Args", body(skip(), set("x", item("a", num(1))), store("x", num(1), negated(n-1, num(1)))), want)
			wants(t, "Exprs of Then", body(blocks(n-1, false, set("x", num(1)))), want)
		}
		not = join(api.CNot, not)
	}
}

func TestDepthLimitOfCondsAndParts(t *testing.T) {
	for _, last := range []struct {
		c   api.Cond
		own int // its depth
	}{
		{yes(), 1}, {join(api.CNot, yes()), 2}, {held(num(1), api.OpLt, num(1)), 2}, {held(num(1), api.OpLt, op(api.ENeg, num(1))), 3},
	} {
		c, own := last.c, last.own
		for own < 66 {
			want := api.OK
			if own > 64 {
				want = api.ErrTreeDeep
			}
			if e := Cond(c); e != want {
				t.Errorf("P3.2: Cond of depth %d: %d, want %d", own, e, want)
			}
			want = api.OK
			if own > 63 {
				want = api.ErrTreeDeep
			}
			wants(t, "Conds", body(asked(api.SAssert, c)), want)
			c, own = join(api.COr, yes(), c), own+1
		}
	}
}

func TestNodeLimit(t *testing.T) {
	wide := func(n int) api.Expr { return op(api.EAdd, slices.Repeat([]api.Expr{num(1)}, n)...) }
	wants(t, "4096 statements", body(skips(4096)...), api.OK)
	wants(t, "4097 statements", body(skips(4097)...), api.ErrTreeMany)
	wants(t, "4096 without form", body(make([]api.Stmt, 4096)...), api.ErrTreeForm)
	wants(t, "4097 without form", body(make([]api.Stmt, 4097)...), api.ErrTreeMany)
	wants(t, "4096 declarations", api.Prog{Decls: slices.Repeat([]api.Decl{{Name: "x"}}, 4096)}, api.OK)
	wants(t, "4097 declarations", api.Prog{Decls: slices.Repeat([]api.Decl{{Name: "x"}}, 4097)}, api.ErrTreeMany)
	wants(t, "both, 4096", api.Prog{Decls: slices.Repeat([]api.Decl{{Name: "x"}}, 4095), Body: skips(1)}, api.OK)
	wants(t, "both, 4097", api.Prog{Decls: slices.Repeat([]api.Decl{{Name: "x"}}, 4095), Body: skips(2)}, api.ErrTreeMany)
	wants(t, "4096 without names", api.Prog{Decls: make([]api.Decl, 4096)}, api.ErrTreeName)
	wants(t, "4097 without names", api.Prog{Decls: make([]api.Decl, 4097)}, api.ErrTreeMany)
	wants(t, "Then, 4096", body(asked(api.SWhile, yes(), skips(4094)...)), api.OK)
	wants(t, "Then, 4097", body(asked(api.SWhile, yes(), skips(4095)...)), api.ErrTreeMany)
	wants(t, "Else, 4096", body(branch(yes(), skips(1), skips(4093))), api.OK)
	wants(t, "Else, 4097", body(branch(yes(), skips(1), skips(4094))), api.ErrTreeMany)
	wants(t, "Args, 4096", body(set("x", wide(4094))), api.ErrTreeForm)
	wants(t, "Args, 4097", body(set("x", wide(4095))), api.ErrTreeMany)
	wants(t, "Conds, 4097", body(api.Stmt{Conds: make([]api.Cond, 4096)}), api.ErrTreeMany)
	wants(t, "Exprs, 4097", body(api.Stmt{Exprs: make([]api.Expr, 4096)}), api.ErrTreeMany)
	wants(t, "the last one's argument", body(append(skips(4094), set("x", num(1)))...), api.OK)
	wants(t, "the last one's argument too much", body(append(skips(4095), set("x", num(1)))...), api.ErrTreeMany)
	for _, c := range []struct {
		n    int
		want api.Errno
	}{{4095, api.ErrTreeForm}, {4096, api.ErrTreeMany}, {1 << 20, api.ErrTreeMany}} {
		if e := Expr(wide(c.n)); e != c.want {
			t.Errorf("P3.2: Expr with %d within: %d, want %d", c.n, e, c.want)
		}
		if e := Cond(join(api.CAnd, slices.Repeat([]api.Cond{yes()}, c.n)...)); e != c.want {
			t.Errorf("P3.2: Cond with %d within: %d, want %d", c.n, e, c.want)
		}
	}
}

func TestWhichLimitIsMetFirst(t *testing.T) {
	// Its node at depth 65 has 64 nodes of its own ahead of it.
	deep := set("x", negated(63, num(1)))
	for n, want := range map[int]api.Errno{0: api.ErrTreeDeep, 4030: api.ErrTreeDeep, 4031: api.ErrTreeDeep, 4032: api.ErrTreeMany, 4033: api.ErrTreeMany, 4096: api.ErrTreeMany} {
		wants(t, "statements, then a deep one", body(append(skips(n), deep)...), want)
		wants(t, "declarations, then a deep one", api.Prog{Decls: make([]api.Decl, n), Body: []api.Stmt{deep}}, want)
	}
	wants(t, "a deep one, then many", body(append([]api.Stmt{deep}, skips(5000)...)...), api.ErrTreeDeep)
	wants(t, "many, then a deep one", body(append(skips(5000), deep)...), api.ErrTreeMany)
	wants(t, "many declarations, then a deep one", api.Prog{Decls: make([]api.Decl, 5000), Body: []api.Stmt{deep}}, api.ErrTreeMany)
	for i, first := range []api.Stmt{{Conds: []api.Cond{{Exprs: make([]api.Expr, 5000), Parts: []api.Cond{held(num(1), 1, negated(70, num(1)))}}}},
		{Exprs: make([]api.Expr, 5000), Then: []api.Stmt{deep}}, {Then: skips(5000), Else: []api.Stmt{deep}}, {Conds: make([]api.Cond, 5000), Exprs: deep.Exprs}} {
		wants(t, "the order of lists, row "+string(rune('0'+i)), body(first), api.ErrTreeMany)
	}
	for i, first := range []api.Stmt{{Conds: []api.Cond{{Exprs: []api.Expr{negated(70, num(1))}, Parts: make([]api.Cond, 5000)}}},
		{Exprs: []api.Expr{negated(70, num(1))}, Then: skips(5000)}, {Then: []api.Stmt{deep}, Else: skips(5000)}, {Conds: []api.Cond{held(num(1), 1, negated(70, num(1)))}, Exprs: make([]api.Expr, 5000)}} {
		wants(t, "the order of lists, deep row "+string(rune('0'+i)), body(first), api.ErrTreeDeep)
	}
}

func TestLimitsAheadOfFormAndNames(t *testing.T) {
	deep := set("x", negated(70, num(1)))
	wrong := []api.Stmt{{}, set("if", num(1)), set("x", num(-1)), {Kind: -1, Name: "if"}}
	for _, s := range wrong {
		wants(t, "wrong, then deep", body(s, deep), api.ErrTreeDeep)
		wants(t, "deep, then wrong", body(deep, s), api.ErrTreeDeep)
		wants(t, "wrong, then many", body(append([]api.Stmt{s}, skips(4096)...)...), api.ErrTreeMany)
		wants(t, "many, then wrong", body(append(skips(4096), s)...), api.ErrTreeMany)
	}
	wants(t, "wrong at depth 65", body(set("x", negated(63, api.Expr{}))), api.ErrTreeDeep)
	wants(t, "wrong at depth 64", body(set("x", negated(62, api.Expr{}))), api.ErrTreeForm)
	wants(t, "no name at depth 65", body(set("x", negated(63, variable("if")))), api.ErrTreeDeep)
	wants(t, "no name at depth 64", body(set("x", negated(62, variable("if")))), api.ErrTreeName)
	wants(t, "wrong as node 4096", body(append(skips(4095), api.Stmt{})...), api.ErrTreeForm)
	wants(t, "wrong as node 4097", body(append(skips(4096), api.Stmt{})...), api.ErrTreeMany)
	wants(t, "no name as node 4096", body(append(skips(4094), set("x", variable("if")))...), api.ErrTreeName)
	wants(t, "where nothing may stand", body(api.Stmt{Kind: api.SSkip, Then: []api.Stmt{deep}}), api.ErrTreeDeep)
	wants(t, "in a kind that is none", body(api.Stmt{Kind: 99, Exprs: []api.Expr{{Kind: 99, Args: slices.Repeat([]api.Expr{num(1)}, 5000)}}}), api.ErrTreeMany)
}

func TestOnePartInManyPlaces(t *testing.T) {
	e, c, s := num(1), yes(), skip()
	for range 60 {
		e, c, s = op(api.EAdd, e, e), join(api.CAnd, c, c), branch(yes(), []api.Stmt{s}, []api.Stmt{s})
	}
	if a, b := Expr(e), Cond(c); a != api.ErrTreeMany || b != api.ErrTreeMany {
		t.Errorf("P3.2: doubled 60 times: %d, %d", a, b)
	}
	wants(t, "expressions", body(set("x", e)), api.ErrTreeMany)
	wants(t, "conditions", body(asked(api.SAssert, c)), api.ErrTreeMany)
	wants(t, "statements", body(s), api.ErrTreeMany)
	e = num(1)
	for range 10 {
		e = op(api.EAdd, e, e)
	}
	tells(t, body(set("x", e)), 2048, 12, "x")
	p := slices.Repeat([]api.Stmt{set("x", e)}, 2)
	tells(t, body(p...), 4096, 12, "x")
	wants(t, "and one more", body(append(p, skip())...), api.ErrTreeMany)
}

func TestTreesThatHaveThemselves(t *testing.T) {
	deep, many := api.ErrTreeDeep, api.ErrTreeMany
	for _, r := range []struct {
		wide      int       // how many others stand ahead of itself
		top, next api.Errno // if it begins at depth 1, at depth 2
	}{
		// The first node at depth 65 has 64 + 63 wide nodes ahead of it, or 64 + 62 wide.
		{0, deep, deep}, {1, deep, deep}, {63, deep, deep}, {64, many, deep}, {65, many, deep}, {66, many, many}, {5000, many, many},
	} {
		e := api.Expr{Kind: api.ENeg, Args: slices.Repeat([]api.Expr{num(1)}, r.wide+1)}
		e.Args[r.wide] = e
		c := api.Cond{Kind: api.CNot, Parts: slices.Repeat([]api.Cond{yes()}, r.wide+1)}
		c.Parts[r.wide] = c
		if a, b := Expr(e), Cond(c); a != r.top || b != r.top {
			t.Errorf("P3.2: itself behind %d more: %d, %d; want %d", r.wide, a, b, r.top)
		}
		s := api.Stmt{Kind: api.SWhile, Then: skips(r.wide + 1)}
		s.Then[r.wide] = s
		o := api.Stmt{Kind: api.SIf, Else: skips(r.wide + 1)}
		o.Else[r.wide] = o
		wants(t, "Args", body(set("x", e)), r.next)
		wants(t, "Parts", body(asked(api.SAssert, c)), r.next)
		wants(t, "Then", body(s), r.top)
		wants(t, "Else", body(o), r.top)
		if p := body(s); Equal(p, p) || Equal(p, api.Prog{}) || Equal(api.Prog{}, p) {
			t.Error("P3.3: Equal of a tree that has itself")
		}
	}
	l := make([]api.Stmt, 2)
	l[0] = api.Stmt{Kind: api.SIf, Then: l, Else: l}
	l[1] = api.Stmt{Kind: api.SIf, Then: l, Else: l}
	wants(t, "a list in its own items", body(l...), api.ErrTreeDeep)
}

// seen: a node of a tree as a model that knows no kinds of its own goes through it.
type seen struct {
	depth int
	bad   api.Errno
}

func modelExpr(l []seen, e api.Expr, depth int) []seen {
	l = append(l, seen{depth, wantExpr(e)})
	for _, a := range e.Args {
		l = modelExpr(l, a, depth+1)
	}
	return l
}

func modelCond(l []seen, c api.Cond, depth int) []seen {
	l = append(l, seen{depth, wantCond(c)})
	for _, e := range c.Exprs {
		l = modelExpr(l, e, depth+1)
	}
	for _, p := range c.Parts {
		l = modelCond(l, p, depth+1)
	}
	return l
}

func modelStmt(l []seen, s api.Stmt, depth int) []seen {
	l = append(l, seen{depth, wantStmt(s)})
	for _, c := range s.Conds {
		l = modelCond(l, c, depth+1)
	}
	for _, e := range s.Exprs {
		l = modelExpr(l, e, depth+1)
	}
	for _, b := range append(slices.Clone(s.Then), s.Else...) {
		l = modelStmt(l, b, depth+1)
	}
	return l
}

// model: all nodes of a finite tree, however deep and many.
func model(p api.Prog) []seen {
	var l []seen
	for _, d := range p.Decls {
		l = append(l, seen{1, grade(d.Size >= 0 && d.Size < 1<<31, d.Name == "x")})
	}
	for _, s := range p.Body {
		l = modelStmt(l, s, 1)
	}
	return l
}

// modelCheck: P3.2, and the greatest depth.
func modelCheck(l []seen) (int, api.Errno) {
	deepest, bad := 0, []api.Errno{}
	for i, s := range l {
		if i == api.MaxNodes {
			return 0, api.ErrTreeMany
		}
		if s.depth > api.MaxDepth {
			return 0, api.ErrTreeDeep
		}
		deepest, bad = max(deepest, s.depth), append(bad, s.bad)
	}
	for _, e := range []api.Errno{api.ErrTreeForm, api.ErrTreeName} {
		if slices.Contains(bad, e) {
			return 0, e
		}
	}
	return deepest, api.OK
}

// grower grows trees by a row of numbers that is always the same.
type grower struct {
	*rand.Rand
	wrong, misnamed int // of how many parts, or names, one is wrong; 0: none
	rest            int // nodes that may still be made
}

func (g *grower) slip() bool { return g.wrong > 0 && g.Intn(g.wrong) == 0 }

func (g *grower) name() string {
	if g.misnamed > 0 && g.Intn(g.misnamed) == 0 {
		return triedNames()[g.Intn(4)]
	}
	return "x"
}

func (g *grower) expr(deep int) api.Expr {
	g.rest--
	kind := 1 + g.Intn(10)
	if deep == 0 || g.rest <= 0 {
		kind = 1 + g.Intn(3)
	}
	e := api.Expr{Kind: kind}
	many := exprRows()[kind-1].args
	if exprRows()[kind-1].named {
		e.Name = g.name()
	}
	if g.slip() {
		many, e.Kind = g.Intn(3), g.Intn(12)
	}
	if g.slip() {
		e.Num, e.Name = g.Int63n(3)-1, g.name()
	}
	for range many {
		e.Args = append(e.Args, g.expr(deep-1))
	}
	return e
}

func (g *grower) cond(deep int) api.Cond {
	g.rest--
	kind := 1 + g.Intn(6)
	if deep <= 1 || g.rest <= 0 {
		kind = 1 + g.Intn(2)
	}
	r := condRows()[kind-1]
	c := api.Cond{Kind: kind, Op: r.ops[g.Intn(len(r.ops))]}
	if g.slip() {
		c.Kind, c.Op = g.Intn(8), g.Intn(8)
	}
	for range r.exprs {
		c.Exprs = append(c.Exprs, g.expr(deep-1))
	}
	for range r.parts {
		c.Parts = append(c.Parts, g.cond(deep-1))
	}
	return c
}

func (g *grower) stmt(deep int) api.Stmt {
	g.rest--
	kind := 1 + g.Intn(7)
	if deep <= 1 || g.rest <= 0 {
		kind = api.SSkip
	}
	r := stmtRows()[kind-1]
	s := api.Stmt{Kind: kind}
	if r.named {
		s.Name = g.name()
	}
	for range r.exprs {
		s.Exprs = append(s.Exprs, g.expr(deep-1))
	}
	for range r.conds {
		s.Conds = append(s.Conds, g.cond(deep-1))
	}
	if r.then {
		s.Then = g.stmts(deep-1, g.Intn(3))
	}
	if r.other || g.slip() {
		s.Else = g.stmts(deep-1, g.Intn(3))
	}
	return s
}

func (g *grower) stmts(deep, n int) []api.Stmt {
	var l []api.Stmt
	for range n {
		l = append(l, g.stmt(deep))
	}
	return l
}

func (g *grower) prog() api.Prog {
	var p api.Prog
	for range g.Intn(4) {
		p.Decls = append(p.Decls, api.Decl{Name: g.name(), Size: g.Intn(3)})
	}
	for g.rest > 0 {
		deep := 0
		if g.rest < 300 && g.Intn(10) == 0 {
			deep = g.Intn(70)
		}
		g.rest -= 2 * deep
		p.Body = append(p.Body, blocks(deep, g.Intn(2) == 0, g.stmt(2+g.Intn(10))))
	}
	return p
}

// grown: n programs, small and great, right and wrong.
func grown(n int) []api.Prog {
	r := rand.New(rand.NewSource(3))
	var l []api.Prog
	for i := range n {
		g := &grower{r, []int{0, 0, 1000, 10}[i%4], []int{0, 50, 0, 10}[i%4], []int{5, 50, 300, 4080 + r.Intn(20)}[i/4%4]}
		l = append(l, g.prog())
	}
	return l
}

func TestAgainstModel(t *testing.T) {
	met := map[api.Errno]int{}
	for i, p := range grown(800) {
		l := model(p)
		depth, want := modelCheck(l)
		met[want]++
		wants(t, "a grown one", p, want)
		if n, e := Nodes(p); e == api.OK && n != len(l) {
			t.Errorf("P3.3: program %d: %d nodes, want %d", i, n, len(l))
		}
		if d, _ := Depth(p); d != depth {
			t.Errorf("P3.3: program %d: depth %d, want %d", i, d, depth)
		}
	}
	for _, e := range []api.Errno{api.OK, api.ErrTreeForm, api.ErrTreeName, api.ErrTreeDeep, api.ErrTreeMany} {
		if met[e] < 20 {
			t.Errorf("the model met error %d only %d times", e, met[e])
		}
	}
}
