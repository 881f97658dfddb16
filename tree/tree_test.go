package tree

import (
	"slices"
	"strings"
	"testing"
	"unsafe"

	"gnomon/api"
	"gnomon/lex"
)

func num(n int64) api.Expr { return api.Expr{Kind: api.ENum, Num: n} }

func variable(s string) api.Expr { return api.Expr{Kind: api.EVar, Name: s} }

func item(s string, at api.Expr) api.Expr {
	return api.Expr{Kind: api.EItem, Name: s, Args: []api.Expr{at}}
}

func op(kind int, args ...api.Expr) api.Expr { return api.Expr{Kind: kind, Args: args} }

func held(a api.Expr, how int, b api.Expr) api.Cond {
	return api.Cond{Kind: api.CCmp, Op: how, Exprs: []api.Expr{a, b}}
}

func join(kind int, parts ...api.Cond) api.Cond { return api.Cond{Kind: kind, Parts: parts} }

func set(s string, e api.Expr) api.Stmt {
	return api.Stmt{Kind: api.SAssign, Name: s, Exprs: []api.Expr{e}}
}

func store(s string, at, e api.Expr) api.Stmt {
	return api.Stmt{Kind: api.SStore, Name: s, Exprs: []api.Expr{at, e}}
}

func asked(kind int, c api.Cond, then ...api.Stmt) api.Stmt {
	return api.Stmt{Kind: kind, Conds: []api.Cond{c}, Then: then}
}

func branch(c api.Cond, then, other []api.Stmt) api.Stmt {
	return api.Stmt{Kind: api.SIf, Conds: []api.Cond{c}, Then: then, Else: other}
}

func skip() api.Stmt { return api.Stmt{Kind: api.SSkip} }

func yes() api.Cond { return api.Cond{Kind: api.CTrue} }

func body(l ...api.Stmt) api.Prog { return api.Prog{Body: l} }

// negated: e with n signs ahead.
func negated(n int, e api.Expr) api.Expr {
	for range n {
		e = op(api.ENeg, e)
	}
	return e
}

// blocks: s in n blocks, of which each is an Else or a Then as other says.
func blocks(n int, other bool, s api.Stmt) api.Stmt {
	for range n {
		if other {
			s = branch(yes(), nil, []api.Stmt{s})
		} else {
			s = asked(api.SWhile, yes(), s)
		}
	}
	return s
}

// rich: a program with every kind of node; names that its nodes bring are named by the order in which they do.
func rich() api.Prog {
	return api.Prog{
		Decls: []api.Decl{{Name: "n1"}, {Name: "n2", Size: 7}, {Name: "n3"}},
		Body: []api.Stmt{
			set("n4", op(api.EAdd, variable("n5"), num(3))),
			store("n6", op(api.ESub, item("n7", variable("n8")), op(api.EInput)), op(api.EMul, num(0), variable("n9"))),
			branch(
				join(api.CAnd, held(variable("n10"), api.OpLt, num(1)), join(api.CNot, yes())),
				[]api.Stmt{skip(), set("n11", op(api.EDiv, num(1<<63-1), variable("n12")))},
				[]api.Stmt{asked(api.SAssert, held(op(api.ENeg, variable("n13")), api.OpGe, num(2))), skip()},
			),
			asked(api.SWhile, join(api.COr, api.Cond{Kind: api.CFalse}, held(num(1), api.OpNe, variable("n14"))),
				asked(api.SAssume, yes()), set("n15", op(api.ERem, variable("n1"), variable("n16")))),
			skip(),
		},
	}
}

// faulty: a program for each error of Check.
func faulty() map[api.Errno]api.Prog {
	return map[api.Errno]api.Prog{
		api.ErrTreeForm: {Decls: []api.Decl{{Name: "x"}}, Body: []api.Stmt{set("x", num(-1))}},
		api.ErrTreeName: {Decls: []api.Decl{{Name: "x"}}, Body: []api.Stmt{set("x", variable("while"))}},
		api.ErrTreeDeep: {Decls: []api.Decl{{Name: "x"}}, Body: []api.Stmt{set("x", negated(63, num(1)))}},
		api.ErrTreeMany: {Decls: []api.Decl{{Name: "x"}}, Body: make([]api.Stmt, api.MaxNodes)},
	}
}

func TestExamples(t *testing.T) {
	p := api.Prog{Decls: []api.Decl{{Name: "x"}}, Body: []api.Stmt{set("x", op(api.EAdd, variable("x"), num(1)))}}
	n, e := Nodes(p)
	d, f := Depth(p)
	l, g := Names(p)
	if n != 5 || d != 3 || !slices.Equal(l, []string{"x"}) || e != api.OK || f != api.OK || g != api.OK {
		t.Errorf("P3.3: %d, %d, %v, %d, %d, %d", n, d, l, e, f, g)
	}
	if e := Expr(num(-1)); e != api.ErrTreeForm {
		t.Errorf("P3.2: ENum of -1: %d", e)
	}
	if e := Expr(variable("while")); e != api.ErrTreeName {
		t.Errorf("P3.2: EVar while: %d", e)
	}
	if e := Check(body(blocks(64, false, skip()))); e != api.ErrTreeDeep {
		t.Errorf("P3.2: a skip in 64 blocks: %d", e)
	}
}

// tells holds p against how many nodes it has, how deep it is, and its names.
func tells(t *testing.T, p api.Prog, nodes, depth int, names ...string) {
	t.Helper()
	if e := Check(p); e != api.OK {
		t.Errorf("P3.2: Check: %d", e)
	}
	if n, e := Nodes(p); n != nodes || e != api.OK {
		t.Errorf("P3.3: Nodes: %d, %d; want %d", n, e, nodes)
	}
	if d, e := Depth(p); d != depth || e != api.OK {
		t.Errorf("P3.3: Depth: %d, %d; want %d", d, e, depth)
	}
	if l, e := Names(p); !slices.Equal(l, names) || e != api.OK {
		t.Errorf("P3.3: Names: %v, %d; want %v", l, e, names)
	}
}

func TestTells(t *testing.T) {
	tells(t, api.Prog{}, 0, 0)
	tells(t, api.Prog{Decls: []api.Decl{}, Body: []api.Stmt{}}, 0, 0)
	tells(t, api.Prog{Decls: []api.Decl{{Name: "x"}}}, 1, 1, "x")
	tells(t, body(skip()), 1, 1)
	tells(t, body(skip(), skip()), 2, 1)
	tells(t, body(set("x", num(0))), 2, 2, "x")
	tells(t, body(set("x", item("a", variable("y")))), 3, 3, "x", "a", "y")
	tells(t, body(asked(api.SAssert, yes())), 2, 2)
	tells(t, body(asked(api.SAssert, held(num(1), api.OpEq, variable("x")))), 4, 3, "x")
	tells(t, body(asked(api.SAssume, join(api.CNot, join(api.CNot, yes())))), 4, 4)
	tells(t, body(asked(api.SWhile, yes(), set("x", num(0)))), 4, 3, "x")
	tells(t, body(branch(yes(), nil, nil)), 2, 2)
	tells(t, body(branch(yes(), nil, []api.Stmt{set("x", num(0))})), 4, 3, "x")
	tells(t, body(set("x", negated(9, num(0))), skip()), 12, 11, "x")
	tells(t, rich(), 46, 5, "n1", "n2", "n3", "n4", "n5", "n6", "n7", "n8", "n9", "n10", "n11", "n12", "n13", "n14", "n15", "n16")
}

func TestDepthAndNodesAtTheLimits(t *testing.T) {
	tells(t, body(set("x", negated(62, num(1)))), 64, 64, "x")
	tells(t, body(blocks(63, false, skip())), 127, 64)
	tells(t, body(blocks(63, true, skip())), 127, 64)
	tells(t, body(slices.Repeat([]api.Stmt{skip()}, 4096)...), 4096, 1)
	tells(t, api.Prog{Decls: slices.Repeat([]api.Decl{{Name: "x"}}, 4096)}, 4096, 1, "x")
}

func TestNamesInOrderAndOnce(t *testing.T) {
	d := []api.Decl{{Name: "c"}, {Name: "a", Size: 1}, {Name: "c"}}
	tells(t, api.Prog{Decls: d}, 3, 1, "c", "a")
	tells(t, api.Prog{Decls: d, Body: []api.Stmt{set("b", variable("a")), set("b", variable("d")), set("c", variable("e"))}}, 9, 2, "c", "a", "b", "d", "e")
	tells(t, body(set("é", variable("É")), set("É", variable("e"))), 4, 2, "é", "É", "e")
	tells(t, body(store("z", variable("y"), variable("x")), set("x", variable("w"))), 5, 2, "z", "y", "x", "w")
	tells(t, body(set("x", op(api.EAdd, op(api.EAdd, variable("c"), variable("b")), variable("a")))), 6, 4, "x", "c", "b", "a")
	tells(t, body(set("x", item("x", item("y", variable("x"))))), 4, 4, "x", "y")
	loop := asked(api.SWhile, join(api.CAnd, held(variable("d"), api.OpLt, variable("c")), held(variable("b"), api.OpLt, variable("a"))), set("f", variable("e")))
	tells(t, body(loop, loop), 20, 4, "d", "c", "b", "a", "f", "e")
	both := branch(held(variable("e"), api.OpGt, num(0)), []api.Stmt{set("d", variable("c"))}, []api.Stmt{set("b", variable("c")), set("a", variable("e"))})
	tells(t, body(both), 10, 3, "e", "d", "c", "b", "a")
	var many api.Prog
	var want []string
	for i := range 2000 {
		s := "n" + strings.Repeat("é", i%25) + strings.Repeat("x", i/25%5) + string(rune('a'+i/125))
		want = append(want, s)
		many.Body = append(many.Body, set(s, variable(s)))
	}
	tells(t, many, 4000, 2, want...)
}

func TestErrorsOfAllCalls(t *testing.T) {
	for want, p := range faulty() {
		if e := Check(p); e != want {
			t.Errorf("P3.2: Check: %d, want %d", e, want)
		}
		if d, e := Depth(p); d != 0 || e != want {
			t.Errorf("P3.3: Depth: %d, %d; want 0, %d", d, e, want)
		}
		if n, e := Nodes(p); n != 0 || e != want {
			t.Errorf("P3.3: Nodes: %d, %d; want 0, %d", n, e, want)
		}
		if q, e := Copy(p); len(q.Decls) != 0 || len(q.Body) != 0 || e != want {
			t.Errorf("P3.3: Copy: %v, %d; want nothing, %d", q, e, want)
		}
		if l, e := Names(p); len(l) != 0 || e != want {
			t.Errorf("P3.3: Names: %v, %d; want nothing, %d", l, e, want)
		}
	}
}

func TestNamesAreNewMemory(t *testing.T) {
	p := rich()
	a, _ := Names(p)
	b, _ := Names(p)
	clear(a[:cap(a)])
	clear(append(b, "more")[:cap(b)])
	tells(t, p, 46, 5, "n1", "n2", "n3", "n4", "n5", "n6", "n7", "n8", "n9", "n10", "n11", "n12", "n13", "n14", "n15", "n16")
	source := strings.Repeat("x", 100)
	l, _ := Names(api.Prog{Decls: []api.Decl{{Name: source[3:5]}}})
	if l[0] != "xx" || unsafe.StringData(l[0]) == unsafe.StringData(source[3:]) {
		t.Error("P3.3: a name keeps the text that was handed in")
	}
}

// TestNamesAsLexHasThem: what is a name is lex.Name's to say, wherever a Name must be one.
func TestNamesAsLexHasThem(t *testing.T) {
	long := strings.Repeat("é", api.MaxName)
	for _, s := range []string{"", "x", "x1", "_", "1", "1x", " x", "x ", "x y", "é", "×", "x\xff", "\xff", "\ufffd", "if", "var", "array", "else", "while", "assert", "assume", "skip", "input", "true", "false", "If", "ifs", "x;", "x#", long, long + "x", long[1:], "\x00", strings.Repeat("x", 1<<20)} {
		want := api.ErrTreeName
		if lex.Name(s) {
			want = api.OK
		}
		for i, p := range []api.Prog{
			{Decls: []api.Decl{{Name: s}}}, {Decls: []api.Decl{{Name: s, Size: 3}}}, {Decls: []api.Decl{{Name: "x"}, {Name: s}}},
			body(set(s, num(1))), body(store(s, num(1), num(2))), body(set("x", variable(s))), body(set("x", item(s, num(1)))),
			body(asked(api.SWhile, yes(), set(s, num(1)))), body(branch(yes(), nil, []api.Stmt{set("x", op(api.EAdd, num(1), variable(s)))})),
			body(asked(api.SAssert, join(api.CNot, held(num(1), api.OpLt, variable(s))))),
		} {
			if e := Check(p); e != want {
				t.Errorf("P3.1: %.40q, row %d: %d, want %d", s, i, e, want)
			}
		}
		if e, f := Expr(variable(s)), Cond(held(item(s, num(1)), api.OpLt, num(1))); e != want || f != want {
			t.Errorf("P3.1: %.40q: %d, %d; want %d", s, e, f, want)
		}
	}
}
