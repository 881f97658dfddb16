package print

import (
	"strings"
	"testing"

	"gnomon/api"
	"gnomon/parse"
	"gnomon/tree"
)

func num(n int64) api.Expr { return api.Expr{Kind: api.ENum, Num: n} }

func vari(name string) api.Expr { return api.Expr{Kind: api.EVar, Name: name} }

func input() api.Expr { return api.Expr{Kind: api.EInput} }

func item(name string, index api.Expr) api.Expr {
	return api.Expr{Kind: api.EItem, Name: name, Args: []api.Expr{index}}
}

func neg(e api.Expr) api.Expr { return api.Expr{Kind: api.ENeg, Args: []api.Expr{e}} }

func two(kind int, a, b api.Expr) api.Expr { return api.Expr{Kind: kind, Args: []api.Expr{a, b}} }

func yes() api.Cond { return api.Cond{Kind: api.CTrue} }

func no() api.Cond { return api.Cond{Kind: api.CFalse} }

func cmp(a api.Expr, op int, b api.Expr) api.Cond {
	return api.Cond{Kind: api.CCmp, Op: op, Exprs: []api.Expr{a, b}}
}

func not(c api.Cond) api.Cond { return api.Cond{Kind: api.CNot, Parts: []api.Cond{c}} }

func both(kind int, a, b api.Cond) api.Cond { return api.Cond{Kind: kind, Parts: []api.Cond{a, b}} }

func assign(name string, e api.Expr) api.Stmt {
	return api.Stmt{Kind: api.SAssign, Name: name, Exprs: []api.Expr{e}}
}

func store(name string, index, e api.Expr) api.Stmt {
	return api.Stmt{Kind: api.SStore, Name: name, Exprs: []api.Expr{index, e}}
}

func asks(kind int, c api.Cond) api.Stmt { return api.Stmt{Kind: kind, Conds: []api.Cond{c}} }

func choice(c api.Cond, then, other []api.Stmt) api.Stmt {
	return api.Stmt{Kind: api.SIf, Conds: []api.Cond{c}, Then: then, Else: other}
}

func loop(c api.Cond, then ...api.Stmt) api.Stmt {
	return api.Stmt{Kind: api.SWhile, Conds: []api.Cond{c}, Then: then}
}

func skip() api.Stmt { return api.Stmt{Kind: api.SSkip} }

func body(l ...api.Stmt) api.Prog { return api.Prog{Body: l} }

// writes holds what a call told of a tree against its text.
func writes(t *testing.T, promise, got string, e api.Errno, want string) {
	t.Helper()
	if got != want || e != api.OK {
		t.Errorf("%s: %.300q, %d; want %.300q", promise, got, e, want)
	}
}

func exprWrites(t *testing.T, e api.Expr, want string) {
	t.Helper()
	got, f := Expr(e)
	writes(t, "P5.1", got, f, want)
}

func condWrites(t *testing.T, c api.Cond, want string) {
	t.Helper()
	got, f := Cond(c)
	writes(t, "P5.2", got, f, want)
}

func progWrites(t *testing.T, p api.Prog, lines ...string) {
	t.Helper()
	got, f := Print(p)
	want := ""
	for _, l := range lines {
		want += l + "\n"
	}
	writes(t, "P5.3", got, f, want)
}

// refuses: a program that Print tells an error of, and no text.
func refuses(t *testing.T, what string, p api.Prog, want api.Errno) {
	t.Helper()
	if got, e := Print(p); got != "" || e != want {
		t.Errorf("P5.3: %s: %.60q, %d; want %d", what, got, e, want)
	}
}

// sameExpr, sameCond: whether two trees are, held against each other as parts of programs.
func sameExpr(a, b api.Expr) bool { return tree.Equal(body(assign("x", a)), body(assign("x", b))) }

func sameCond(a, b api.Cond) bool {
	return tree.Equal(body(asks(api.SAssert, a)), body(asks(api.SAssert, b)))
}

// exprReads, condReads: whether a source is read as a tree.
func exprReads(s string, want api.Expr) bool {
	e, _, f := parse.Expr(s)
	return f == api.OK && sameExpr(e, want)
}

func condReads(s string, want api.Cond) bool {
	c, _, f := parse.Cond(s)
	return f == api.OK && sameCond(c, want)
}

// repeated: f done n times, from v on.
func repeated[T any](n int, v T, f func(T) T) T {
	for range n {
		v = f(v)
	}
	return v
}

// in: s where @ stands in shape.
func in(shape, s string) string { return strings.ReplaceAll(shape, "@", s) }
