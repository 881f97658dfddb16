package well

import (
	"slices"
	"strconv"
	"strings"
	"testing"

	"gnomon/api"
	"gnomon/parse"
)

// read: the program of a source.
func read(t *testing.T, source string) api.Prog {
	t.Helper()
	p, at, e := parse.Parse(source)
	if e != api.OK {
		t.Fatalf("%.300q is no source: %v, %d", source, at, e)
	}
	return p
}

// tells holds what all calls say of p against a name and an error; where there is none Vars and Arrays are to tell as many as are declared.
func tells(t *testing.T, what string, p api.Prog, name string, want api.Errno) {
	t.Helper()
	if got, e := Check(p); got != name || e != want {
		t.Errorf("P6.1: %.300q: %q, %d; want %q, %d", what, got, e, name, want)
	}
	vars, e := Vars(p)
	arrays, f := Arrays(p)
	many := 0
	if want == api.OK {
		many = len(p.Decls)
	}
	if e != want || f != want || len(vars)+len(arrays) != many {
		t.Errorf("P6.2: %.300q: %q, %d; %v, %d; want %d of them, %d", what, vars, e, arrays, f, many, want)
	}
}

// says: likewise, of a source.
func says(t *testing.T, source, name string, want api.Errno) {
	t.Helper()
	tells(t, source, read(t, source), name, want)
}

// isWell: a source that is a well program.
func isWell(t *testing.T, source string) {
	t.Helper()
	says(t, source, "", api.OK)
}

// row: a source, and what is told of it.
type row struct {
	source, name string
	want         api.Errno
}

func saysAll(t *testing.T, rows []row) {
	t.Helper()
	for _, r := range rows {
		says(t, r.source, r.name, r.want)
	}
}

// numbered: n texts like form, with their numbers, from 0 on, where # stands.
func numbered(n int, form string) string {
	var b strings.Builder
	for i := range n {
		b.WriteString(strings.ReplaceAll(form, "#", strconv.Itoa(i)))
	}
	return b.String()
}

func decls(l ...api.Decl) api.Prog { return api.Prog{Decls: l} }

func body(l ...api.Stmt) api.Prog { return api.Prog{Body: l} }

func num(n int64) api.Expr { return api.Expr{Kind: api.ENum, Num: n} }

func vari(name string) api.Expr { return api.Expr{Kind: api.EVar, Name: name} }

func assign(name string, e api.Expr) api.Stmt {
	return api.Stmt{Kind: api.SAssign, Name: name, Exprs: []api.Expr{e}}
}

func skip() api.Stmt { return api.Stmt{Kind: api.SSkip} }

func loop(then ...api.Stmt) api.Stmt {
	return api.Stmt{Kind: api.SWhile, Conds: []api.Cond{{Kind: api.CTrue}}, Then: then}
}

// skips: n statements of one node each.
func skips(n int) []api.Stmt { return slices.Repeat([]api.Stmt{skip()}, n) }
