package well

import (
	"math"
	"slices"
	"strings"
	"testing"

	"gnomon/api"
	"gnomon/tree"
)

// deep: a statement in n blocks.
func deep(n int, s api.Stmt) api.Stmt {
	for range n {
		s = loop(s)
	}
	return s
}

// endless: a statement that has itself.
func endless(kind int) api.Prog {
	l := []api.Stmt{{Kind: kind, Conds: []api.Cond{{Kind: api.CTrue}}}}
	l[0].Then = l
	return body(l...)
}

// noTrees: programs that tree.Check refuses, and its error.
func noTrees() []struct {
	p    api.Prog
	want api.Errno
} {
	long := strings.Repeat("n", api.MaxName+1)
	return []struct {
		p    api.Prog
		want api.Errno
	}{
		{body(api.Stmt{}), api.ErrTreeForm},
		{body(api.Stmt{Kind: 8}), api.ErrTreeForm},
		{body(api.Stmt{Kind: -1, Name: "x"}), api.ErrTreeForm},
		{body(api.Stmt{Kind: api.SAssign, Name: "x"}), api.ErrTreeForm},
		{body(api.Stmt{Kind: api.SStore, Name: "a", Exprs: []api.Expr{num(1)}}), api.ErrTreeForm},
		{body(api.Stmt{Kind: api.SIf}), api.ErrTreeForm},
		{body(api.Stmt{Kind: api.SSkip, Name: "x"}), api.ErrTreeForm},
		{body(assign("x", num(-1))), api.ErrTreeForm},
		{body(assign("x", num(math.MinInt64))), api.ErrTreeForm},
		{body(assign("x", api.Expr{})), api.ErrTreeForm},
		{body(assign("x", api.Expr{Kind: api.EVar, Name: "x", Num: 1})), api.ErrTreeForm},
		{body(assign("x", api.Expr{Kind: api.EItem, Name: "x"})), api.ErrTreeForm},
		{body(assign("x", api.Expr{Kind: 11})), api.ErrTreeForm},
		{body(api.Stmt{Kind: api.SAssert, Conds: []api.Cond{{}}}), api.ErrTreeForm},
		{decls(api.Decl{Name: "x", Size: -1}), api.ErrTreeForm},
		{decls(api.Decl{Name: "x", Size: math.MinInt}), api.ErrTreeForm},
		{decls(api.Decl{Name: "x", Size: 1 << 31}), api.ErrTreeForm},
		{decls(api.Decl{Name: "x", Size: 1<<32 + 1}), api.ErrTreeForm},
		{decls(api.Decl{Name: "x", Size: math.MaxInt}), api.ErrTreeForm},
		{decls(api.Decl{}), api.ErrTreeName},
		{decls(api.Decl{Name: "while"}), api.ErrTreeName},
		{decls(api.Decl{Name: "1"}), api.ErrTreeName},
		{decls(api.Decl{Name: "x y", Size: 1}), api.ErrTreeName},
		{decls(api.Decl{Name: "\xff"}), api.ErrTreeName},
		{decls(api.Decl{Name: long}), api.ErrTreeName},
		{body(assign("", num(1))), api.ErrTreeName},
		{body(assign("if", num(1))), api.ErrTreeName},
		{body(assign("x", vari("true"))), api.ErrTreeName},
		{body(assign(long, num(1))), api.ErrTreeName},
		{body(deep(64, skip())), api.ErrTreeDeep},
		{body(deep(1000, assign("x", num(1)))), api.ErrTreeDeep},
		{endless(api.SWhile), api.ErrTreeDeep},
		{endless(api.SAssign), api.ErrTreeDeep},
		{body(skips(4097)...), api.ErrTreeMany},
		{body(skips(100000)...), api.ErrTreeMany},
		{decls(make([]api.Decl, 4097)...), api.ErrTreeMany},
		{decls(slices.Repeat([]api.Decl{{Name: "x"}}, 4097)...), api.ErrTreeMany},
	}
}

// TestErrorsOfTrees: tree.Check's error, with no name, whatever else is wrong.
func TestErrorsOfTrees(t *testing.T) {
	for i, c := range noTrees() {
		if e := tree.Check(c.p); e != c.want {
			t.Fatalf("row %d: %d, want %d", i, e, c.want)
		}
		tells(t, "no tree", c.p, "", c.want)
		for _, ahead := range []string{"var z; var z;", "array z[2000];", numbered(33, "var z#;"), "z = z;", "var z; z = z[0];"} {
			p := read(t, ahead)
			p.Decls = append(p.Decls, c.p.Decls...)
			p.Body = append(p.Body, c.p.Body...)
			if c.want != api.ErrTreeMany {
				p.Body = append(p.Body, read(t, "z = z[z];").Body...)
			}
			tells(t, "no tree, and not well", p, "", c.want)
		}
	}
}

// TestGreatestTrees: at the limits of trees it hangs on what is declared; one past them it doesn't.
func TestGreatestTrees(t *testing.T) {
	for _, used := range []string{"x", "y"} {
		name, want := "", api.OK
		if used == "y" {
			name, want = "y", api.ErrWellNone
		}
		last := assign(used, num(1)) // two nodes, the second one a level below the first
		for _, c := range []struct {
			what string
			l    []api.Stmt
			past api.Errno
		}{
			{"the last node", append(skips(4093), last), 0}, {"one node more", append(skips(4094), last), api.ErrTreeMany},
			{"the deepest node", []api.Stmt{deep(62, last)}, 0}, {"a level more", []api.Stmt{deep(63, last)}, api.ErrTreeDeep},
		} {
			p := api.Prog{Decls: []api.Decl{{Name: "x"}}, Body: c.l}
			if c.past != api.OK {
				tells(t, c.what, p, "", c.past)
			} else {
				tells(t, c.what, p, name, want)
			}
		}
	}
	tells(t, "4096 declarations", decls(slices.Repeat([]api.Decl{{Name: "x"}}, 4096)...), "x", api.ErrWellTwice)
	longest := strings.Repeat("ж", api.MaxName)
	isWell(t, "var "+longest+"; "+longest+" = "+longest+";")
	says(t, longest+" = 1;", longest, api.ErrWellNone)
}

// TestPartsInManyPlaces: a tree that has one part in many places is one as well.
func TestPartsInManyPlaces(t *testing.T) {
	e := vari("x")
	for range 9 {
		e = api.Expr{Kind: api.EAdd, Args: slices.Repeat([]api.Expr{e}, 2)}
	}
	l := slices.Repeat([]api.Stmt{assign("x", e)}, 3)
	tells(t, "one expression", api.Prog{Decls: []api.Decl{{Name: "x"}}, Body: l}, "", api.OK)
	tells(t, "one expression", api.Prog{Decls: []api.Decl{{Name: "x", Size: 1}}, Body: l}, "x", api.ErrWellKind)
	tells(t, "one expression", body(l...), "x", api.ErrWellNone)
}
