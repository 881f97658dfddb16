package print

import (
	"reflect"
	"slices"
	"strings"
	"sync"
	"testing"
	"unsafe"

	"gnomon/api"
)

// apart: whether two texts have no memory in common.
func apart(a, b string) bool {
	from, other := uintptr(unsafe.Pointer(unsafe.StringData(a))), uintptr(unsafe.Pointer(unsafe.StringData(b)))
	return from+uintptr(len(a)) <= other || other+uintptr(len(b)) <= from
}

// TestAnswersAreNewMemory: no text is a piece of what is handed in, or of another answer.
func TestAnswersAreNewMemory(t *testing.T) {
	name := strings.Clone("x23456789")
	var texts []string
	for range 2 {
		a, _ := Expr(vari(name))
		b, _ := Cond(cmp(vari(name), api.OpLt, vari(name)))
		c, _ := Print(api.Prog{Decls: []api.Decl{{Name: name}}})
		texts = append(texts, a, b, c)
	}
	for i, s := range texts {
		if !apart(s, name) {
			t.Errorf("%q lies in the name", s)
		}
		for _, other := range texts[:i] {
			if !apart(s, other) {
				t.Errorf("%q lies in another answer", s)
			}
		}
	}
}

// roomy: l with spare room behind it, and what stands in all of it.
func roomy[T any](l []T, spare T) []T {
	all := append(slices.Clone(l), spare, spare)
	return all[:len(l)]
}

// TestNothingHandedInIsChanged: nor the spare room behind a list.
func TestNothingHandedInIsChanged(t *testing.T) {
	build := func() (api.Prog, []any) {
		args := roomy([]api.Expr{num(1), neg(vari("x"))}, num(7))
		exprs := roomy([]api.Expr{{Kind: api.EMul, Args: args}, {Kind: api.ESub, Args: args}}, num(8))
		parts := roomy([]api.Cond{{Kind: api.CCmp, Op: api.OpLt, Exprs: exprs}, yes()}, no())
		conds := roomy([]api.Cond{{Kind: api.COr, Parts: parts}}, no())
		then := roomy([]api.Stmt{{Kind: api.SStore, Name: "a", Exprs: exprs}}, skip())
		other := roomy([]api.Stmt{{Kind: api.SAssert, Conds: conds}}, skip())
		decls := roomy([]api.Decl{{Name: "x"}, {Name: "a", Size: 2}}, api.Decl{Name: "z"})
		list := roomy([]api.Stmt{{Kind: api.SIf, Conds: conds, Then: then, Else: other}}, skip())
		return api.Prog{Decls: decls, Body: list}, []any{args[:4], exprs[:4], parts[:4], conds[:3], then[:3], other[:3], decls[:4], list[:3]}
	}
	p, rooms := build()
	_, want := build()
	s, e := Print(p)
	exprs := p.Body[0].Then[0].Exprs
	Expr(exprs[0])
	Cond(p.Body[0].Conds[0])
	if e != api.OK || !reflect.DeepEqual(rooms, want) {
		t.Errorf("%d; something was changed", e)
	}
	// What is done with the tree behind a call changes nothing of the text.
	clone := strings.Clone(s)
	clear(p.Body)
	clear(p.Decls)
	clear(exprs)
	if s != clone {
		t.Errorf("%q was %q", s, clone)
	}
}

// TestAnswersHangOnArgumentsOnly: not on what was asked before, or is asked at the same time, nor on a list's nil.
func TestAnswersHangOnArgumentsOnly(t *testing.T) {
	g := newGrower(5)
	var progs []api.Prog
	var texts []string
	for range 200 {
		p := g.prog()
		s, _ := Print(p)
		progs, texts = append(progs, p), append(texts, s)
	}
	var all sync.WaitGroup
	for range 4 {
		all.Go(func() {
			for i, p := range slices.Backward(progs) {
				Print(api.Prog{Body: []api.Stmt{{}}})
				if s, _ := Print(p); s != texts[i] {
					t.Errorf("%.100q, then %.100q", texts[i], s)
				}
			}
		})
	}
	all.Wait()
	empty := api.Expr{Kind: api.EVar, Name: "x", Args: []api.Expr{}}
	exprWrites(t, api.Expr{Kind: api.ENeg, Args: []api.Expr{empty}}, "-x")
	condWrites(t, api.Cond{Kind: api.CTrue, Exprs: []api.Expr{}, Parts: []api.Cond{}}, "true")
	progWrites(t, body(api.Stmt{Kind: api.SSkip, Exprs: []api.Expr{}, Conds: []api.Cond{}, Then: []api.Stmt{}, Else: []api.Stmt{}}), "skip;")
}
