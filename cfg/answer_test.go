package cfg

import (
	"fmt"
	"reflect"
	"slices"
	"sync"
	"testing"

	"gnomon/api"
)

// roomy: l with spare room behind it.
func roomy[T any](l []T, spare T) []T { return append(slices.Clone(l), spare, spare)[:len(l)] }

// roomyProg: a program with spare room behind each list, and all of these with their room.
func roomyProg() (api.Prog, []any) {
	args := roomy([]api.Expr{vari("x"), {Kind: api.EInput}}, constant(7))
	exprs := roomy([]api.Expr{{Kind: api.EItem, Name: "a", Args: []api.Expr{constant(1)}}, {Kind: api.ESub, Args: args}}, constant(8))
	parts := roomy([]api.Cond{{Kind: api.CCmp, Op: api.OpLt, Exprs: exprs}, {Kind: api.CTrue}}, api.Cond{})
	conds := roomy([]api.Cond{{Kind: api.COr, Parts: parts}}, api.Cond{})
	then := roomy([]api.Stmt{{Kind: api.SStore, Name: "a", Exprs: exprs}}, skip())
	other := roomy([]api.Stmt{{Kind: api.SAssert, Conds: conds}}, skip())
	list := roomy([]api.Stmt{{Kind: api.SIf, Conds: conds, Then: then, Else: other}, assign("x", constant(1)), {Kind: api.SWhile, Conds: conds, Then: other}}, skip())
	decls := roomy([]api.Decl{{Name: "x"}, {Name: "a", Size: 2}, {Name: "y"}}, api.Decl{Name: "z"})
	return api.Prog{Decls: decls, Body: list}, []any{args[:4], exprs[:4], parts[:4], conds[:3], then[:3], other[:3], list[:5], decls[:5]}
}

// TestProgramsAreNotChanged: nor the spare room behind a list; and what is done with them behind a call changes no graph.
func TestProgramsAreNotChanged(t *testing.T) {
	p, rooms := roomyProg()
	_, want := roomyProg()
	c := lowered(t, p)
	before := whole(c)
	if !reflect.DeepEqual(rooms, want) {
		t.Errorf("something was changed: %v", rooms)
	}
	clear(p.Decls[:cap(p.Decls)])
	clear(p.Body[:cap(p.Body)])
	if whole(c) != before {
		t.Errorf("%s, then %s", before, whole(c))
	}
}

// roomyGraph: a graph with spare room behind each list, and all of these with their room.
func roomyGraph() (api.Cfg, []any) {
	c := roads(5, 4, "0>1 0>2 1>3 2>3 3>0 3>4")
	c.Vars = roomy([]string{"x", "y"}, "z")
	c.Arrays = roomy([]api.Decl{{Name: "a", Size: 2}, {Name: "b", Size: 3}}, api.Decl{Name: "c"})
	c.Edges = roomy(c.Edges, api.Edge{From: 4})
	return c, []any{c.Vars[:4], c.Arrays[:4], c.Edges[:8]}
}

// TestGraphsAreNotChanged: likewise, and they may be changed behind a call.
func TestGraphsAreNotChanged(t *testing.T) {
	c, rooms := roomyGraph()
	_, want := roomyGraph()
	a := takes(t, "roomy", c)
	before := fmt.Sprint(a)
	if !reflect.DeepEqual(rooms, want) {
		t.Errorf("something was changed: %v", rooms)
	}
	clear(c.Vars[:cap(c.Vars)])
	clear(c.Arrays[:cap(c.Arrays)])
	clear(c.Edges[:cap(c.Edges)])
	if got := fmt.Sprint(a); got != before {
		t.Errorf("%s, then %s", before, got)
	}
	for _, f := range []func(c *api.Cfg){func(c *api.Cfg) { c.Temps = 63 }, func(c *api.Cfg) { c.Exit = 5 }, func(c *api.Cfg) { c.Edges[0].Kind = 1 }, func(c *api.Cfg) { c.Points = 0 }} {
		c, rooms := roomyGraph()
		_, want := roomyGraph()
		if f(&c); c.Edges[0].Kind == api.KNop {
			want[2].([]api.Edge)[0].Kind = api.KNop
		}
		if ask(c); !reflect.DeepEqual(rooms, want) {
			t.Errorf("something was changed: %v", rooms)
		}
	}
}

// scribble writes over a list and its spare room.
func scribble[T any](l []T, v T) {
	l = l[:cap(l)]
	for i := range l {
		l[i] = v
	}
}

// TestLoweredIsNewMemory: each list of a graph is written over, its spare room too, and nothing else changes.
func TestLoweredIsNewMemory(t *testing.T) {
	p := read(t, "var x; array a[2]; var y; array b[3]; var z; x = a[y] + 1; while x < y { b[z] = x; }")
	c, other := lowered(t, p), lowered(t, p)
	want := `["x" "y" "z"] [{a 2} {b 3}] 5 1 1 | 0>3 v3=a0[v1]; 3>2 v0=v3+1; 2>4 v0<v1; 2>1 v0>=v1; 4>2 a1[v2]=v0`
	others := func() {
		t.Helper()
		if whole(other) != want || whole(lowered(t, p)) != want {
			t.Errorf("P9.1: %s, %s; want %s", whole(other), whole(lowered(t, p)), want)
		}
	}
	if others(); whole(c) != want {
		t.Fatalf("P9.1: %s; want %s", whole(c), want)
	}
	edges := drawn(c)
	scribble(c.Vars, "?")
	if others(); whole(c) != `["?" "?" "?"] [{a 2} {b 3}] `+edges {
		t.Errorf("variables: %s", whole(c))
	}
	scribble(c.Arrays, api.Decl{Name: "!", Size: 7})
	if others(); whole(c) != `["?" "?" "?"] [{! 7} {! 7}] `+edges {
		t.Errorf("arrays: %s", whole(c))
	}
	scribble(c.Edges, edgeOf(9, 9, api.KNop))
	if others(); whole(c) != `["?" "?" "?"] [{! 7} {! 7}] 5 1 1 | 9>9 nop; 9>9 nop; 9>9 nop; 9>9 nop; 9>9 nop` {
		t.Errorf("edges: %s", whole(c))
	}
	if got := whole(lowered(t, read(t, "var x; array a[2]; var y; array b[3]; var z; x = a[y] + 1; while x < y { b[z] = x; }"))); got != want {
		t.Errorf("P9.1: %s", got)
	}
}

// TestAnswersAreNewMemory: likewise of what is told of a graph, with the edges of each point.
func TestAnswersAreNewMemory(t *testing.T) {
	c, _ := roomyGraph()
	before, want := whole(c), fmt.Sprint(ask(c))
	a, other := ask(c), ask(c)
	for i, l := range append(slices.Clone(a.out), a.heads, a.order) {
		last := fmt.Sprint(a)
		scribble(l, -7)
		if len(l) > 0 && fmt.Sprint(a) == last {
			t.Errorf("list %d can't be written over", i)
		}
		if fmt.Sprint(other) != want || fmt.Sprint(ask(c)) != want || whole(c) != before {
			t.Errorf("list %d: %v, %v; want %s", i, other, ask(c), want)
		}
	}
	if got := fmt.Sprint(a.out, a.heads, a.order, a.reached); got != "[[-7 -7] [-7] [-7] [-7 -7] []] [-7] [-7 -7 -7 -7 -7] [true true true true true]" {
		t.Errorf("%s", got)
	}
	scribble(a.reached, false)
	if got := fmt.Sprint(a.out, a.heads, a.order, a.reached); got != "[[-7 -7] [-7] [-7] [-7 -7] []] [-7] [-7 -7 -7 -7 -7] [false false false false false]" {
		t.Errorf("%s", got)
	}
	if fmt.Sprint(other) != want || fmt.Sprint(ask(c)) != want || whole(c) != before {
		t.Errorf("reached: %v, %v; want %s", other, ask(c), want)
	}
}

// TestNilAndEmpty: they are the same, wherever a list is empty.
func TestNilAndEmpty(t *testing.T) {
	no := api.Stmt{Kind: api.SSkip, Exprs: []api.Expr{}, Conds: []api.Cond{}, Then: []api.Stmt{}, Else: []api.Stmt{}}
	conds := []api.Cond{{Kind: api.CFalse, Exprs: []api.Expr{}, Parts: []api.Cond{}}}
	p := api.Prog{Decls: []api.Decl{}, Body: []api.Stmt{no, {Kind: api.SIf, Conds: conds, Then: []api.Stmt{}, Else: []api.Stmt{}}, {Kind: api.SIf, Conds: conds}, {Kind: api.SWhile, Conds: conds, Then: []api.Stmt{}}}}
	if got := whole(lowered(t, p)); got != "[] [] 5 1 0 | 0>2 nop; 2>3 nop; 3>4 nop; 4>1 nop" {
		t.Errorf("P9.1: %s", got)
	}
	if got := whole(lowered(t, api.Prog{Decls: []api.Decl{}, Body: []api.Stmt{}})); got != "[] [] 1 0 0 |" {
		t.Errorf("P9.1: %s", got)
	}
	some := takes(t, "empty lists", api.Cfg{Vars: []string{}, Arrays: []api.Decl{}, Points: 2, Exit: 1, Edges: []api.Edge{}})
	if none := takes(t, "nil lists", api.Cfg{Points: 2, Exit: 1}); fmt.Sprint(some) != fmt.Sprint(none) {
		t.Errorf("P9.3: %v and %v", some, none)
	}
}

// TestRoomIsNothing: what stands in the spare room behind a list is no part of it, nor of an empty one.
func TestRoomIsNothing(t *testing.T) {
	none := roomy([]api.Stmt{}, skip())
	conds := roomy([]api.Cond{{Kind: api.CTrue, Exprs: roomy([]api.Expr{}, constant(1)), Parts: roomy([]api.Cond{}, api.Cond{})}}, api.Cond{})
	if got := whole(lowered(t, api.Prog{Decls: roomy([]api.Decl{}, api.Decl{Name: "x"}), Body: none})); got != "[] [] 1 0 0 |" {
		t.Errorf("P9.1: %s", got)
	}
	p := body(roomy([]api.Stmt{{Kind: api.SIf, Conds: conds, Then: none, Else: none}, {Kind: api.SWhile, Conds: conds, Then: none}}, skip())...)
	if got := whole(lowered(t, p)); got != "[] [] 3 1 0 | 0>2 nop; 2>2 nop" {
		t.Errorf("P9.1: %s", got)
	}
	e := edgeOf(0, 1, api.KLoad)
	for i := range 16 {
		e.Dst, e.Arr = i%4, i/4
		c := api.Cfg{Vars: roomy([]string{"x"}, "y"), Temps: 1, Arrays: roomy([]api.Decl{{Size: 1}, {Size: 2}}, api.Decl{Size: 3}), Points: 2, Exit: 1, Edges: roomy([]api.Edge{e}, e)}
		if e.Dst < 2 && e.Arr < 2 {
			takes(t, "room", c)
		} else {
			refuses(t, "room", c, api.ErrCfgForm)
		}
	}
}

// TestAnswersHangOnArgumentsOnly: not on what was asked before, or is asked at the same time.
func TestAnswersHangOnArgumentsOnly(t *testing.T) {
	g := newGrower(4)
	var all []api.Prog
	var graphs, roads []string
	for range 300 {
		p := read(t, g.prog())
		c := lowered(t, p)
		all, graphs, roads = append(all, p), append(graphs, whole(c)), append(roads, fmt.Sprint(ask(c)))
	}
	var group sync.WaitGroup
	for range 4 {
		group.Go(func() {
			for i, p := range slices.Backward(all) {
				c, e := Lower(p)
				if whole(c) != graphs[i] || fmt.Sprint(ask(c)) != roads[i] || e != api.OK {
					t.Errorf("%s, then %s, %d", graphs[i], whole(c), e)
				}
			}
		})
	}
	group.Wait()
}
