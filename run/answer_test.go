package run

import (
	"reflect"
	"slices"
	"strings"
	"sync"
	"testing"

	"gnomon/api"
)

// roomy: l with spare room behind it.
func roomy[T any](l []T, spare T) []T { return append(slices.Clone(l), spare, spare)[:len(l)] }

// roomyRun: a program and a script with spare room behind each list, and all of these with their room.
func roomyRun() (api.Prog, []int64, []any) {
	args := roomy([]api.Expr{{Kind: api.EVar, Name: "x"}, {Kind: api.EInput}}, number(7))
	exprs := roomy([]api.Expr{{Kind: api.EItem, Name: "a", Args: []api.Expr{number(1)}}, {Kind: api.ESub, Args: args}}, number(8))
	parts := roomy([]api.Cond{{Kind: api.CCmp, Op: api.OpLt, Exprs: exprs}, {Kind: api.CTrue}}, api.Cond{})
	conds := roomy([]api.Cond{{Kind: api.COr, Parts: parts}}, api.Cond{})
	then := roomy([]api.Stmt{{Kind: api.SStore, Name: "a", Exprs: exprs}}, skip())
	other := roomy([]api.Stmt{{Kind: api.SAssert, Conds: conds}}, skip())
	list := roomy([]api.Stmt{{Kind: api.SIf, Conds: conds, Then: then, Else: other}, assign("x", number(1)), {Kind: api.SWhile, Conds: conds, Then: other}}, skip())
	decls := roomy([]api.Decl{{Name: "x"}, {Name: "a", Size: 2}, {Name: "y"}}, api.Decl{Name: "z"})
	inputs := roomy([]int64{3, 0, -4, 5, -6}, 9)
	return api.Prog{Decls: decls, Body: list}, inputs, []any{args[:4], exprs[:4], parts[:4], conds[:3], then[:3], other[:3], list[:5], decls[:5], inputs[:7]}
}

// TestNothingHandedInIsChanged: nor the spare room behind a list; and what is done with it behind a call changes no answer.
func TestNothingHandedInIsChanged(t *testing.T) {
	for k := range 60 {
		p, inputs, rooms := roomyRun()
		_, _, want := roomyRun()
		o := ran(t, p, inputs, k)
		if !reflect.DeepEqual(rooms, want) {
			t.Errorf("%d steps: something was changed", k)
		}
		before := told(o)
		clear(inputs[:cap(inputs)])
		clear(p.Decls[:cap(p.Decls)])
		clear(p.Body[:cap(p.Body)])
		if told(o) != before {
			t.Errorf("%d steps: %s, then %s", k, before, told(o))
		}
	}
}

// scribble writes over a list and its spare room.
func scribble[T any](l []T, v T) {
	l = l[:cap(l)]
	for i := range l {
		l[i] = v
	}
}

// TestAnswersAreNewMemory: each list of each answer is written over, its spare room too, and no other one changes.
func TestAnswersAreNewMemory(t *testing.T) {
	p := read(t, "var x; array a[2]; array b[2]; var y; array c[1]; a[0] = 1; b[1] = 2; c[0] = 3; x = input; y = input; assert x < y; assert y < x;")
	inputs := script(4, 5)
	o, other := ran(t, p, inputs, 99), ran(t, p, inputs, 99)
	want := "A9 i4 i5 + - | 4 5 [1 0] [0 2] [3]"
	if told(o) != want || told(other) != want {
		t.Fatalf("P8.2: %s, %s; want %s", told(o), told(other), want)
	}
	parts := func() []string {
		return append(strings.SplitAfter(told(o), "|"), told(ran(t, p, inputs, 99)), told(other))
	}
	scribble(o.Events, api.Event{Held: true})
	if l := parts(); l[0] != "A9 + + + + |" || l[1] != " 4 5 [1 0] [0 2] [3]" || l[2] != want || l[3] != want {
		t.Errorf("events: %q", l)
	}
	scribble(o.Vars, 8)
	if l := parts(); l[1] != " 8 8 [1 0] [0 2] [3]" || l[2] != want || l[3] != want {
		t.Errorf("variables: %q", l)
	}
	for i, w := range []string{" 8 8 [9 9] [0 2] [3]", " 8 8 [9 9] [9 9] [3]", " 8 8 [9 9] [9 9] [9]"} {
		scribble(o.Arrays[i], 9)
		if l := parts(); l[1] != w || l[2] != want || l[3] != want {
			t.Errorf("array %d: %q", i, l)
		}
	}
	scribble(o.Arrays, nil)
	if l := parts(); l[0] != "A9 + + + + |" || l[1] != " 8 8 [] [] []" || l[2] != want || l[3] != want {
		t.Errorf("arrays: %q", l)
	}
	if !slices.Equal(inputs, script(4, 5)) {
		t.Errorf("inputs: %d", inputs)
	}
}

// TestNilAndEmpty: they are the same, wherever a list is empty.
func TestNilAndEmpty(t *testing.T) {
	no := api.Stmt{Kind: api.SSkip, Exprs: []api.Expr{}, Conds: []api.Cond{}, Then: []api.Stmt{}, Else: []api.Stmt{}}
	c := []api.Cond{{Kind: api.CFalse, Exprs: []api.Expr{}, Parts: []api.Cond{}}}
	p := api.Prog{Decls: []api.Decl{}, Body: []api.Stmt{no, {Kind: api.SIf, Conds: c, Then: []api.Stmt{}, Else: []api.Stmt{}}, {Kind: api.SWhile, Conds: c}}}
	for _, l := range [][]int64{nil, {}} {
		if got := told(ran(t, p, l, 9)); got != "H3 |" {
			t.Errorf("P8.1: %s", got)
		}
		if got := told(ran(t, api.Prog{Decls: []api.Decl{}, Body: []api.Stmt{}}, l, 0)); got != "H0 |" {
			t.Errorf("P8.1: %s", got)
		}
		refuses(t, "no lists", api.Prog{}, l, -1, api.ErrRunMany)
	}
}

// TestOnePartInManyPlaces: a tree may have one list in many places.
func TestOnePartInManyPlaces(t *testing.T) {
	one := []api.Expr{{Kind: api.EVar, Name: "x"}, {Kind: api.EInput}}
	two := []api.Expr{{Kind: api.EAdd, Args: one}, {Kind: api.EMul, Args: one}}
	s := api.Stmt{Kind: api.SAssign, Name: "x", Exprs: []api.Expr{{Kind: api.ESub, Args: two}}}
	p := api.Prog{Decls: []api.Decl{{Name: "x"}}, Body: []api.Stmt{s, s, s}}
	if got := told(ran(t, p, script(1, 2, 3, 4, 5, 6), 99)); got != "H15 i1 i2 i3 i4 i5 i6 | 5" {
		t.Errorf("P8.1: %s", got)
	}
}

// TestAnswersHangOnArgumentsOnly: not on what was asked before, or is asked at the same time.
func TestAnswersHangOnArgumentsOnly(t *testing.T) {
	type asked struct {
		p      api.Prog
		script []int64
		k      int
	}
	g := newGrower(5)
	var all []asked
	var answers []string
	for range 400 {
		a := asked{read(t, g.prog()), g.script(), g.IntN(50)}
		all, answers = append(all, a), append(answers, told(ran(t, a.p, a.script, a.k)))
	}
	var group sync.WaitGroup
	for range 4 {
		group.Go(func() {
			for i, a := range slices.Backward(all) {
				o, e := Run(a.p, a.script, a.k)
				if told(o) != answers[i] || e != api.OK {
					t.Errorf("%s, then %s, %d", answers[i], told(o), e)
				}
			}
		})
	}
	group.Wait()
}

// TestAnotherPanicGoesOn: only the package's own panic is an end of a run.
func TestAnotherPanicGoesOn(t *testing.T) {
	defer func() {
		if recover() == nil {
			t.Error("a panic was taken for an end")
		}
	}()
	newMachine(nil, nil).run([]api.Stmt{{Kind: api.SIf}})
}
