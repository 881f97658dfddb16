package step

import (
	"fmt"
	"reflect"
	"slices"
	"sync"
	"testing"

	"gnomon/api"
)

// roomy: l with spare room behind it.
func roomy[T any](l []T, spare T) []T { return append(slices.Clone(l), spare, spare)[:len(l)] }

// handed: all that both calls are handed, and each list of it with its spare room.
type handed struct {
	c      api.Cfg
	script []int64
	vars   []int64
	arrays [][]int64
	rooms  []any
}

func newHanded(t *testing.T) handed {
	c := graph(t, "v2 t1 a2 a3 a1 | 0>2 v2=input; 2>3 a1[v2]=v2; 3>4 v0=a1[2]; 4>5 v0<3; 4>1 v0>=3; 5>6 pass; 6>7 v1=v1+v0; 7>8 a0[1]=v1; 8>9 v2=v2-1; 9>10 v1=input; 10>11 v1==v2; 10>2 v1!=v2; 11>1 fail")
	c.Vars = roomy(c.Vars, "y")
	c.Arrays = roomy(c.Arrays, api.Decl{Name: "b", Size: 9})
	c.Edges = roomy(c.Edges, api.Edge{From: 4})
	h := handed{c: c, script: roomy(script(2, 0, 1, 9), 8), vars: roomy(script(1, 2, 1), 7)}
	h.arrays = roomy([][]int64{roomy(script(1, 2), 3), roomy(script(4, 5, 6), 7), roomy(script(8), 9)}, script(5))
	h.rooms = []any{c.Vars[:cap(c.Vars)], c.Arrays[:cap(c.Arrays)], c.Edges[:cap(c.Edges)], h.script[:cap(h.script)], h.vars[:cap(h.vars)], h.arrays[:cap(h.arrays)]}
	for _, a := range h.arrays {
		h.rooms = append(h.rooms, a[:cap(a)])
	}
	return h
}

// ask: what both calls say, as text.
func (h handed) ask(t *testing.T, k int) string {
	t.Helper()
	s := ran(t, h.c, h.script, k)
	for point := range h.c.Points {
		i, wrong, e := One(h.c, h.vars, h.arrays, 7, point)
		s += fmt.Sprint("; ", i, wrong, int(e))
	}
	return s
}

// TestNothingHandedInIsChanged: nor the spare room behind a list, by any number of steps, at any point; and what is done with it behind a call changes no answer.
func TestNothingHandedInIsChanged(t *testing.T) {
	seen := map[string]int{}
	for k := range 20 {
		h, want := newHanded(t), newHanded(t)
		first := h.ask(t, k)
		if !reflect.DeepEqual(h.rooms, want.rooms) {
			t.Errorf("%d steps: something was changed: %v", k, h.rooms)
		}
		if again := h.ask(t, k); again != first {
			t.Errorf("%d steps: %s, then %s", k, first, again)
		}
		o, point, _ := Run(h.c, h.script, k)
		before := told(o, point)
		clear(h.script[:cap(h.script)])
		clear(h.c.Vars[:cap(h.c.Vars)])
		clear(h.c.Arrays[:cap(h.c.Arrays)])
		clear(h.c.Edges[:cap(h.c.Edges)])
		if told(o, point) != before {
			t.Errorf("%d steps: %s, then %s", k, before, told(o, point))
		}
		seen[before]++
	}
	if len(seen) < 12 {
		t.Errorf("unlike what was meant: %v", seen)
	}
}

// TestRoomIsNothing: what stands in the spare room behind a list is no part of it.
func TestRoomIsNothing(t *testing.T) {
	c := api.Cfg{Vars: roomy([]string{}, "x"), Arrays: roomy([]api.Decl{}, api.Decl{Size: 1}), Points: 2, Exit: 1}
	c.Edges = roomy([]api.Edge{}, edge(t, "0>1 nop"))
	if got := ran(t, c, roomy(script(), 5), 9); got != "H0@0 |" {
		t.Errorf("P10.1: %s", got)
	}
	if got := ask(t, c, roomy(script(), 5), roomy([][]int64{}, script(6)), 0, 0); got != "-1R" {
		t.Errorf("P10.3: %s", got)
	}
	if got := ran(t, graph(t, "v1 | 0>0 v0=input"), roomy(script(4, 5), 6), 9); got != "H2@0 i4 i5 | 5" {
		t.Errorf("P10.1: %s", got)
	}
	d := graph(t, "v1 a2 | 0>1 v0=a0[2]")
	if got := ask(t, d, roomy(script(0), 1), [][]int64{roomy(script(1, 2), 3)}, 0, 0); got != "0B" {
		t.Errorf("P10.3: %s", got)
	}
}

// scribble writes over a list and its spare room.
func scribble[T any](l []T, v T) {
	l = l[:cap(l)]
	for i := range l {
		l[i] = v
	}
}

// TestAnswersAreNewMemory: each list of each answer is written over, its spare room too, and no other one changes, nor what was handed in.
func TestAnswersAreNewMemory(t *testing.T) {
	h := newHanded(t)
	before := h.ask(t, 15)
	o, point, _ := Run(h.c, h.script, 15)
	other, _, _ := Run(h.c, h.script, 15)
	want := "R15@7 i2 + i0 + | 2 2 [0 2] [0 1 2] [0]"
	if told(o, point) != want || told(other, point) != want {
		t.Fatalf("P10.2: %s, %s; want %s", told(o, point), told(other, point), want)
	}
	check := func(what, now string) {
		t.Helper()
		if told(o, point) != now {
			t.Errorf("%s: %s; want %s", what, told(o, point), now)
		}
		if told(other, point) != want || h.ask(t, 15) != before {
			t.Errorf("%s: %s, %s", what, told(other, point), h.ask(t, 15))
		}
	}
	scribble(o.Events, api.Event{})
	check("events", "R15@7 - - - - | 2 2 [0 2] [0 1 2] [0]")
	scribble(o.Vars, 8)
	check("variables", "R15@7 - - - - | 8 8 [0 2] [0 1 2] [0]")
	for i, now := range []string{"[9 9] [0 1 2] [0]", "[9 9] [9 9 9] [0]", "[9 9] [9 9 9] [9]"} {
		scribble(o.Arrays[i], 9)
		check("an array", "R15@7 - - - - | 8 8 "+now)
	}
	scribble(o.Arrays, nil)
	check("arrays", "R15@7 - - - - | 8 8 [] [] []")
	if !reflect.DeepEqual(h.rooms, newHanded(t).rooms) {
		t.Errorf("something was changed: %v", h.rooms)
	}
}

// TestNilAndEmpty: they are the same, wherever a list is empty.
func TestNilAndEmpty(t *testing.T) {
	for _, c := range []api.Cfg{{Points: 1}, {Vars: []string{}, Arrays: []api.Decl{}, Points: 1, Edges: []api.Edge{}}} {
		for _, l := range [][]int64{nil, {}} {
			for k := range 3 {
				if got := ran(t, c, l, k); got != "H0@0 |" {
					t.Errorf("P10.1: %s", got)
				}
			}
			refuses(t, "no lists", c, l, -1, api.ErrRunMany)
		}
	}
}

// TestAnswersHangOnArgumentsOnly: not on what was asked before, or is asked at the same time.
func TestAnswersHangOnArgumentsOnly(t *testing.T) {
	type asked struct {
		c      api.Cfg
		script []int64
		k      int
	}
	g := newGrower(4)
	var all []asked
	var answers []string
	for range 500 {
		a := asked{g.graph(), g.script(), g.IntN(50)}
		all, answers = append(all, a), append(answers, ran(t, a.c, a.script, a.k))
	}
	var group sync.WaitGroup
	for range 4 {
		group.Go(func() {
			for i, a := range slices.Backward(all) {
				o, point, e := Run(a.c, a.script, a.k)
				if told(o, point) != answers[i] || e != api.OK {
					t.Errorf("%s, then %s, %d", answers[i], told(o, point), e)
				}
			}
		})
	}
	group.Wait()
}
