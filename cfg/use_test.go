package cfg

import (
	"fmt"
	"slices"
	"testing"

	"gnomon/api"
	"gnomon/num"
	"gnomon/parse"
	"gnomon/print"
	"gnomon/run"
)

// TestOneGraph: a program, and what is read of its canonical text, have one.
func TestOneGraph(t *testing.T) {
	g := newGrower(5)
	texts := 0
	for range 2000 {
		source := g.prog()
		p := read(t, source+"# and a remark")
		text, e := print.Print(p)
		if e != api.OK {
			t.Fatalf("%d", e)
		}
		q, _, e := parse.Parse(text)
		if e != api.OK {
			continue
		}
		texts++
		if c, d := lowered(t, p), lowered(t, q); !same(c, d) {
			t.Fatalf("P9.4: %q: %s; %s", source, drawn(c), drawn(d))
		}
	}
	if texts < 1900 {
		t.Errorf("only %d texts", texts)
	}
	for _, r := range []row{
		{"var x;x=((x));x=-(-(1));x=-(1);if[true]{}else{}while[[!true]]{skip;}#end", "var x; x = x; x = --1; x = -1; if true { } while !true { skip; }"},
		{"var x; x = (1 + 2) + 3 * (4); assert [[x < 1] && true] || false;", "var x; x = 1 + 2 + 3 * 4; assert x < 1 && true || false;"},
	} {
		if c, d := lowered(t, read(t, r.source)), lowered(t, read(t, r.want)); !same(c, d) {
			t.Errorf("P9.4: %q: %s; %s", r.source, drawn(c), drawn(d))
		}
	}
	// Trees that no source spells so, with one graph for all that.
	p := body(assign("x", api.Expr{Kind: api.ENeg, Args: []api.Expr{constant(3)}}))
	p.Decls = []api.Decl{{Name: "x"}}
	if c, d := lowered(t, p), lowered(t, read(t, "var x; x = -3;")); !same(c, d) {
		t.Errorf("P9.4: %s; %s", drawn(c), drawn(d))
	}
}

// walker: a run of a graph as it stands.
type walker struct {
	c      api.Cfg
	at     int
	script []int64
	vars   []int64
	out    api.Outcome
}

func newWalker(c api.Cfg, script []int64) *walker {
	w := &walker{c: c, script: script, vars: make([]int64, len(c.Vars)+c.Temps)}
	for _, d := range c.Arrays {
		w.out.Arrays = append(w.out.Arrays, make([]int64, d.Size))
	}
	return w
}

func (w *walker) value(o api.Operand) int64 {
	if o.Var < 0 {
		return o.Num
	}
	return w.vars[o.Var]
}

// next: the edge that is taken, and whether there is one.
func (w *walker) next() (api.Edge, bool) {
	for _, e := range w.c.Edges {
		if e.From == w.at && (e.Kind != api.KAssume || num.Cmp(e.Op, w.value(e.A), w.value(e.B))) {
			return e, e.Kind != api.KInput || len(w.script) > 0
		}
	}
	return api.Edge{}, false
}

// place: a place of an edge's array; nil, if there is none.
func (w *walker) place(e api.Edge) *int64 {
	l, at := w.out.Arrays[e.Arr], w.value(e.A)
	if at < 0 || at >= int64(len(l)) {
		return nil
	}
	return &l[at]
}

// reckon: what an edge gives, and what goes wrong.
func (w *walker) reckon(e api.Edge) (int64, int) {
	a, b := w.value(e.A), w.value(e.B)
	switch e.Kind {
	case api.KNeg:
		return num.Neg(a)
	case api.KAdd:
		return num.Add(a, b)
	case api.KSub:
		return num.Sub(a, b)
	case api.KMul:
		return num.Mul(a, b)
	case api.KDiv:
		return num.Div(a, b)
	case api.KRem:
		return num.Rem(a, b)
	case api.KInput:
		n := w.script[0]
		w.script = w.script[1:]
		w.out.Events = append(w.out.Events, api.Event{Input: true, Num: n})
		return n, api.WrongNone
	case api.KLoad:
		if v := w.place(e); v != nil {
			return *v, api.WrongNone
		}
		return 0, api.WrongBounds
	}
	return a, api.WrongNone
}

// step takes an edge, and tells what goes wrong.
func (w *walker) step(e api.Edge) int {
	switch e.Kind {
	case api.KNop, api.KAssume:
		return api.WrongNone
	case api.KPass, api.KFail:
		w.out.Events = append(w.out.Events, api.Event{Held: e.Kind == api.KPass})
		if e.Kind == api.KFail {
			return api.WrongAssert
		}
		return api.WrongNone
	case api.KStore:
		v := w.place(e)
		if v == nil {
			return api.WrongBounds
		}
		*v = w.value(e.B)
		return api.WrongNone
	}
	n, wrong := w.reckon(e)
	if wrong == api.WrongNone {
		w.vars[e.Dst] = n
	}
	return wrong
}

// walk: the outcome of k steps.
func (w *walker) walk(k int) api.Outcome {
	w.out.Status = api.Running
	for w.out.Status == api.Running {
		e, ok := w.next()
		if !ok {
			w.out.Status = api.Halted
			break
		}
		if w.out.Steps == k {
			break
		}
		w.out.Steps++
		if w.out.Wrong = w.step(e); w.out.Wrong != api.WrongNone {
			w.out.Status = api.Wrong
		}
		w.at = e.To
	}
	w.out.Vars = slices.Clone(w.vars[:len(w.c.Vars)])
	return w.out
}

// TestRunsAreTheSame: each step of a program is an edge of its graph, by which the same happens.
func TestRunsAreTheSame(t *testing.T) {
	g := newGrower(6)
	count := map[int]int{}
	for range 4000 {
		source := g.prog()
		p := read(t, source)
		c := lowered(t, p)
		script := make([]int64, g.IntN(7))
		for i := range script {
			script[i] = []int64{0, 1, 2, -1, g.Int64N(9) - 4, int64(g.Uint64())}[g.IntN(6)]
		}
		for _, k := range []int{0, 1, 2, 3, 5, 8, 13, 21, 60} {
			want, _ := run.Run(p, script, k)
			got := newWalker(c, script).walk(k)
			if a, b := fmt.Sprint(got), fmt.Sprint(want); a != b {
				t.Fatalf("P9.1: %q on %v, %d steps: %s; want %s", source, script, k, a, b)
			}
			if k == 60 {
				count[want.Status*10+want.Wrong]++
			}
		}
	}
	for _, how := range []int{10 * api.Running, 10 * api.Halted, 10*api.Wrong + api.WrongOver, 10*api.Wrong + api.WrongZero, 10*api.Wrong + api.WrongBounds, 10*api.Wrong + api.WrongAssert} {
		if count[how] < 20 {
			t.Errorf("%d: only %d of %v", how, count[how], count)
		}
	}
}
