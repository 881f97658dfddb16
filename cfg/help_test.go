package cfg

import (
	"fmt"
	"slices"
	"strconv"
	"strings"
	"testing"

	"gnomon/api"
	"gnomon/parse"
)

// read: the program of a source. MAX stands in it for the greatest number.
func read(t *testing.T, source string) api.Prog {
	t.Helper()
	p, at, e := parse.Parse(strings.ReplaceAll(source, "MAX", "9223372036854775807"))
	if e != api.OK {
		t.Fatalf("%.300q is no source: %v, %d", source, at, e)
	}
	return p
}

// forms: edges of each kind as text. A capital letter stands for the field that it begins (R: Arr); a kind has no other fields.
func forms() []string {
	return []string{
		api.KNop: "nop", api.KCopy: "D=A", api.KNeg: "D=-(A)", api.KAdd: "D=A+B", api.KSub: "D=A-B", api.KMul: "D=A*B", api.KDiv: "D=A/B", api.KRem: "D=A%B",
		api.KInput: "D=input", api.KLoad: "D=R[A]", api.KStore: "R[A]=B", api.KAssume: "AOB", api.KPass: "pass", api.KFail: "fail",
	}
}

// signs: of ops.
func signs() []string { return strings.Fields("no < <= == != > >=") }

// field: that of an edge for which a letter stands, as text, and whether it is as where it isn't named.
func field(e api.Edge, letter rune) (string, bool) {
	operand := func(o api.Operand) (string, bool) {
		switch {
		case o.Var == -1:
			return strconv.FormatInt(o.Num, 10), o.Num == 0
		case o.Num == 0:
			return "v" + strconv.Itoa(o.Var), false
		}
		return fmt.Sprint(o), false
	}
	switch letter {
	case 'D':
		return "v" + strconv.Itoa(e.Dst), e.Dst == -1
	case 'R':
		return "a" + strconv.Itoa(e.Arr), e.Arr == -1
	case 'A':
		return operand(e.A)
	case 'B':
		return operand(e.B)
	}
	if e.Op < 0 || e.Op > api.OpGe {
		return fmt.Sprint("op ", e.Op), false
	}
	return signs()[e.Op], e.Op == 0
}

// told: an edge as text, in which a field stands behind a ! that is named, but not of its kind.
func told(e api.Edge) string {
	s := fmt.Sprint(e.From, ">", e.To, " ")
	form := fmt.Sprint("kind ", e.Kind)
	if e.Kind >= api.KNop && e.Kind <= api.KFail {
		form = forms()[e.Kind]
	}
	for _, letter := range form {
		if strings.ContainsRune("DROAB", letter) {
			v, _ := field(e, letter)
			s += v
		} else {
			s += string(letter)
		}
	}
	for _, letter := range "DROAB" {
		if v, bare := field(e, letter); !bare && !strings.ContainsRune(form, letter) {
			s += " !" + string(letter) + v
		}
	}
	return s
}

// drawn: a graph as text: its points, Exit, temporaries, and behind a | its edges.
func drawn(c api.Cfg) string {
	s := fmt.Sprint(c.Points, " ", c.Exit, " ", c.Temps, " |")
	for i, e := range c.Edges {
		if i > 0 {
			s += ";"
		}
		s += " " + told(e)
	}
	return s
}

// whole: likewise, with its names.
func whole(c api.Cfg) string { return fmt.Sprintf("%q %v ", c.Vars, c.Arrays) + drawn(c) }

// same: whether two graphs are the same, a nil list being like an empty one.
func same(c, d api.Cfg) bool {
	return slices.Equal(c.Vars, d.Vars) && slices.Equal(c.Arrays, d.Arrays) && slices.Equal(c.Edges, d.Edges) && c.Temps == d.Temps && c.Points == d.Points && c.Exit == d.Exit
}

// lowered: the graph of a program that Lower takes.
func lowered(t *testing.T, p api.Prog) api.Cfg {
	t.Helper()
	c, e := Lower(p)
	if e != api.OK {
		t.Fatalf("P9.1: %d", e)
	}
	return c
}

// row: a source, and its graph as text.
type row struct{ source, want string }

func lowers(t *testing.T, rows []row) {
	t.Helper()
	for _, r := range rows {
		if got := drawn(lowered(t, read(t, r.source))); got != r.want {
			t.Errorf("P9.1: %.300q: %s; want %s", r.source, got, r.want)
		}
	}
}

// numbers: what stands in a text.
func numbers(s string) []int {
	var l []int
	for _, f := range strings.Fields(s) {
		n, _ := strconv.Atoi(f)
		l = append(l, n)
	}
	return l
}

// roads: a graph of so many points with an edge for each pair like "0>1": one from a point is a KNop, two are KAssume, and if they are more, it is none.
func roads(points, exit int, pairs string) api.Cfg {
	c := api.Cfg{Vars: []string{"x"}, Points: points, Exit: exit}
	many := map[int]int{}
	for _, pair := range strings.Fields(pairs) {
		ends := numbers(strings.ReplaceAll(pair, ">", " "))
		c.Edges = append(c.Edges, edgeOf(ends[0], ends[1], api.KNop))
		many[ends[0]]++
	}
	op := map[int]int{}
	for i := range c.Edges {
		if e := &c.Edges[i]; many[e.From] > 1 {
			e.Kind, e.Op, e.A.Var = api.KAssume, api.OpGe-op[e.From], 0
			op[e.From] = api.OpGe - api.OpLt
		}
	}
	return c
}

// edgeOf: one with nothing but that.
func edgeOf(from, to, kind int) api.Edge {
	none := api.Operand{Var: -1}
	return api.Edge{From: from, To: to, Kind: kind, Dst: -1, Arr: -1, A: none, B: none}
}

// sides: an edge, as it is taken, and its pair, where it needs one.
func sides(e api.Edge) []api.Edge {
	if e.Kind != api.KAssume || e.Op < api.OpLt || e.Op > api.OpGe {
		return []api.Edge{e}
	}
	other := e
	other.Op = []int{0, api.OpGe, api.OpGt, api.OpNe, api.OpEq, api.OpLe, api.OpLt}[e.Op]
	return []api.Edge{e, other}
}

// answers: what all calls but Lower say of a graph.
type answers struct {
	out                 [][]int // of the first points
	reached             []bool
	heads, order        []int
	errors              []api.Errno // of Check, Reached, Heads, Order, and of Out of the first points
	before, behind, far api.Errno   // of Out of points that there aren't
}

func ask(c api.Cfg) answers {
	var a answers
	var e, f, g api.Errno
	a.reached, e = Reached(c)
	a.heads, f = Heads(c)
	a.order, g = Order(c)
	a.errors = []api.Errno{Check(c), e, f, g}
	for point := range max(1, min(c.Points, 50)) {
		l, e := Out(c, point)
		a.out, a.errors = append(a.out, l), append(a.errors, e)
	}
	_, a.before = Out(c, -1)
	_, a.behind = Out(c, c.Points)
	_, a.far = Out(c, 1<<32)
	return a
}

// takes: that a graph is one.
func takes(t *testing.T, what string, c api.Cfg) answers {
	t.Helper()
	a := ask(c)
	none := [3]api.Errno{a.before, a.behind, a.far}
	if slices.Max(a.errors) != api.OK || none != [3]api.Errno{api.ErrCfgForm, api.ErrCfgForm, api.ErrCfgForm} {
		t.Errorf("P9.2, P9.3: %s: %.300s: errors %v, %v", what, whole(c), a.errors, none)
	}
	return a
}

// refuses holds all calls but Lower against an error of a graph, with nothing beside it.
func refuses(t *testing.T, what string, c api.Cfg, want api.Errno) {
	t.Helper()
	a := ask(c)
	many := len(a.reached) + len(a.heads) + len(a.order)
	for _, l := range a.out {
		many += len(l)
	}
	for _, e := range append(a.errors, a.before, a.behind, a.far) {
		if e != want || many != 0 {
			t.Errorf("P9.2, P9.3: %s: %.300s: errors %v; want %d", what, whole(c), a.errors, want)
			return
		}
	}
}

// bars holds Lower against an error, with no graph beside it.
func bars(t *testing.T, what string, p api.Prog, want api.Errno) {
	t.Helper()
	if c, e := Lower(p); e != want || whole(c) != whole(api.Cfg{}) {
		t.Errorf("P9.1: %.300s: %.300s, %d; want %d", what, whole(c), e, want)
	}
}

func body(l ...api.Stmt) api.Prog { return api.Prog{Body: l} }

func constant(n int64) api.Expr { return api.Expr{Kind: api.ENum, Num: n} }

func vari(name string) api.Expr { return api.Expr{Kind: api.EVar, Name: name} }

func assign(name string, e api.Expr) api.Stmt {
	return api.Stmt{Kind: api.SAssign, Name: name, Exprs: []api.Expr{e}}
}

func skip() api.Stmt { return api.Stmt{Kind: api.SSkip} }

// numbered: n texts like form, with their numbers, from 0 on, where # stands.
func numbered(n int, form string) string {
	var b strings.Builder
	for i := range n {
		b.WriteString(strings.ReplaceAll(form, "#", strconv.Itoa(i)))
	}
	return b.String()
}
