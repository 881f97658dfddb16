package run

import (
	"math/rand/v2"
	"slices"
	"strings"
	"testing"

	"gnomon/api"
)

// like holds a program's outcomes of 0 steps to most ones, or to some more than it has, against the model's, and answers how it stands at last.
func like(t *testing.T, source string, script []int64, most int) string {
	t.Helper()
	p := read(t, source)
	want := outcomes(p, script, most)
	for k := range min(most, len(want)+1) + 1 {
		w := want[min(k, len(want)-1)]
		if got := told(ran(t, p, script, k)); got != w {
			t.Fatalf("P8.1, P8.2: %.900q on %v, %d steps: %s; want %s", source, script, k, got, w)
		}
	}
	return want[len(want)-1][:1]
}

// TestAllShort: each expression of up to three parts in each place where one can stand, with too few inputs and enough.
func TestAllShort(t *testing.T) {
	parts := []string{"0", "1", "-1", "MAX", "-MAX", "x", "y", "input", "a[1]", "a[y]"}
	exprs := slices.Clone(parts)
	for _, p := range parts {
		exprs = append(exprs, "-("+p+")", "a["+p+"]", "-a["+p+"]", "--("+p+")")
		for _, q := range parts {
			for _, op := range []string{" + ", " - ", " * ", " / ", " % "} {
				exprs = append(exprs, p+op+q)
			}
		}
	}
	count := map[string]int{}
	for _, e := range exprs {
		for _, form := range []string{"x = E;", "a[E] = 3;", "a[x] = E;", "assert E < x;", "assume x <= E; y = E;", "x = 1 - (E);", "if E == 0 { x = E; } else { skip; }", "while E != y { y = y + 1; }"} {
			s := "var x; var y; array a[3]; x = 2; a[1] = -1; " + strings.ReplaceAll(form, "E", e)
			for _, l := range [][]int64{nil, {0}, {2, 5}} {
				count[like(t, s, l, 9)]++
			}
		}
	}
	for _, how := range strings.Fields("R H O Z B A") {
		if count[how] < 100 {
			t.Errorf("%s: only %d", how, count[how])
		}
	}
}

// grower makes sources and scripts, the same ones in each run.
type grower struct{ *rand.Rand }

func newGrower(seed uint64) grower { return grower{rand.New(rand.NewPCG(seed, 8))} }

func (g grower) one(of ...string) string { return of[g.IntN(len(of))] }

// small: an expression that seldom goes wrong.
func (g grower) small() string {
	return g.one("0", "1", "2", "x", "y", "x", "y", "-1", "input", "x - 1", "y + 1", "a[0]", "a[1]", "-x", "--y", "x % 3", "b[0] + 1")
}

func (g grower) expr(depth int) string {
	next := func() string { return "(" + g.expr(depth-1) + ")" }
	if depth <= 0 {
		return g.small()
	}
	switch g.IntN(12) {
	case 0:
		return "-" + next()
	case 1:
		return g.one("a[", "b[") + next() + g.one("", " % 2", " % 3") + "]"
	case 2:
		return next() + g.one(" / ", " % ") + next()
	case 3:
		return next() + g.one(" / ", " % ") + g.one("2", "-1", "x", "MIN")
	case 4:
		return next() + " * " + g.one("2", "y", "4611686018427387904", "-MAX")
	case 5, 6, 7, 8:
		return next() + g.one(" + ", " - ", " * ") + next()
	}
	return g.small()
}

func (g grower) cond(depth int) string {
	next := func() string { return "[" + g.cond(depth-1) + "]" }
	switch g.IntN(5) * min(depth, 1) {
	case 1:
		return g.one("true", "false")
	case 2:
		return "!" + next()
	case 3, 4:
		return next() + g.one(" && ", " || ") + next()
	}
	return g.expr(1) + g.one(" < ", " <= ", " == ", " != ", " > ", " >= ") + g.expr(1)
}

func (g grower) stmt(depth int) string {
	kind := g.IntN(10)
	if depth <= 0 {
		kind = g.IntN(7)
	}
	switch kind {
	case 0, 1, 2:
		return g.one("x = ", "y = ") + g.expr(g.IntN(3)) + "; "
	case 3, 4:
		return g.one("a[", "b[") + g.one("0", "1", "x", "input", "1 - y", "x % 2") + "] = " + g.expr(g.IntN(2)) + "; "
	case 5:
		return g.one("skip; ", "assume "+g.cond(1)+"; ", "assume true; ", "assert "+g.cond(2)+"; ")
	case 6:
		return "assert " + g.one("true", "x < 1000000", "y > -1000000", "!false") + "; "
	case 7:
		return "while " + g.cond(1) + " { " + g.stmts(depth-1) + "} "
	}
	s := "if " + g.cond(2) + " { " + g.stmts(depth-1) + "} "
	if g.IntN(2) == 0 {
		s += "else { " + g.stmts(depth-1) + "} "
	}
	return s
}

func (g grower) stmts(depth int) string {
	s := ""
	for range g.IntN(4) {
		s += g.stmt(depth)
	}
	return s
}

func (g grower) prog() string {
	s := "var x; array a[2]; var y; array b[3]; "
	for range 1 + g.IntN(6) {
		s += g.stmt(3)
	}
	return s
}

func (g grower) script() []int64 {
	l := make([]int64, g.IntN(7))
	for i := range l {
		l[i] = []int64{0, 1, 2, -1, g.Int64N(9) - 4, int64(g.Uint64()), least, most}[g.IntN(8)]
	}
	return l
}

// TestGrown: programs of all sorts against the model.
func TestGrown(t *testing.T) {
	g := newGrower(1)
	count := map[string]int{}
	for range 6000 {
		count[like(t, g.prog(), g.script(), 60)]++
	}
	for _, how := range strings.Fields("R H O Z B A") {
		if count[how] < 100 {
			t.Errorf("%s: only %d", how, count[how])
		}
	}
}

// TestLongRuns: grown programs behind many steps, up to as many as may be.
func TestLongRuns(t *testing.T) {
	g := newGrower(2)
	long := 0
	for range 300 {
		s, l := g.prog(), g.script()
		p := read(t, "var n; while true { n = n + 1; if n == 300 { "+strings.TrimPrefix(s, "var x; array a[2]; var y; array b[3]; ")+"} }")
		p.Decls = append(p.Decls, api.Decl{Name: "x"}, api.Decl{Name: "a", Size: 2}, api.Decl{Name: "y"}, api.Decl{Name: "b", Size: 3})
		want := outcomes(p, l, 2000)
		if last := want[len(want)-1]; strings.HasPrefix(last, "R") {
			long++
		} else if got := told(ran(t, p, l, api.MaxSteps)); got != last {
			t.Fatalf("P8.2: %.900q on %v: %s; want %s", s, l, got, last)
		}
		for _, k := range []int{0, 899, 900, 901, 902, 903, 905, 910, 2000} {
			if got, w := told(ran(t, p, l, k)), want[min(k, len(want)-1)]; got != w {
				t.Fatalf("P8.2: %.900q on %v, %d steps: %s; want %s", s, l, k, got, w)
			}
		}
	}
	if long < 30 {
		t.Errorf("only %d long ones", long)
	}
}
