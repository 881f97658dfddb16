package well

import (
	"math/rand/v2"
	"slices"
	"strconv"
	"strings"
	"testing"

	"gnomon/api"
	"gnomon/lex"
)

// model tells of a source by its tokens alone what Check is to tell of its program: in a source names stand in the order of nodes, and an array's is the one with [ behind it.
func model(t *testing.T, source string) (string, api.Errno) {
	tokens, _, e := lex.Tokens(source)
	if e != api.OK {
		t.Fatalf("%.300q: %d", source, e)
	}
	var vars, arrays []string
	for i, k := range tokens {
		if k.Kind != api.TokName {
			continue
		}
		n, array := k.Text, tokens[i+1].Text == "["
		declared := slices.Contains(vars, n) || slices.Contains(arrays, n)
		if i == 0 || tokens[i-1].Text != "var" && tokens[i-1].Text != "array" {
			if !declared {
				return n, 63
			}
			if array != slices.Contains(arrays, n) {
				return n, 64
			}
			continue
		}
		if declared {
			return n, 60
		}
		if array && tokens[i+2].Num > 1024 {
			return n, 61
		}
		if array {
			arrays = append(arrays, n)
		} else {
			vars = append(vars, n)
		}
		if len(vars) == 33 || len(arrays) == 17 {
			return n, 62
		}
	}
	return "", 0
}

// likeModel holds what is told of a source against the model, and answers the error.
func likeModel(t *testing.T, source string) api.Errno {
	t.Helper()
	name, want := model(t, source)
	says(t, source, name, want)
	return want
}

// TestAllShort: all programs of few declarations and statements of a few sorts.
func TestAllShort(t *testing.T) {
	declared := []string{"", "var x;", "var y;", "array x[1];", "array y[1024];", "array x[1025];", "array y[2000];"}
	done := []string{"", "x = 1;", "y = x;", "x = y[1];", "x[0] = y;", "y[x] = 2;", "assert x[y] < y;", "while y < 1 { x = 1; }", "if true { x = x; } else { y[0] = 1; }", "skip;"}
	count := map[api.Errno]int{}
	for _, a := range declared {
		for _, b := range declared {
			for _, c := range declared {
				for _, s := range done {
					for _, z := range done {
						count[likeModel(t, a+b+c+s+z)]++
					}
				}
			}
		}
	}
	for e := api.ErrWellTwice; e <= api.ErrWellKind; e++ {
		if (count[e] < 500) != (e == api.ErrWellMany) {
			t.Errorf("error %d: %d", e, count[e])
		}
	}
	if count[api.OK] < 100 {
		t.Errorf("unlike what was meant: %v", count)
	}
}

// grower makes sources, the same ones in each run: mostly with names taken for what is declared, sometimes not.
type grower struct {
	*rand.Rand
	vars, arrays []string
}

func newGrower(seed uint64) *grower { return &grower{Rand: rand.New(rand.NewPCG(seed, 6))} }

func pick[T any](g *grower, l []T) T { return l[g.IntN(len(l))] }

// wellDecls: declarations that are well, of which the grower's names are; of one program in four as many as there may be.
func (g *grower) wellDecls() string {
	g.vars, g.arrays = nil, nil
	many := pick(g, []int{g.IntN(9), g.IntN(49), g.IntN(49), 48})
	var b strings.Builder
	for _, i := range g.Perm(48)[:many] {
		n := pick(g, []string{"x", "é", "_", "Ж"}) + strconv.Itoa(i)
		if i < 32 {
			g.vars = append(g.vars, n)
			b.WriteString("var " + n + "; ")
		} else {
			g.arrays = append(g.arrays, n)
			b.WriteString("array " + n + "[" + pick(g, []string{"1", "2", "1024"}) + "]; ")
		}
	}
	return b.String()
}

// anyDecls: declarations of which some may be refused.
func (g *grower) anyDecls() string {
	l := strings.SplitAfter(g.wellDecls(), "; ")
	for range g.IntN(3) {
		at := g.IntN(len(l))
		n := pick(g, []string{"new", pick(g, slices.Concat([]string{"new"}, g.vars, g.arrays))})
		l = slices.Insert(l, at, pick(g, []string{"var " + n + "; ", "array " + n + "[3]; ", "array " + n + "[1025]; "}))
	}
	return strings.Join(l, "")
}

// name: one of l, seldom another one.
func (g *grower) name(l []string) string {
	if len(l) == 0 || g.IntN(400) == 0 {
		l = slices.Concat([]string{"none"}, g.vars, g.arrays)
	}
	return pick(g, l)
}

func (g *grower) expr(depth int) string {
	next := func() string { return g.expr(depth - 1) }
	if depth <= 0 {
		return pick(g, []string{"1", "input", g.name(g.vars)})
	}
	switch g.IntN(5) {
	case 0:
		return g.expr(0)
	case 1:
		return "-" + next()
	case 2:
		return g.name(g.arrays) + "[" + next() + "]"
	}
	return "(" + next() + pick(g, []string{" + ", " - ", " * ", " / ", " % "}) + next() + ")"
}

func (g *grower) cond(depth int) string {
	next := func() string { return g.cond(depth - 1) }
	switch g.IntN(5) * min(depth, 1) {
	case 1:
		return pick(g, []string{"true", "false"})
	case 2:
		return "!" + next()
	case 3, 4:
		return "[" + next() + pick(g, []string{" && ", " || "}) + next() + "]"
	}
	return g.expr(2) + pick(g, []string{" < ", " == ", " >= "}) + g.expr(2)
}

func (g *grower) stmt(depth int) string {
	kind := g.IntN(7)
	if depth <= 0 {
		kind = g.IntN(5)
	}
	switch kind {
	case 0:
		return g.name(g.vars) + " = " + g.expr(3) + "; "
	case 1:
		return g.name(g.arrays) + "[" + g.expr(2) + "] = " + g.expr(2) + "; "
	case 2:
		return "skip; "
	case 3, 4:
		return pick(g, []string{"assert ", "assume "}) + g.cond(3) + "; "
	case 5:
		return "while " + g.cond(2) + " { " + g.block(depth-1) + "} "
	}
	s := "if " + g.cond(2) + " { " + g.block(depth-1) + "} "
	if g.IntN(2) == 0 {
		s += "else { " + g.block(depth-1) + "} "
	}
	return s
}

func (g *grower) block(depth int) string {
	s := ""
	for range g.IntN(4) {
		s += g.stmt(depth)
	}
	return s
}

// prog: a source with those declarations.
func (g *grower) prog(decls string) string { return decls + g.block(3) + g.stmt(1) }

// TestGrown: sources of all sorts against the model.
func TestGrown(t *testing.T) {
	g := newGrower(3)
	count := map[api.Errno]int{}
	for range 6000 {
		count[likeModel(t, g.prog(g.wellDecls()))]++
		count[likeModel(t, g.prog(g.anyDecls()))]++
	}
	for _, e := range []api.Errno{api.OK, api.ErrWellTwice, api.ErrWellSize, api.ErrWellMany, api.ErrWellNone, api.ErrWellKind} {
		if count[e] < 50 {
			t.Errorf("error %d: only %d", e, count[e])
		}
	}
}
