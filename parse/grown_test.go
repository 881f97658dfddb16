package parse

import (
	"math/rand/v2"
	"slices"
	"strconv"
	"strings"
	"testing"

	"gnomon/api"
)

// grower makes sources, the same ones in each run.
type grower struct{ *rand.Rand }

func newGrower(seed uint64) grower { return grower{rand.New(rand.NewPCG(seed, 4))} }

// grown: the tokens of a source, and the text of its tree, which is put together beside them.
type grown struct {
	tokens []string
	text   string
	level  int // what binds it together, from 1 on: the higher, the closer
}

func (g grower) one(of ...string) string { return of[g.IntN(len(of))] }

func tokens(parts ...any) []string {
	var l []string
	for _, p := range parts {
		switch p := p.(type) {
		case string:
			l = append(l, p)
		case grown:
			l = append(l, p.tokens...)
		}
	}
	return l
}

// wrapped: v between two signs, where its level is below least, or by chance.
func (g grower) wrapped(v grown, least int, open, shut string) grown {
	for v.level < least || g.IntN(12) == 0 {
		v = grown{tokens(open, v, shut), v.text, 9}
	}
	return v
}

func (g grower) expr(depth int) grown {
	kind := g.IntN(12)
	if depth <= 0 {
		kind = g.IntN(3)
	}
	part := func(least int) grown { return g.wrapped(g.expr(depth-1-g.IntN(2)), least, "(", ")") }
	name := g.one("x", "y", "é1", "_")
	switch kind {
	case 0:
		n := strconv.Itoa(g.IntN(30))
		return grown{[]string{n}, n, 4}
	case 1:
		return grown{[]string{name}, name, 4}
	case 2:
		return grown{[]string{"input"}, "input", 4}
	case 3, 4:
		at := part(0)
		return grown{tokens(name, "[", at, "]"), name + "[" + at.text + "]", 4}
	case 5, 6:
		v := part(3)
		return grown{tokens("-", v), "(-" + v.text + ")", 3}
	}
	sign, level := g.one("+", "-"), 1
	if kind > 8 {
		sign, level = g.one("*", "/", "%"), 2
	}
	left, right := part(level), part(level+1)
	return grown{tokens(left, sign, right), "(" + left.text + sign + right.text + ")", level}
}

func (g grower) cond(depth int) grown {
	kind := g.IntN(9)
	if depth <= 0 {
		kind = g.IntN(2)
	}
	part := func(least int) grown { return g.wrapped(g.cond(depth-1-g.IntN(2)), least, "[", "]") }
	switch kind {
	case 0:
		s := g.one("true", "false")
		return grown{[]string{s}, s, 3}
	case 1, 2, 3:
		sign := g.one("<", "<=", "==", "!=", ">", ">=")
		left, right := g.wrapped(g.expr(depth/2), 0, "(", ")"), g.wrapped(g.expr(depth/2), 0, "(", ")")
		return grown{tokens(left, sign, right), left.text + sign + right.text, 3}
	case 4:
		v := part(3)
		return grown{tokens("!", v), "[!" + v.text + "]", 3}
	case 5, 6:
		left, right := part(2), part(3)
		return grown{tokens(left, "&&", right), "[" + left.text + "&&" + right.text + "]", 2}
	}
	left, right := part(1), part(2)
	return grown{tokens(left, "||", right), "[" + left.text + "||" + right.text + "]", 1}
}

func (g grower) stmts(depth int) grown {
	var all grown
	for range g.IntN(4) {
		s := g.stmt(depth)
		all = grown{tokens(all, s), all.text + s.text, 0}
	}
	return all
}

func (g grower) stmt(depth int) grown {
	kind := g.IntN(9)
	if depth <= 0 {
		kind = g.IntN(4)
	}
	name := g.one("x", "y", "é1", "_")
	switch kind {
	case 0:
		return grown{[]string{"skip", ";"}, "skip;", 0}
	case 1:
		v := g.expr(3)
		return grown{tokens(name, "=", v, ";"), name + "=" + v.text + ";", 0}
	case 2:
		at, v := g.expr(2), g.expr(2)
		return grown{tokens(name, "[", at, "]", "=", v, ";"), name + "[" + at.text + "]=" + v.text + ";", 0}
	case 3:
		w, c := g.one("assert", "assume"), g.cond(3)
		return grown{tokens(w, c, ";"), w + " " + c.text + ";", 0}
	case 4, 5:
		c, then := g.cond(2), g.stmts(depth-1)
		return grown{tokens("while", c, "{", then, "}"), "while " + c.text + "{" + then.text + "}", 0}
	}
	c, then, other := g.cond(2), g.stmts(depth-1), grown{}
	s := grown{tokens("if", c, "{", then, "}"), "if " + c.text + "{" + then.text + "}", 0}
	if kind == 6 {
		return s
	}
	for other.text == "" {
		other = g.stmts(depth - 1)
	}
	return grown{tokens(s, "else", "{", other, "}"), s.text + "else{" + other.text + "}", 0}
}

func (g grower) decls() grown {
	var all grown
	for range g.IntN(4) {
		name := g.one("x", "y", "é1", "_")
		d := grown{[]string{"var", name, ";"}, "var " + name + ";", 0}
		if n := strconv.Itoa(1 + g.IntN(2000)); g.IntN(2) == 0 {
			d = grown{[]string{"array", name, "[", n, "]", ";"}, "array " + name + "[" + n + "];", 0}
		}
		all = grown{tokens(all, d), all.text + d.text, 0}
	}
	return all
}

// source grows one of a sort.
func (g grower) source(sort string) grown {
	switch sort {
	case expr:
		return g.expr(5)
	case condition:
		return g.cond(5)
	}
	head, body := g.decls(), g.stmts(4)
	return grown{tokens(head, body), head.text + body.text, 0}
}

// spaced: tokens with something between them, and around them, of each kind that may be there.
func (g grower) spaced(l []string) string {
	s := g.one("", " ", "#\n")
	for _, k := range l {
		s += k + g.one(" ", " ", " ", "\n", "\t", "\r\n", "  \n ", "#\n", " # x = ; } é\n\n")
	}
	return s + g.one("", " ", "#", "\n")
}

// TestGrownSources: that what a source is grown as is its tree.
func TestGrownSources(t *testing.T) {
	g := newGrower(1)
	for _, sort := range []string{program, expr, condition} {
		n := 0
		for range 1500 {
			v := g.source(sort)
			reads(t, sort, strings.Join(v.tokens, " "), v.text)
			reads(t, sort, g.spaced(v.tokens), v.text)
			n += len(v.tokens)
		}
		if n < 10000 {
			t.Errorf("only %d tokens were grown of %s", n, sort)
		}
	}
}

// faulty: l with a few of its tokens changed.
func (g grower) faulty(l []string) []string {
	all := alphabet()
	for range 1 + g.IntN(2) {
		i, k := g.IntN(len(l)+1), all[g.IntN(len(all))]
		switch kind := g.IntN(5); {
		case kind == 0 || i == len(l):
			l = ahead(l, i, k)
		case kind == 1:
			l = without(l, i)
		case kind == 2:
			l = ahead(l, i, l[i])
		case kind == 3:
			l = instead(l, i, l[g.IntN(len(l))])
		default:
			l = instead(l, i, k)
		}
	}
	return l
}

// TestGrownFaults: grown sources with faults, told by the model.
func TestGrownFaults(t *testing.T) {
	m, g := newModel(), newGrower(2)
	count := map[api.Errno]int{}
	for _, sort := range []string{program, expr, condition} {
		for range 1500 {
			l := g.faulty(g.source(sort).tokens)
			i, e := m.fault(sort, l)
			m.same(t, sort, l, g.one(" ", "\n", " #;\n"), i, e)
			count[e]++
		}
	}
	if count[api.OK] < 200 || count[api.ErrParseWant] < 2500 {
		t.Errorf("unlike what was meant: %v", count)
	}
}

// TestGrownDeep: grown sources deep within others.
func TestGrownDeep(t *testing.T) {
	m, g := newModel(), newGrower(3)
	count := map[api.Errno]int{}
	for range 2500 {
		sort, n := g.one(program, expr, condition), 33+g.IntN(8)
		l := g.source(sort).tokens
		if g.IntN(3) == 0 {
			l = g.faulty(l)
		}
		switch sort {
		case program:
			l = slices.Concat(slices.Repeat([]string{"while", "true", "{"}, n), g.stmts(3).tokens, l, slices.Repeat([]string{"}"}, n))
		case expr:
			l = slices.Concat(slices.Repeat([]string{"("}, n), l, slices.Repeat([]string{")"}, n))
		default:
			l = slices.Concat(slices.Repeat([]string{"["}, n), l, slices.Repeat([]string{"]"}, n))
		}
		i, e := m.fault(sort, l)
		m.same(t, sort, l, " ", i, e)
		count[e]++
	}
	if count[api.OK] < 200 || count[api.ErrParseWant] < 200 || count[api.ErrParseDeep] < 500 {
		t.Errorf("unlike what was meant: %v", count)
	}
}

// TestPartsChangeNothing: of sources with faults and without, but the fault's place, which is that of the same token.
func TestPartsChangeNothing(t *testing.T) {
	g := newGrower(4)
	for range 1500 {
		sort := g.one(program, expr, condition)
		l := g.source(sort).tokens
		if g.IntN(2) == 0 {
			l = g.faulty(l)
		}
		s, other := strings.Join(l, " "), g.spaced(l)
		a, b := ask(t, sort, s), ask(t, sort, other)
		if a.text != b.text || a.e != b.e || slices.Index(placesOf(s), a.at) != slices.Index(placesOf(other), b.at) {
			t.Fatalf("P4.5: %q: %+v, but %q: %+v", s, a, other, b)
		}
	}
}
