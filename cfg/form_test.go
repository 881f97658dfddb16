package cfg

import (
	"slices"
	"strings"
	"testing"

	"gnomon/api"
)

// holder: a graph of three points, Exit the last one, with two variables and a temporary, two arrays, and those edges.
func holder(edges ...api.Edge) api.Cfg {
	return api.Cfg{Vars: []string{"x", "y"}, Temps: 1, Arrays: []api.Decl{{Name: "a", Size: 1}, {Name: "b", Size: 1024}}, Points: 3, Exit: 2, Edges: edges}
}

// right: that an edge is right, with its pair, where it needs one.
func right(t *testing.T, e api.Edge) {
	t.Helper()
	takes(t, "right", holder(sides(e)...))
}

func wrong(t *testing.T, e api.Edge) {
	t.Helper()
	refuses(t, "not right", holder(sides(e)...), api.ErrCfgForm)
}

// full: an edge of each kind that is right.
func full(kind int) api.Edge {
	e := edgeOf(0, 1, kind)
	for _, letter := range forms()[kind] {
		switch letter {
		case 'D':
			e.Dst = 1
		case 'R':
			e.Arr = 1
		case 'O':
			e.Op = api.OpLe
		case 'A':
			e.A = api.Operand{Var: 2}
		case 'B':
			e.B = api.Operand{Var: -1, Num: -7}
		}
	}
	return e
}

// TestKinds: one of each kind, and kinds that there aren't.
func TestKinds(t *testing.T) {
	for kind := api.KNop; kind <= api.KFail; kind++ {
		right(t, full(kind))
	}
	for _, kind := range []int{0, -1, 15, 16, -12, 1 << 32, 12 + 1<<32, -1 << 63, 1<<63 - 1} {
		wrong(t, edgeOf(0, 1, kind))
	}
	if api.KNop != 1 || api.KFail != 14 || len(forms()) != 15 {
		t.Error("unlike the chapter's kinds")
	}
}

// TestFields: all of an edge's fields together, of each kind, about what they may be. What may be is told by the kind's form alone.
func TestFields(t *testing.T) {
	operands := []api.Operand{{Var: -1}, {Var: -1, Num: 5}, {Var: -1, Num: -1 << 63}, {}, {Var: 2}, {Var: 3}, {Var: -2}, {Num: 1}, {Var: 1 << 32}}
	isOperand := []bool{true, true, true, true, true, false, false, false, false}
	dsts, arrs, ops := []int{-1, 0, 2, 3, -2}, []int{-1, 0, 1, 2, -2}, []int{0, 1, 6, 7, -1}
	for kind := api.KNop; kind <= api.KFail; kind++ {
		has := func(letter string) bool { return strings.Contains(forms()[kind], letter) }
		count := 0
		for i := range len(dsts) * len(arrs) * len(ops) * len(operands) * len(operands) {
			dst, arr, op := i%5, i/5%5, i/25%5
			a, b := i/125%9, i/125/9
			e := api.Edge{To: 1, Kind: kind, Dst: dsts[dst], Arr: arrs[arr], Op: ops[op], A: operands[a], B: operands[b]}
			ok := has("D") == (dst > 0) && dst < 3 && has("R") == (arr > 0) && arr < 3 && has("O") == (op > 0) && op < 3
			ok = ok && (has("A") && isOperand[a] || a == 0) && (has("B") && isOperand[b] || b == 0)
			want := api.OK
			if !ok {
				want = api.ErrCfgForm
			} else {
				count++
			}
			if got := Check(holder(sides(e)...)); got != want {
				t.Errorf("P9.2: %s: %d; want %d", told(e), got, want)
			}
		}
		want := 1
		for letter, n := range map[string]int{"D": 2, "R": 2, "O": 2, "A": 5, "B": 5} {
			if has(letter) {
				want *= n
			}
		}
		if count != want {
			t.Errorf("kind %d: %d are right, not %d", kind, count, want)
		}
	}
}

// TestEachNumber: the variables, temporaries, arrays and ops that there are, and no more, of each kind that has them.
func TestEachNumber(t *testing.T) {
	for kind := api.KNop; kind <= api.KFail; kind++ {
		for _, n := range []int{-1 << 63, -1 << 32, -3, -2, -1, 0, 1, 2, 3, 4, 5, 6, 7, 8, 64, 1 << 32, 1<<32 + 1, 1<<63 - 1} {
			for _, letter := range "DROAB" {
				e := full(kind)
				least, most, bare := 0, 2, -1
				switch letter {
				case 'D':
					e.Dst = n
				case 'R':
					e.Arr, most = n, 1
				case 'O':
					e.Op = n
					least, most, bare = 1, 6, 0
				case 'A':
					e.A, least = api.Operand{Var: n}, -1
				case 'B':
					e.B, least = api.Operand{Var: n}, -1
				}
				has := strings.ContainsRune(forms()[kind], letter)
				if has && n >= least && n <= most || !has && n == bare {
					right(t, e)
				} else {
					wrong(t, e)
				}
			}
		}
	}
}

// TestEnds: From and To are points, and From isn't Exit.
func TestEnds(t *testing.T) {
	for kind := api.KNop; kind <= api.KFail; kind++ {
		for _, from := range []int{-1 << 63, -1, 0, 1, 2, 3, 4, 1 << 32, 1<<63 - 1} {
			for _, to := range []int{-1 << 63, -1, 0, 1, 2, 3, 4, 1 << 32, 1<<63 - 1} {
				for exit := range 3 {
					e := full(kind)
					e.From, e.To = from, to
					c := holder(sides(e)...)
					c.Exit = exit
					if from >= 0 && from <= 2 && to >= 0 && to <= 2 && from != exit {
						takes(t, "ends", c)
					} else {
						refuses(t, "ends", c, api.ErrCfgForm)
					}
				}
			}
		}
	}
	for _, exit := range []int{-1 << 63, -2, -1, 3, 4, 1 << 32, 1<<63 - 1} {
		c := holder()
		c.Exit = exit
		refuses(t, "no Exit", c, api.ErrCfgForm)
		c.Edges = []api.Edge{full(api.KNop)}
		refuses(t, "no Exit", c, api.ErrCfgForm)
	}
}

// TestArrays: how many there may be, and of which sizes. Names aren't looked at.
func TestArrays(t *testing.T) {
	for n := range 20 {
		c := api.Cfg{Points: 1, Arrays: slices.Repeat([]api.Decl{{Name: "a", Size: 3}}, n)}
		if n <= 16 {
			takes(t, "arrays", c)
		} else {
			refuses(t, "arrays", c, api.ErrCfgForm)
		}
		for at := range min(n, 17) {
			for _, size := range []int{-1 << 63, -1, 0, 1, 2, 1023, 1024, 1025, 1 << 32, 1<<63 - 1} {
				c.Arrays[at].Size = size
				if n <= 16 && size >= 1 && size <= 1024 {
					takes(t, "sizes", c)
				} else {
					refuses(t, "sizes", c, api.ErrCfgForm)
				}
			}
			c.Arrays[at].Size = 3
		}
	}
	refuses(t, "very many arrays", api.Cfg{Points: 1, Arrays: slices.Repeat([]api.Decl{{Size: 1}}, 1<<20)}, api.ErrCfgForm)
	for _, name := range []string{"", "a", "while", "1", "é", "\xff", strings.Repeat("x", 99)} {
		takes(t, "names", api.Cfg{Vars: []string{name, "x", name}, Points: 1, Arrays: []api.Decl{{Name: "x", Size: 1}, {Name: name, Size: 1}, {Name: name, Size: 2}}})
	}
	// As many as there may be are all of use.
	for arr := -1; arr <= 16; arr++ {
		e := edgeOf(0, 1, api.KLoad)
		e.Dst, e.Arr = 63, arr
		c := api.Cfg{Vars: make([]string, 30), Temps: 34, Points: 2, Exit: 1, Arrays: slices.Repeat([]api.Decl{{Size: 1}}, 16), Edges: []api.Edge{e}}
		if arr >= 0 && arr < 16 {
			takes(t, "the last array", c)
		} else {
			refuses(t, "no array", c, api.ErrCfgForm)
		}
		c.Edges[0].Dst = 64
		refuses(t, "no variable", c, api.ErrCfgForm)
	}
}

// TestTwoEdges: which two may go from one point: all kinds, ops and operands.
func TestTwoEdges(t *testing.T) {
	for one := api.KNop; one <= api.KFail; one++ {
		for two := api.KNop; two <= api.KFail; two++ {
			e, f := full(one), full(two)
			if two == api.KAssume {
				f.Op = api.OpGt
			}
			if one == api.KAssume && two == api.KAssume {
				takes(t, "a pair", holder(e, f))
			} else {
				refuses(t, "no pair", holder(e, f), api.ErrCfgForm)
			}
			f.From = 1
			f.To = 0
			if one != api.KAssume && two != api.KAssume {
				takes(t, "from two points", holder(e, f))
				takes(t, "from two points", holder(f, e))
			} else {
				refuses(t, "from two points", holder(e, f), api.ErrCfgForm)
			}
		}
	}
	not := []int{-2, api.OpGe, api.OpGt, api.OpNe, api.OpEq, api.OpLe, api.OpLt, -2}
	operands := []api.Operand{{Var: -1}, {Var: -1, Num: 1}, {Var: 0}, {Var: 1}, {Var: 2}}
	for op := range len(not) {
		for other := -1; other < len(not); other++ {
			for i := range 5 * 5 * 5 * 5 {
				e, f := edgeOf(0, 1, api.KAssume), edgeOf(0, i%3, api.KAssume)
				e.Op, e.A, e.B = op, operands[i%5], operands[i/5%5]
				f.Op, f.A, f.B = other, operands[i/25%5], operands[i/125]
				want := api.ErrCfgForm
				if other == not[op] && e.A == f.A && e.B == f.B {
					want = api.OK
				}
				if got := Check(holder(e, f)); got != want {
					t.Errorf("P9.2: %s and %s: %d; want %d", told(e), told(f), got, want)
				}
			}
		}
	}
	for _, op := range []int{-1 << 63, -1, 1 << 32, 1<<32 + 1, 1<<63 - 1} {
		e, f := edgeOf(0, 1, api.KAssume), edgeOf(0, 1, api.KAssume)
		for _, other := range []int{-1, 0, op, api.OpGe} {
			e.Op, f.Op = op, other
			refuses(t, "no ops", holder(e, f), api.ErrCfgForm)
			refuses(t, "no ops", holder(f, e), api.ErrCfgForm)
		}
	}
}

// TestManyFromOnePoint: one KAssume alone, three and more edges, and pairs with others between them.
func TestManyFromOnePoint(t *testing.T) {
	pair := sides(full(api.KAssume))
	nop := full(api.KNop)
	other := sides(full(api.KAssume))
	other[0].From, other[1].From = 1, 1
	refuses(t, "one alone", holder(pair[0]), api.ErrCfgForm)
	refuses(t, "one alone", holder(pair[1]), api.ErrCfgForm)
	takes(t, "none", holder())
	takes(t, "a pair", holder(pair[0], pair[1]))
	takes(t, "a pair", holder(pair[1], pair[0]))
	takes(t, "two pairs", holder(pair[0], other[0], pair[1], other[1]))
	takes(t, "two pairs", holder(other[1], pair[0], pair[1], other[0]))
	refuses(t, "a pair and a half", holder(pair[0], other[0], pair[1]), api.ErrCfgForm)
	refuses(t, "two halves", holder(pair[0], other[1]), api.ErrCfgForm)
	for _, third := range []api.Edge{pair[0], pair[1], nop} {
		for at := range 3 {
			refuses(t, "three", holder(slices.Insert(slices.Clone(pair), at, third)...), api.ErrCfgForm)
		}
		refuses(t, "four", holder(pair[0], pair[1], third, pair[1]), api.ErrCfgForm)
	}
	refuses(t, "two pairs at one point", holder(slices.Concat(pair, pair)...), api.ErrCfgForm)
	refuses(t, "two", holder(nop, nop), api.ErrCfgForm)
	refuses(t, "three", holder(nop, nop, nop), api.ErrCfgForm)
}

// TestOneFaultAmongMany: what isn't right is found wherever it stands.
func TestOneFaultAmongMany(t *testing.T) {
	c := lowered(t, read(t, "var x; array a[3]; array b[2]; while x + 1 < input { a[x] = x * x; if x == 2 || !x > 5 { b[a[x]] = -x; } else { x = x - 1; assert x / 2 % 3 != 0; } } assume x <= 4; x = 3; x = x;"))
	takes(t, "whole", c)
	faults := []func(e *api.Edge){
		func(e *api.Edge) { e.Kind = 0 }, func(e *api.Edge) { e.Kind = 15 }, func(e *api.Edge) { e.From = -1 }, func(e *api.Edge) { e.From = c.Points }, func(e *api.Edge) { e.From = c.Exit },
		func(e *api.Edge) { e.To = -1 }, func(e *api.Edge) { e.To = c.Points }, func(e *api.Edge) { e.Dst = -2 }, func(e *api.Edge) { e.Dst = 1 + c.Temps }, func(e *api.Edge) { e.Dst = -1 - e.Dst },
		func(e *api.Edge) { e.Arr = -2 }, func(e *api.Edge) { e.Arr = 2 }, func(e *api.Edge) { e.Arr = -1 - e.Arr }, func(e *api.Edge) { e.Op = -1 }, func(e *api.Edge) { e.Op = 7 }, func(e *api.Edge) { e.Op = 1 - min(e.Op, 1) },
		func(e *api.Edge) { e.A.Var = -2 }, func(e *api.Edge) { e.A.Var = 1 + c.Temps }, func(e *api.Edge) { e.A = api.Operand{Num: 1} }, func(e *api.Edge) { e.B.Var = -2 }, func(e *api.Edge) { e.B.Var = 1 + c.Temps }, func(e *api.Edge) { e.B = api.Operand{Num: 1} },
	}
	for i, e := range c.Edges {
		for _, f := range faults {
			bent := c
			bent.Edges = slices.Clone(c.Edges)
			f(&bent.Edges[i])
			if bent.Edges[i] != e {
				refuses(t, "one fault", bent, api.ErrCfgForm)
			}
		}
		without := c
		without.Edges = slices.Delete(slices.Clone(c.Edges), i, i+1)
		if e.Kind == api.KAssume {
			refuses(t, "half a pair", without, api.ErrCfgForm)
		} else {
			takes(t, "without an edge", without)
		}
		twice := c
		twice.Edges = append(slices.Clone(c.Edges), e)
		refuses(t, "one twice", twice, api.ErrCfgForm)
	}
}
