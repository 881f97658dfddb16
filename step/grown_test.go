package step

import (
	"fmt"
	"math/rand/v2"
	"slices"
	"strings"
	"testing"

	"gnomon/api"
	"gnomon/cfg"
)

// grower makes graphs, programs and scripts, the same ones in each run.
type grower struct{ *rand.Rand }

func newGrower(seed uint64) grower { return grower{rand.New(rand.NewPCG(seed, 10))} }

// number: often a small one, seldom one at an end.
func (g grower) number() int64 {
	return []int64{0, 1, 2, 3, -1, -1, g.Int64N(9) - 4, g.Int64N(9) - 4, int64(g.Uint64()), least, least + g.Int64N(3), most - g.Int64N(3)}[g.IntN(12)]
}

func (g grower) script() []int64 {
	l := make([]int64, g.IntN(6))
	for i := range l {
		l[i] = g.number()
	}
	return l
}

// graph: of few points, each of which but Exit has mostly an edge or two.
func (g grower) graph() api.Cfg {
	c := api.Cfg{Vars: make([]string, g.IntN(4)), Temps: g.IntN(4), Points: 1 + g.IntN(8)}
	for range g.IntN(3) {
		c.Arrays = append(c.Arrays, api.Decl{Size: 1 + g.IntN(4)})
	}
	c.Exit = g.IntN(c.Points)
	for point := range c.Points {
		if point != c.Exit && g.IntN(12) > 0 {
			c.Edges = append(c.Edges, g.edges(c, point)...)
		}
	}
	g.Shuffle(len(c.Edges), func(i, j int) { c.Edges[i], c.Edges[j] = c.Edges[j], c.Edges[i] })
	return c
}

// edges: one from a point, or two that compare.
func (g grower) edges(c api.Cfg, from int) []api.Edge {
	none := api.Operand{Var: -1}
	vars := len(c.Vars) + c.Temps
	e := api.Edge{From: from, To: g.IntN(c.Points), Dst: -1, Arr: -1, A: none, B: none}
	kinds := []int{api.KNop, api.KPass, api.KAssume, api.KAssume}
	if vars > 0 {
		kinds = append(kinds, api.KCopy, api.KCopy, api.KNeg, api.KAdd, api.KAdd, api.KSub, api.KMul, api.KDiv, api.KRem, api.KInput, api.KInput)
	}
	if len(c.Arrays) > 0 {
		kinds = append(kinds, api.KStore, api.KStore)
	}
	if vars > 0 && len(c.Arrays) > 0 {
		kinds = append(kinds, api.KLoad, api.KLoad)
	}
	e.Kind = kinds[g.IntN(len(kinds))]
	if g.IntN(25) == 0 {
		e.Kind = api.KFail
	}
	if slices.Contains([]int{api.KLoad, api.KStore}, e.Kind) {
		e.Arr = g.IntN(len(c.Arrays))
	}
	if e.Kind >= api.KCopy && e.Kind <= api.KLoad {
		e.Dst = g.IntN(vars)
	}
	if e.Kind >= api.KCopy && e.Kind <= api.KAssume && e.Kind != api.KInput {
		e.A = g.operand(vars)
	}
	if slices.Contains([]int{api.KAdd, api.KSub, api.KMul, api.KDiv, api.KRem, api.KStore, api.KAssume}, e.Kind) {
		e.B = g.operand(vars)
	}
	if e.Kind >= api.KDiv && e.Kind <= api.KRem && g.IntN(8) == 0 { // seldom met else
		e.A, e.B = api.Operand{Var: -1, Num: least}, api.Operand{Var: -1, Num: -1}
	}
	if e.Kind != api.KAssume {
		return []api.Edge{e}
	}
	e.Op = 1 + g.IntN(6)
	f := e
	f.To, f.Op = g.IntN(c.Points), []int{0, api.OpGe, api.OpGt, api.OpNe, api.OpEq, api.OpLe, api.OpLt}[e.Op]
	return []api.Edge{e, f}
}

func (g grower) operand(vars int) api.Operand {
	if vars > 0 && g.IntN(3) > 0 {
		return api.Operand{Var: g.IntN(vars)}
	}
	return api.Operand{Var: -1, Num: g.number()}
}

// asks: a function that holds One against what a model says, whatever the input is, and counts of each kind of edge how it goes.
func asks(t *testing.T, c api.Cfg, count map[string]int) func(vars []int64, arrays [][]int64, point, edge, wrong int) {
	return func(vars []int64, arrays [][]int64, point, edge, wrong int) {
		for _, input := range []int64{0, -3, most} {
			i, w, e := One(c, vars, arrays, input, point)
			if i != edge || w != wrong || e != api.OK {
				t.Fatalf("P10.3: %+v, %v, %v, point %d: %d, %d, %d; want %d, %d", c, vars, arrays, point, i, w, e, edge, wrong)
			}
		}
		if edge >= 0 {
			count[fmt.Sprint("kind ", c.Edges[edge].Kind, " wrong ", wrong)]++
		} else {
			count["no edge"]++
		}
	}
}

// like holds Run of each number of steps, and One ahead of each step, against the model, and answers how the run stands at last.
func like(t *testing.T, c api.Cfg, script []int64, most int, count map[string]int) string {
	t.Helper()
	want := newModel(c, script).outcomes(most, asks(t, c, count))
	for k := range min(most, len(want)+1) + 1 {
		w := want[min(k, len(want)-1)]
		if got := ran(t, c, script, k); got != w {
			t.Fatalf("P10.1, P10.2: %+v on %v, %d steps: %s; want %s", c, script, k, got, w)
		}
	}
	return want[len(want)-1]
}

// TestGrownGraphs: graphs of all sorts against the model.
func TestGrownGraphs(t *testing.T) {
	g := newGrower(1)
	count, how := map[string]int{}, map[string]int{}
	for range 40000 {
		c := g.graph()
		if e := cfg.Check(c); e != api.OK {
			t.Fatalf("%+v is no graph: %d", c, e)
		}
		how[like(t, c, g.script(), 40, count)[:1]]++
	}
	for _, s := range strings.Fields("R H O Z B A") {
		if how[s] < 400 {
			t.Errorf("%s: only %d", s, how[s])
		}
	}
	want := []string{"no edge"}
	for kind := api.KNop; kind < api.KFail; kind++ {
		want = append(want, fmt.Sprint("kind ", kind, " wrong 0"))
	}
	for _, pair := range [][2]int{
		{api.KNeg, api.WrongOver}, {api.KAdd, api.WrongOver}, {api.KSub, api.WrongOver}, {api.KMul, api.WrongOver}, {api.KDiv, api.WrongOver}, {api.KRem, api.WrongOver},
		{api.KDiv, api.WrongZero}, {api.KRem, api.WrongZero}, {api.KLoad, api.WrongBounds}, {api.KStore, api.WrongBounds}, {api.KFail, api.WrongAssert},
	} {
		want = append(want, fmt.Sprint("kind ", pair[0], " wrong ", pair[1]))
	}
	for _, s := range want {
		if count[s] < 5 {
			t.Errorf("%s: only %d", s, count[s])
		}
	}
	if len(count) != len(want) {
		t.Errorf("unlike what there can be: %v", count)
	}
}

// TestLongRuns: graphs of many points, by many steps.
func TestLongRuns(t *testing.T) {
	g := newGrower(2)
	long, none := 0, func([]int64, [][]int64, int, int, int) {}
	for range 100 {
		c := api.Cfg{Vars: make([]string, 2), Temps: 2, Arrays: []api.Decl{{Size: 3}}, Points: 300, Exit: 299}
		for point := range c.Exit {
			e := g.edges(c, point)
			for e[0].Kind != api.KAssume && e[0].Kind != api.KCopy && e[0].Kind != api.KNop && g.IntN(30) > 0 {
				e = g.edges(c, point)
			}
			c.Edges = append(c.Edges, e...)
		}
		g.Shuffle(len(c.Edges), func(i, j int) { c.Edges[i], c.Edges[j] = c.Edges[j], c.Edges[i] })
		want := newModel(c, nil).outcomes(300, none)
		if len(want) > 20 {
			long++
		}
		for _, k := range []int{0, 1, 9, 50, 100, 299, 300} {
			if got, w := ran(t, c, nil, k), want[min(k, len(want)-1)]; got != w {
				t.Fatalf("P10.1: %d steps: %s; want %s", k, got, w)
			}
		}
	}
	if long < 30 {
		t.Errorf("only %d long ones", long)
	}
}
