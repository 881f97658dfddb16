package step

import (
	"fmt"
	"slices"
	"testing"

	"gnomon/api"
)

// TestStepsAndInputsAreBounded: k and the script, at their limits and past them.
func TestStepsAndInputsAreBounded(t *testing.T) {
	if api.MaxSteps != 65536 || api.MaxScript != 65536 || api.ErrRunMany != 80 {
		t.Error("unlike the chapter's numbers")
	}
	long := make([]int64, 4*api.MaxScript)
	for _, text := range []string{"p1 x0 |", "v1 p2 x1 |", "v1 | 0>0 v0=input", "| 0>1 fail", "v1 | 0>0 v0=v0+1"} {
		c := graph(t, text)
		for _, k := range []int{-1, -2, 65537, 65538, 1 << 17, least, most, 1 << 32, -1 << 32} {
			for _, n := range []int{0, 1, 65536, 65537} {
				refuses(t, text, c, long[:n], k, api.ErrRunMany)
			}
		}
		for _, n := range []int{65537, 65538, 131072, 4 * 65536} {
			for _, k := range []int{0, 1, 65535, 65536, 65537, -1} {
				refuses(t, text, c, long[:n], k, api.ErrRunMany)
			}
		}
		for _, n := range []int{0, 1, 65535, 65536} {
			for _, k := range []int{0, 1, 65535, 65536} {
				if _, _, e := Run(c, long[:n], k); e != api.OK {
					t.Errorf("P10.2: %s, %d inputs, %d steps: %d", text, n, k, e)
				}
			}
		}
	}
}

// noGraphs: what isn't a graph, and cfg.Check's error.
func noGraphs() []struct {
	what string
	c    api.Cfg
	want api.Errno
} {
	none := api.Operand{Var: -1}
	nop := api.Edge{To: 1, Kind: api.KNop, Dst: -1, Arr: -1, A: none, B: none}
	less := nop
	less.Kind, less.Op = api.KAssume, api.OpLt
	with := func(f func(c *api.Cfg)) api.Cfg {
		c := api.Cfg{Vars: []string{"x"}, Arrays: []api.Decl{{Name: "a", Size: 2}}, Points: 2, Exit: 1, Edges: []api.Edge{nop}}
		f(&c)
		return c
	}
	bent := func(f func(e *api.Edge)) api.Cfg { return with(func(c *api.Cfg) { f(&c.Edges[0]) }) }
	return []struct {
		what string
		c    api.Cfg
		want api.Errno
	}{
		{"nothing", api.Cfg{}, api.ErrCfgPoints},
		{"temporaries below 0", with(func(c *api.Cfg) { c.Temps = -1 }), api.ErrCfgVars}, {"64 temporaries and a variable", with(func(c *api.Cfg) { c.Temps = 64 }), api.ErrCfgVars},
		{"65 variables", with(func(c *api.Cfg) { c.Vars = make([]string, 65) }), api.ErrCfgVars}, {"very many temporaries", with(func(c *api.Cfg) { c.Temps = most }), api.ErrCfgVars},
		{"4097 points", with(func(c *api.Cfg) { c.Points = 4097 }), api.ErrCfgPoints}, {"points below 0", with(func(c *api.Cfg) { c.Points = -1 }), api.ErrCfgPoints},
		{"8193 edges", with(func(c *api.Cfg) { c.Edges = slices.Repeat(c.Edges, 8193) }), api.ErrCfgPoints}, {"8192 edges", with(func(c *api.Cfg) { c.Edges = slices.Repeat(c.Edges, 8192) }), api.ErrCfgForm},
		{"variables and points", with(func(c *api.Cfg) { c.Temps, c.Points = -1, 0 }), api.ErrCfgVars}, {"points and Exit", with(func(c *api.Cfg) { c.Points, c.Exit = 0, 7 }), api.ErrCfgPoints},
		{"Exit 2", with(func(c *api.Cfg) { c.Exit = 2 }), api.ErrCfgForm}, {"Exit -1", with(func(c *api.Cfg) { c.Exit = -1 }), api.ErrCfgForm},
		{"17 arrays", with(func(c *api.Cfg) { c.Arrays = slices.Repeat(c.Arrays, 17) }), api.ErrCfgForm}, {"a size of 0", with(func(c *api.Cfg) { c.Arrays[0].Size = 0 }), api.ErrCfgForm}, {"a size of 1025", with(func(c *api.Cfg) { c.Arrays[0].Size = 1025 }), api.ErrCfgForm},
		{"a size below 0", with(func(c *api.Cfg) { c.Arrays[0].Size = least }), api.ErrCfgForm},
		{"two edges", with(func(c *api.Cfg) { c.Edges = slices.Repeat(c.Edges, 2) }), api.ErrCfgForm}, {"half a pair", with(func(c *api.Cfg) { c.Edges = []api.Edge{less} }), api.ErrCfgForm},
		{"one pair twice", with(func(c *api.Cfg) { c.Edges = []api.Edge{less, less} }), api.ErrCfgForm},
		{"kind 0", bent(func(e *api.Edge) { e.Kind = 0 }), api.ErrCfgForm}, {"kind 15", bent(func(e *api.Edge) { e.Kind = 15 }), api.ErrCfgForm}, {"kind -1", bent(func(e *api.Edge) { e.Kind = -1 }), api.ErrCfgForm}, {"a great kind", bent(func(e *api.Edge) { e.Kind = most }), api.ErrCfgForm},
		{"from -1", bent(func(e *api.Edge) { e.From = -1 }), api.ErrCfgForm}, {"from Exit", bent(func(e *api.Edge) { e.From = 1 }), api.ErrCfgForm}, {"from 2", bent(func(e *api.Edge) { e.From = 2 }), api.ErrCfgForm}, {"to 2", bent(func(e *api.Edge) { e.To = 2 }), api.ErrCfgForm}, {"to -1", bent(func(e *api.Edge) { e.To = -1 }), api.ErrCfgForm},
		{"a Dst too many", bent(func(e *api.Edge) { e.Dst = 0 }), api.ErrCfgForm}, {"no Dst", bent(func(e *api.Edge) { e.Kind = api.KCopy }), api.ErrCfgForm}, {"no such Dst", bent(func(e *api.Edge) { e.Kind, e.Dst = api.KInput, 1 }), api.ErrCfgForm},
		{"no such array", bent(func(e *api.Edge) { e.Kind, e.Dst, e.Arr = api.KLoad, 0, 1 }), api.ErrCfgForm}, {"no array", bent(func(e *api.Edge) { e.Kind = api.KStore }), api.ErrCfgForm},
		{"no such operand", bent(func(e *api.Edge) { e.Kind, e.Dst, e.A.Var = api.KCopy, 0, 1 }), api.ErrCfgForm}, {"an operand too many", bent(func(e *api.Edge) { e.B.Num = 1 }), api.ErrCfgForm},
	}
}

// TestNoGraphs: cfg.Check's error, of Run and One, ahead of the layer's own.
func TestNoGraphs(t *testing.T) {
	long := make([]int64, api.MaxScript+1)
	for _, r := range noGraphs() {
		for _, k := range []int{0, 1, 65536, -1, 65537} {
			refuses(t, r.what, r.c, nil, k, r.want)
			refuses(t, r.what, r.c, long, k, r.want)
		}
		for _, point := range []int{0, 1, 2, -1, most} {
			bars(t, r.what, r.c, script(0), [][]int64{{0, 0}}, point, r.want)
			bars(t, r.what, r.c, nil, nil, point, r.want)
			bars(t, r.what, r.c, make([]int64, 99), make([][]int64, 20), point, r.want)
		}
	}
}

// TestGreatest: a graph of as many points, edges, variables and arrays as there may be.
func TestGreatest(t *testing.T) {
	c := api.Cfg{Vars: make([]string, 1), Temps: 63, Arrays: slices.Repeat([]api.Decl{{Size: 1024}}, 16), Points: 4096, Exit: 4095}
	none := api.Operand{Var: -1}
	for point := range 4095 {
		e := api.Edge{From: point, To: point + 1, Kind: api.KAssume, Dst: -1, Arr: -1, Op: api.OpGe, A: api.Operand{Var: 63}, B: none}
		f := e
		f.To, f.Op = 0, api.OpLt
		c.Edges = append(c.Edges, e, f)
	}
	last := c.Edges[8188]
	last.Kind, last.Op, last.Arr, last.A, last.B = api.KStore, 0, 15, api.Operand{Var: -1, Num: 1023}, api.Operand{Var: -1, Num: 5}
	c.Edges = append(c.Edges[:8188], last)
	o, point, e := Run(c, nil, 65536)
	if e != api.OK || standing(o) != "H" || o.Steps != 4095 || point != 4095 || len(o.Vars) != 1 || len(o.Arrays) != 16 || o.Arrays[15][1023] != 5 || slices.Max(o.Arrays[14]) != 0 {
		t.Errorf("P10.1: %s%d@%d, %d", standing(o), o.Steps, point, e)
	}
	arrays := make([][]int64, 16)
	for i := range arrays {
		arrays[i] = make([]int64, 1024)
	}
	vars := make([]int64, 64)
	for _, r := range []struct {
		last  int64
		point int
		want  string
	}{{0, 0, "0 0 0"}, {-1, 0, "1 0 0"}, {0, 4093, "8186 0 0"}, {-1, 4093, "8187 0 0"}, {-1, 4094, "8188 0 0"}, {-1, 4095, "-1 0 0"}, {0, 4096, "0 0 92"}} {
		vars[63] = r.last
		i, wrong, e := One(c, vars, arrays, 0, r.point)
		if got := fmt.Sprint(i, wrong, int(e)); got != r.want {
			t.Errorf("P10.3: point %d: %s; want %s", r.point, got, r.want)
		}
	}
}
