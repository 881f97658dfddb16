package run

import (
	"slices"
	"strings"
	"testing"

	"gnomon/api"
)

func TestStepsAndInputsAreBounded(t *testing.T) {
	p := read(t, "var x; while true { x = input; }")
	for _, k := range []int{-1, -2, api.MaxSteps + 1, 2 * api.MaxSteps, least, most, 1 << 32, -1 << 32} {
		refuses(t, "k", p, nil, k, api.ErrRunMany)
		refuses(t, "k, of nothing to do", api.Prog{}, nil, k, api.ErrRunMany)
	}
	for _, n := range []int{api.MaxScript + 1, api.MaxScript + 2, 2 * api.MaxScript} {
		for _, k := range []int{0, 1, api.MaxSteps, -1, api.MaxSteps + 1} {
			refuses(t, "script", p, make([]int64, n), k, api.ErrRunMany)
			refuses(t, "script, of nothing to do", api.Prog{}, make([]int64, n), k, api.ErrRunMany)
		}
	}
	if api.MaxSteps != 65536 || api.MaxScript != 65536 || api.ErrRunMany != 80 {
		t.Error("unlike the chapter's numbers")
	}
	// The limits themselves are taken; the room behind a script is none of it.
	full := make([]int64, api.MaxScript, 2*api.MaxScript)
	for i := range full {
		full[i] = int64(i)
	}
	for _, k := range []int{0, 1, 2, api.MaxSteps - 1, api.MaxSteps} {
		o := ran(t, p, full, k)
		if o.Status != api.Running || o.Steps != k || len(o.Events) != k/2 || o.Vars[0] != int64(max(k/2-1, 0)) {
			t.Errorf("P8.2: %d steps: %s%d, %d events, %d", k, standing(o), o.Steps, len(o.Events), o.Vars)
		}
		if got := told(ran(t, api.Prog{}, full, k)); got != "H0 |" {
			t.Errorf("P8.2: %d steps of nothing: %s", k, got)
		}
	}
}

// TestManyInputs: as many as a run can take, each of them in its place.
func TestManyInputs(t *testing.T) {
	p := read(t, "var x; while true { x = "+strings.Repeat("input + ", 30)+"input; }")
	full := make([]int64, api.MaxScript)
	for i := range full {
		full[i] = int64(i % 1000)
	}
	o := ran(t, p, full, api.MaxSteps)
	if o.Status != api.Running || len(o.Events) < api.MaxSteps/3 {
		t.Errorf("P8.1: %s, %d events", standing(o), len(o.Events))
	}
	for i, e := range o.Events {
		if e != (api.Event{Input: true, Num: full[i]}) {
			t.Fatalf("P8.1: event %d: %+v", i, e)
		}
	}
}

// noPrograms: programs that aren't well, and well.Check's error.
func noPrograms(t *testing.T) []struct {
	p    api.Prog
	want api.Errno
} {
	endless := []api.Stmt{{Kind: api.SWhile, Conds: []api.Cond{{Kind: api.CTrue}}}}
	endless[0].Then = endless
	return []struct {
		p    api.Prog
		want api.Errno
	}{
		{body(api.Stmt{}), api.ErrTreeForm}, {body(api.Stmt{Kind: api.SAssign, Name: "x"}), api.ErrTreeForm}, {body(api.Stmt{Kind: api.SStore, Name: "a"}), api.ErrTreeForm},
		{body(api.Stmt{Kind: api.SIf}), api.ErrTreeForm}, {body(api.Stmt{Kind: api.SWhile}), api.ErrTreeForm}, {body(api.Stmt{Kind: api.SAssert}), api.ErrTreeForm},
		{body(api.Stmt{Kind: api.SAssume, Conds: []api.Cond{{}}}), api.ErrTreeForm}, {body(api.Stmt{Kind: api.SAssert, Conds: []api.Cond{{Kind: api.CNot}}}), api.ErrTreeForm},
		{body(api.Stmt{Kind: 8}), api.ErrTreeForm}, {body(api.Stmt{Kind: -1}), api.ErrTreeForm},
		{body(assign("x", api.Expr{})), api.ErrTreeForm}, {body(assign("x", number(-1))), api.ErrTreeForm}, {body(assign("x", api.Expr{Kind: api.ENeg})), api.ErrTreeForm},
		{body(assign("x", api.Expr{Kind: 11})), api.ErrTreeForm}, {body(assign("x", api.Expr{Kind: api.EItem, Name: "a"})), api.ErrTreeForm},
		{body(assign("while", number(1))), api.ErrTreeName}, {body(assign("", number(1))), api.ErrTreeName},
		{body(endless...), api.ErrTreeDeep}, {body(slices.Repeat([]api.Stmt{skip()}, api.MaxNodes+1)...), api.ErrTreeMany},
		{read(t, "var x; var x;"), api.ErrWellTwice}, {read(t, "array a[1025];"), api.ErrWellSize}, {read(t, numbered(33, "var x#;")), api.ErrWellMany},
		{read(t, "x = 1;"), api.ErrWellNone}, {read(t, "var x; if false { y = x; }"), api.ErrWellNone}, {read(t, "array a[1]; a = 1;"), api.ErrWellKind}, {read(t, "var x; x = x[0];"), api.ErrWellKind},
	}
}

// TestNoPrograms: well.Check's error, ahead of the layer's own.
func TestNoPrograms(t *testing.T) {
	for _, r := range noPrograms(t) {
		for _, k := range []int{0, 1, api.MaxSteps, -1, api.MaxSteps + 1} {
			refuses(t, "no program", r.p, nil, k, r.want)
			refuses(t, "no program", r.p, make([]int64, api.MaxScript+1), k, r.want)
		}
	}
}

// TestDeep: each sort of part, as deep as a tree may be.
func TestDeep(t *testing.T) {
	e, c, s := number(1), api.Cond{Kind: api.CTrue}, skip()
	for range api.MaxDepth - 2 {
		e = neg(e)
		c = api.Cond{Kind: api.CNot, Parts: []api.Cond{c}}
	}
	for range api.MaxDepth - 2 { // and a condition at the greatest depth
		s = api.Stmt{Kind: api.SIf, Conds: []api.Cond{{Kind: api.CTrue}}, Then: []api.Stmt{s}}
	}
	p := body(assign("x", e), api.Stmt{Kind: api.SAssert, Conds: []api.Cond{c}}, api.Stmt{Kind: api.SWhile, Conds: []api.Cond{{Kind: api.CTrue}}, Then: []api.Stmt{s}})
	p.Decls = []api.Decl{{Name: "x"}}
	for _, r := range []struct {
		k    int
		want string
	}{{60, "R60 | 0"}, {61, "R61 | 1"}, {62, "R62 | 1"}, {63, "R63 + | 1"}, {126, "R126 + | 1"}, {api.MaxSteps, "R65536 + | 1"}} {
		if got := told(ran(t, p, nil, r.k)); got != r.want {
			t.Errorf("P8.1: %d steps: %s; want %s", r.k, got, r.want)
		}
	}
	p.Body[2].Then = []api.Stmt{{Kind: api.SIf, Conds: []api.Cond{{Kind: api.CTrue}}, Then: p.Body[2].Then}}
	refuses(t, "too deep", p, nil, 9, api.ErrTreeDeep)
}

// TestMany: as many statements, variables and arrays as may be.
func TestMany(t *testing.T) {
	p := body(slices.Repeat([]api.Stmt{skip()}, api.MaxNodes)...)
	if got := told(ran(t, p, nil, api.MaxSteps)); got != "H4096 |" {
		t.Errorf("P8.1: %s", got)
	}
	s := numbered(16, "var x#; array a#[1024]; var y#; ") + numbered(16, "x# = #; a#[#] = x#; y# = a#[#] + 1; a#[1023] = -y#;")
	o := ran(t, read(t, s), nil, api.MaxSteps)
	if o.Status != api.Halted || o.Steps != 16*6 || len(o.Vars) != 32 || len(o.Arrays) != 16 {
		t.Fatalf("P8.1: %s%d", standing(o), o.Steps)
	}
	for i := range 16 {
		if o.Vars[2*i] != int64(i) || o.Vars[2*i+1] != int64(i+1) || o.Arrays[i][i] != int64(i) || o.Arrays[i][1023] != int64(-i-1) || len(o.Arrays[i]) != 1024 {
			t.Errorf("P8.2: %d, %v", o.Vars, o.Arrays[i])
		}
	}
}

// TestUnused: what is declared and never used is 0, and has its place in the order of declarations.
func TestUnused(t *testing.T) {
	cut(t, []row{
		{"var a; var b; var c; b = 1;", nil, "R0 | 0 0 0 / H1 | 0 1 0"},
		{"array u[2]; var z; array b[1]; var y; array a[3]; var x; y = 5; a[1] = y; x = 1 / z;", nil,
			"R0 | 0 0 0 [0 0] [0] [0 0 0] / R1 | 0 5 0 [0 0] [0] [0 0 0] / R2 | 0 5 0 [0 0] [0] [0 5 0] / Z3 | 0 5 0 [0 0] [0] [0 5 0]"},
		{"array a[1]; array b[1024]; skip;", nil, "R0 | [0] " + zeros(1024) + " / H1 | [0] " + zeros(1024)},
	})
}

func zeros(n int) string { return "[" + strings.TrimSpace(strings.Repeat("0 ", n)) + "]" }
