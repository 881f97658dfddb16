package cfg

import (
	"gnomon/api"
	"gnomon/num"
)

// outgrown: which limit a graph is past, if its numbers are any. It looks at no list's items: they may be far more than a graph has.
func outgrown(c api.Cfg) api.Errno {
	switch {
	case c.Temps < 0 || c.Temps > api.MaxVars-len(c.Vars): // the sum of both could wrap round
		return api.ErrCfgVars
	case c.Points < 1 || c.Points > api.MaxPoints || len(c.Edges) > api.MaxEdges:
		return api.ErrCfgPoints
	}
	return api.OK
}

// formed: whether a graph that isn't outgrown has the form of one.
func formed(c api.Cfg) bool {
	g := graph(c)
	sized := len(c.Arrays) <= api.MaxArrays && all(c.Arrays, hasSize)
	return sized && among(c.Exit, c.Points) && all(c.Edges, g.right) && all(edgesFrom(c), g.together)
}

// all: whether each item of a list is so.
func all[T any](list []T, is func(T) bool) bool {
	for _, v := range list {
		if !is(v) {
			return false
		}
	}
	return true
}

// among: whether i is one of n numbers that begin with 0.
func among(i, n int) bool { return i >= 0 && i < n }

func hasSize(d api.Decl) bool { return d.Size >= 1 && d.Size <= api.MaxSize }

// fields: which of an edge's fields have a meaning.
type fields struct{ dst, arr, op, a, b bool }

// fieldsOf: those of edges of each kind.
var fieldsOf = [...]fields{
	api.KNop:    {},
	api.KCopy:   {dst: true, a: true},
	api.KNeg:    {dst: true, a: true},
	api.KAdd:    {dst: true, a: true, b: true},
	api.KSub:    {dst: true, a: true, b: true},
	api.KMul:    {dst: true, a: true, b: true},
	api.KDiv:    {dst: true, a: true, b: true},
	api.KRem:    {dst: true, a: true, b: true},
	api.KInput:  {dst: true},
	api.KLoad:   {dst: true, arr: true, a: true},
	api.KStore:  {arr: true, a: true, b: true},
	api.KAssume: {op: true, a: true, b: true},
	api.KPass:   {},
	api.KFail:   {},
}

// graph: what is asked whether it is one.
type graph api.Cfg

// right: whether an edge is right, those beside it left aside.
func (g graph) right(e api.Edge) bool {
	if e.Kind < api.KNop || e.Kind > api.KFail {
		return false
	}
	has := fieldsOf[e.Kind]
	ends := among(e.From, g.Points) && among(e.To, g.Points) && e.From != g.Exit
	names := place(has.dst, e.Dst, g.variables()) && place(has.arr, e.Arr, len(g.Arrays)) && compares(has.op, e.Op)
	return ends && names && g.operand(has.a, e.A) && g.operand(has.b, e.B)
}

// variables: how many there are, with the temporaries.
func (g graph) variables() int { return len(g.Vars) + g.Temps }

// place: whether i is one of n numbers, or none where there is to be none.
func place(has bool, i, n int) bool {
	if !has {
		return i == -1
	}
	return among(i, n)
}

// compares: likewise, of an op.
func compares(has bool, op int) bool {
	if !has {
		return op == 0
	}
	return op >= api.OpLt && op <= api.OpGe
}

// operand: likewise, of an operand.
func (g graph) operand(has bool, o api.Operand) bool {
	switch {
	case !has:
		return o == number(0)
	case o.Var == -1:
		return true
	}
	return among(o.Var, g.variables()) && o.Num == 0
}

// together: whether edges may be all that go from one point.
func (g graph) together(numbers []int) bool {
	switch len(numbers) {
	case 0:
		return true
	case 1:
		return g.Edges[numbers[0]].Kind != api.KAssume
	case 2:
		return contrary(g.Edges[numbers[0]], g.Edges[numbers[1]])
	}
	return false
}

// contrary: whether two edges compare the same, and just one of them is taken.
func contrary(e, f api.Edge) bool {
	return e.Kind == api.KAssume && f.Kind == api.KAssume && e.A == f.A && e.B == f.B && f.Op == num.Not(e.Op)
}
