package cfg

import (
	"slices"

	"gnomon/api"
)

// model: the graph of a well program, made without a count of the points so far: how many points each part makes is reckoned from the part alone, and each is told beforehand which number its first one has.
type model struct {
	vars   []string
	arrays []api.Decl
	exit   int
}

// stop: what an edge may be said to have, all else left bare.
type stop struct {
	dst, arr, op int
	args         []api.Operand
}

func modelEdge(from, to, kind int, s stop) api.Edge {
	e := edgeOf(from, to, kind)
	e.Dst, e.Arr, e.Op = s.dst-1, s.arr-1, s.op
	if len(s.args) > 0 {
		e.A = s.args[0]
	}
	if len(s.args) > 1 {
		e.B = s.args[1]
	}
	return e
}

func isPlain(e api.Expr) bool {
	return e.Kind == api.ENum || e.Kind == api.EVar || e.Kind == api.ENeg && e.Args[0].Kind == api.ENum
}

// many: how many points operands make, with all that is in them.
func many(l []api.Expr) int {
	n := 0
	for _, e := range l {
		if !isPlain(e) {
			n += 1 + many(e.Args)
		}
	}
	return n
}

func manyOfCond(c api.Cond) int {
	n := many(c.Exprs) + max(len(c.Parts)-1, 0)
	for _, part := range c.Parts {
		n += manyOfCond(part)
	}
	return n
}

// opened: 1, if a block has a beginning of its own.
func opened(l []api.Stmt) int { return min(len(l), 1) }

func manyOfStmt(s api.Stmt) int {
	switch s.Kind {
	case api.SAssign:
		return max(many(s.Exprs)-1, 0)
	case api.SStore:
		return many(s.Exprs)
	case api.SSkip:
		return 0
	}
	n := manyOfCond(s.Conds[0]) + opened(s.Then) + opened(s.Else) + manyOfBlock(s.Then) + manyOfBlock(s.Else)
	if s.Kind == api.SAssert {
		n += 2
	}
	return n
}

func manyOfBlock(l []api.Stmt) int {
	n := max(len(l)-1, 0)
	for _, s := range l {
		n += manyOfStmt(s)
	}
	return n
}

func (m model) variable(name string) int { return slices.Index(m.vars, name) }

func (m model) array(name string) int {
	return slices.IndexFunc(m.arrays, func(d api.Decl) bool { return d.Name == name })
}

// operands: the edges of operands from q at a depth, the operands, and where they end.
func (m model) operands(l []api.Expr, q, first, depth int) ([]api.Edge, []api.Operand, int) {
	var edges []api.Edge
	var args []api.Operand
	for _, e := range l {
		switch {
		case e.Kind == api.EVar:
			args = append(args, api.Operand{Var: m.variable(e.Name)})
		case e.Kind == api.ENum:
			args = append(args, api.Operand{Var: -1, Num: e.Num})
		case isPlain(e):
			args = append(args, api.Operand{Var: -1, Num: -e.Args[0].Num})
		default:
			at := len(m.vars) + depth
			edges = append(edges, m.into(e, at, q, first, first+1, depth)...)
			args = append(args, api.Operand{Var: at})
			q, first, depth = first, first+many([]api.Expr{e}), depth+1
		}
	}
	return edges, args, q
}

// into: the edges of an expression that gives dst.
func (m model) into(e api.Expr, dst, f, t, first, depth int) []api.Edge {
	edges, args, q := m.operands(e.Args, f, first, depth)
	s := stop{dst: dst + 1, args: args}
	if e.Kind == api.EItem {
		s.arr = m.array(e.Name) + 1
	}
	kind := map[int]int{
		api.EInput: api.KInput, api.EItem: api.KLoad, api.ENeg: api.KNeg, api.EAdd: api.KAdd, api.ESub: api.KSub, api.EMul: api.KMul, api.EDiv: api.KDiv, api.ERem: api.KRem,
	}[e.Kind]
	return append(edges, modelEdge(q, t, kind, s))
}

func (m model) cond(c api.Cond, f, y, n, first int) []api.Edge {
	switch c.Kind {
	case api.CTrue:
		return []api.Edge{edgeOf(f, y, api.KNop)}
	case api.CFalse:
		return []api.Edge{edgeOf(f, n, api.KNop)}
	case api.CNot:
		return m.cond(c.Parts[0], f, n, y, first)
	case api.CCmp:
		edges, args, q := m.operands(c.Exprs, f, first, 0)
		pair := sides(modelEdge(q, y, api.KAssume, stop{op: c.Op, args: args}))
		pair[1].To = n
		return append(edges, pair...)
	}
	second := first + 1 + manyOfCond(c.Parts[0])
	ways := map[int][2]int{api.CAnd: {first, n}, api.COr: {y, first}}[c.Kind]
	return append(m.cond(c.Parts[0], f, ways[0], ways[1], first+1), m.cond(c.Parts[1], first, y, n, second)...)
}

func (m model) stmt(s api.Stmt, f, t, first int) []api.Edge {
	switch s.Kind {
	case api.SAssign:
		at, value := m.variable(s.Name), s.Exprs[0]
		if isPlain(value) {
			_, args, _ := m.operands(s.Exprs, f, first, 0)
			return []api.Edge{modelEdge(f, t, api.KCopy, stop{dst: at + 1, args: args})}
		}
		return m.into(value, at, f, t, first, 0)
	case api.SStore:
		edges, args, q := m.operands(s.Exprs, f, first, 0)
		return append(edges, modelEdge(q, t, api.KStore, stop{arr: m.array(s.Name) + 1, args: args}))
	case api.SAssert:
		edges := m.cond(s.Conds[0], f, first, first+1, first+2)
		return append(edges, edgeOf(first, t, api.KPass), edgeOf(first+1, t, api.KFail))
	case api.SAssume:
		return m.cond(s.Conds[0], f, t, m.exit, first)
	case api.SSkip:
		return []api.Edge{edgeOf(f, t, api.KNop)}
	}
	behind, then, other := t, t, t
	if s.Kind == api.SWhile {
		behind, then = f, f
	}
	if len(s.Then) > 0 {
		then = first
	}
	if len(s.Else) > 0 {
		other = first + opened(s.Then)
	}
	first += opened(s.Then) + opened(s.Else)
	edges := m.cond(s.Conds[0], f, then, other, first)
	first += manyOfCond(s.Conds[0])
	edges = append(edges, m.block(s.Then, then, behind, first)...)
	return append(edges, m.block(s.Else, other, t, first+manyOfBlock(s.Then))...)
}

func (m model) block(l []api.Stmt, f, t, first int) []api.Edge {
	var edges []api.Edge
	inner := first + len(l) - 1
	for i, s := range l {
		to := first + i
		if i == len(l)-1 {
			to = t
		}
		edges = append(edges, m.stmt(s, f, to, inner)...)
		f, inner = to, inner+manyOfStmt(s)
	}
	return edges
}

// modelled: the graph of a well program, and the error in its place.
func modelled(p api.Prog) (api.Cfg, api.Errno) {
	var c api.Cfg
	for _, d := range p.Decls {
		if d.Size == 0 {
			c.Vars = append(c.Vars, d.Name)
		} else {
			c.Arrays = append(c.Arrays, d)
		}
	}
	c.Exit = opened(p.Body)
	c.Points = 1 + c.Exit + manyOfBlock(p.Body)
	c.Edges = model{c.Vars, c.Arrays, c.Exit}.block(p.Body, 0, c.Exit, 2)
	for _, e := range c.Edges {
		c.Temps = max(c.Temps, e.Dst+1-len(c.Vars))
	}
	switch {
	case len(c.Vars)+c.Temps > 64:
		return api.Cfg{}, 90
	case c.Points > 4096 || len(c.Edges) > 8192:
		return api.Cfg{}, 91
	}
	return c, 0
}
