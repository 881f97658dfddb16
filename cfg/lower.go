package cfg

import "gnomon/api"

// lowering: a graph as far as it is made.
type lowering struct {
	places map[string]int // of a variable in out.Vars, of an array in out.Arrays: no name is both
	out    api.Cfg
}

func newLowering(vars []string, arrays []api.Decl) *lowering {
	l := &lowering{places: map[string]int{}, out: api.Cfg{Vars: vars, Arrays: arrays}}
	for i, name := range vars {
		l.places[name] = i
	}
	for i, d := range arrays {
		l.places[d.Name] = i
	}
	return l
}

// fresh: a new point.
func (l *lowering) fresh() int {
	l.out.Points++
	return l.out.Points - 1
}

// edge: one that has nothing but its kind.
func edge(from, to, kind int) api.Edge {
	return api.Edge{From: from, To: to, Kind: kind, Dst: -1, Arr: -1, A: number(0), B: number(0)}
}

func (l *lowering) add(e api.Edge) { l.out.Edges = append(l.out.Edges, e) }

// program lowers the statements of a program, from where it begins to where it ends.
func (l *lowering) program(body []api.Stmt) {
	begin := l.fresh()
	l.out.Exit = l.beginning(body, begin)
	l.block(body, begin, l.out.Exit)
}

// beginning: where a block begins that goes to t. An empty one has no edge, so it begins where it ends.
func (l *lowering) beginning(block []api.Stmt, t int) int {
	if len(block) == 0 {
		return t
	}
	return l.fresh()
}

// block lowers statements, one after another.
func (l *lowering) block(list []api.Stmt, f, t int) {
	var ends []int
	for range len(list) - 1 {
		ends = append(ends, l.fresh())
	}
	ends = append(ends, t)
	for i, s := range list {
		lower := l.way(s)
		lower(s, f, ends[i])
		f = ends[i]
	}
}

// way: how a statement is lowered from a point to another one.
func (l *lowering) way(s api.Stmt) func(s api.Stmt, f, t int) {
	switch s.Kind {
	case api.SAssign:
		return l.assign
	case api.SStore:
		return l.store
	case api.SIf:
		return l.branch
	case api.SWhile:
		return l.loop
	case api.SAssert:
		return l.assert
	case api.SAssume:
		return l.assume
	}
	return l.skip
}

func (l *lowering) assign(s api.Stmt, f, t int) {
	dst, value := l.places[s.Name], s.Exprs[0]
	if o, ok := l.plain(value); ok {
		e := edge(f, t, api.KCopy)
		e.Dst, e.A = dst, o
		l.add(e)
		return
	}
	l.into(value, dst, f, t, 0)
}

func (l *lowering) store(s api.Stmt, f, t int) {
	operands, end := l.operands(s.Exprs, f, 0)
	e := edge(end, t, api.KStore)
	e.Arr, e.A, e.B = l.places[s.Name], operands[0], operands[1]
	l.add(e)
}

func (l *lowering) branch(s api.Stmt, f, t int) {
	then := l.beginning(s.Then, t)
	other := l.beginning(s.Else, t)
	l.cond(s.Conds[0], f, then, other)
	l.block(s.Then, then, t)
	l.block(s.Else, other, t)
}

func (l *lowering) loop(s api.Stmt, f, t int) {
	then := l.beginning(s.Then, f)
	l.cond(s.Conds[0], f, then, t)
	l.block(s.Then, then, f)
}

func (l *lowering) assert(s api.Stmt, f, t int) {
	holds, fails := l.fresh(), l.fresh()
	l.cond(s.Conds[0], f, holds, fails)
	l.add(edge(holds, t, api.KPass))
	l.add(edge(fails, t, api.KFail))
}

func (l *lowering) assume(s api.Stmt, f, t int) { l.cond(s.Conds[0], f, t, l.out.Exit) }

func (l *lowering) skip(_ api.Stmt, f, t int) { l.add(edge(f, t, api.KNop)) }
