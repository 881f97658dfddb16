package cfg

import "gnomon/api"

// kinds: of the edge that an expression ends with, by the expression's kind.
var kinds = [...]int{
	api.EInput: api.KInput,
	api.EItem:  api.KLoad,
	api.ENeg:   api.KNeg,
	api.EAdd:   api.KAdd,
	api.ESub:   api.KSub,
	api.EMul:   api.KMul,
	api.EDiv:   api.KDiv,
	api.ERem:   api.KRem,
}

// number: the operand of a number. That of 0 also stands where an edge has none.
func number(n int64) api.Operand { return api.Operand{Var: -1, Num: n} }

// plain: the operand of an expression that needs no edge, and whether it is such a one.
func (l *lowering) plain(e api.Expr) (api.Operand, bool) {
	switch {
	case e.Kind == api.ENum:
		return number(e.Num), true
	case e.Kind == api.ENeg && e.Args[0].Kind == api.ENum:
		return number(-e.Args[0].Num), true
	case e.Kind == api.EVar:
		return api.Operand{Var: l.places[e.Name]}, true
	}
	return api.Operand{}, false
}

// temporary: the operand of the temporary at a depth, which is one of the graph's from now on.
func (l *lowering) temporary(depth int) api.Operand {
	l.out.Temps = max(l.out.Temps, depth+1)
	return api.Operand{Var: len(l.out.Vars) + depth}
}

func (l *lowering) isTemporary(o api.Operand) bool { return o.Var >= len(l.out.Vars) }

// into lowers an expression that isn't plain, so that it gives dst.
func (l *lowering) into(e api.Expr, dst, f, t, depth int) {
	operands, end := l.operands(e.Args, f, depth)
	last := edge(end, t, kinds[e.Kind])
	last.Dst, last.A, last.B = dst, operands[0], operands[1]
	if e.Kind == api.EItem {
		last.Arr = l.places[e.Name]
	}
	l.add(last)
}

// operand: an expression as an operand, and the point at which the way from q to it ends.
func (l *lowering) operand(e api.Expr, q, depth int) (api.Operand, int) {
	if o, ok := l.plain(e); ok {
		return o, q
	}
	o, end := l.temporary(depth), l.fresh()
	l.into(e, o.Var, q, end, depth)
	return o, end
}

// operands: likewise of up to two expressions, one behind the other. The second one leaves alone the temporary in which the first one lies.
func (l *lowering) operands(list []api.Expr, q, depth int) ([2]api.Operand, int) {
	operands := [2]api.Operand{number(0), number(0)}
	for i, e := range list {
		operands[i], q = l.operand(e, q, depth)
		if l.isTemporary(operands[i]) {
			depth++
		}
	}
	return operands, q
}
