package run

import (
	"gnomon/api"
	"gnomon/num"
)

// constant: the number of an expression that is a constant, and whether it is one.
func constant(e api.Expr) (int64, bool) {
	switch {
	case e.Kind == api.ENum:
		return e.Num, true
	case e.Kind == api.ENeg && e.Args[0].Kind == api.ENum:
		return -e.Args[0].Num, true
	}
	return 0, false
}

// stepless: whether an expression has no step, neither of its own nor of a part.
func stepless(e api.Expr) bool {
	_, ok := constant(e)
	return ok || e.Kind == api.EVar
}

// value does the steps of an expression, and tells its value.
func (m *machine) value(e api.Expr) int64 {
	if n, ok := constant(e); ok {
		return n
	}
	switch e.Kind {
	case api.EVar:
		return *m.variable(e.Name)
	case api.EInput:
		return m.input()
	case api.EItem:
		return *m.item(e.Name, m.value(e.Args[0]))
	}
	return m.operation(e)
}

// operation does the steps of an operation's arguments, and then its own.
func (m *machine) operation(e api.Expr) int64 {
	var args [2]int64
	for i, a := range e.Args {
		args[i] = m.value(a)
	}
	m.step()
	n, wrong := reckon(e.Kind, args[0], args[1])
	if wrong != api.WrongNone {
		m.fail(wrong)
	}
	return n
}

// reckon: what an operation makes of its arguments (ENeg has only the first one), and what goes wrong.
func reckon(kind int, a, b int64) (int64, int) {
	switch kind {
	case api.ENeg:
		return num.Neg(a)
	case api.EAdd:
		return num.Add(a, b)
	case api.ESub:
		return num.Sub(a, b)
	case api.EMul:
		return num.Mul(a, b)
	case api.EDiv:
		return num.Div(a, b)
	}
	return num.Rem(a, b)
}

// holds does the steps of a condition, and tells whether it holds.
func (m *machine) holds(c api.Cond) bool {
	switch c.Kind {
	case api.CNot:
		return !m.holds(c.Parts[0])
	case api.CAnd:
		return m.holds(c.Parts[0]) && m.holds(c.Parts[1])
	case api.COr:
		return m.holds(c.Parts[0]) || m.holds(c.Parts[1])
	case api.CCmp:
		a, b := m.value(c.Exprs[0]), m.value(c.Exprs[1])
		m.step()
		return num.Cmp(c.Op, a, b)
	}
	m.step()
	return c.Kind == api.CTrue
}
