package parse

import (
	"gnomon/api"
)

// innerCond reads a condition that is a thing of its own.
func (r *reader) innerCond() api.Cond { return inner(r, r.condReading()) }

// condReading picks how a condition is read; nil: the next token begins none.
func (r *reader) condReading() func() api.Cond {
	if r.litReading() == nil {
		return nil
	}
	return r.cond
}

func (r *reader) cond() api.Cond {
	return chain[api.Cond]{part: r.conj, kind: kindOf("||", api.COr), join: joinConds}.read(r)
}

func (r *reader) conj() api.Cond {
	return chain[api.Cond]{part: r.lit, kind: kindOf("&&", api.CAnd), join: joinConds}.read(r)
}

// kindOf tells a kind of one sign alone.
func kindOf(only string, kind int) func(string) int {
	return func(sign string) int {
		if sign == only {
			return kind
		}
		return 0
	}
}

func joinConds(kind int, left, right api.Cond) api.Cond {
	return api.Cond{Kind: kind, Parts: []api.Cond{left, right}}
}

func (r *reader) lit() api.Cond { return begun(r, r.litReading()) }

// litReading picks how the lit is read that begins with the next token; nil: none does.
func (r *reader) litReading() func() api.Cond {
	switch r.next().Text {
	case "true":
		return r.constant(api.CTrue)
	case "false":
		return r.constant(api.CFalse)
	case "!":
		return r.not
	case "[":
		return r.bracketed
	}
	if r.exprReading() == nil {
		return nil
	}
	return r.comparison
}

func (r *reader) constant(kind int) func() api.Cond {
	return func() api.Cond {
		r.take()
		return api.Cond{Kind: kind}
	}
}

func (r *reader) not() api.Cond {
	r.take()
	return api.Cond{Kind: api.CNot, Parts: []api.Cond{inner(r, r.litReading())}}
}

func (r *reader) bracketed() api.Cond {
	r.take()
	c := r.innerCond()
	r.want("]")
	return c
}

func (r *reader) comparison() api.Cond {
	left := r.expr()
	op := r.rel()
	right := r.expr()
	return api.Cond{Kind: api.CCmp, Op: op, Exprs: []api.Expr{left, right}}
}

func (r *reader) rel() int {
	op := relOp(r.next().Text)
	if op == 0 {
		r.fail(api.ErrParseWant)
		return 0
	}
	r.take()
	return op
}

// relOp: the Op of a sign; 0: it has none.
func relOp(sign string) int {
	switch sign {
	case "<":
		return api.OpLt
	case "<=":
		return api.OpLe
	case "==":
		return api.OpEq
	case "!=":
		return api.OpNe
	case ">":
		return api.OpGt
	case ">=":
		return api.OpGe
	}
	return 0
}
