package cfg

import (
	"gnomon/api"
	"gnomon/num"
)

// cond lowers a condition from f: to y where it holds, to n where it doesn't.
func (l *lowering) cond(c api.Cond, f, y, n int) {
	switch c.Kind {
	case api.CTrue:
		l.add(edge(f, y, api.KNop))
	case api.CFalse:
		l.add(edge(f, n, api.KNop))
	case api.CCmp:
		l.compare(c, f, y, n)
	case api.CNot:
		l.cond(c.Parts[0], f, n, y)
	case api.CAnd:
		m := l.fresh()
		l.cond(c.Parts[0], f, m, n)
		l.cond(c.Parts[1], m, y, n)
	case api.COr:
		m := l.fresh()
		l.cond(c.Parts[0], f, y, m)
		l.cond(c.Parts[1], m, y, n)
	}
}

func (l *lowering) compare(c api.Cond, f, y, n int) {
	operands, end := l.operands(c.Exprs, f, 0)
	holds := edge(end, y, api.KAssume)
	holds.Op, holds.A, holds.B = c.Op, operands[0], operands[1]
	fails := holds
	fails.To, fails.Op = n, num.Not(c.Op)
	l.add(holds)
	l.add(fails)
}
