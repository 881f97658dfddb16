package print

import (
	"strconv"
	"strings"

	"gnomon/api"
)

// writer: the text of expressions and conditions that have their form, as far as it is written.
type writer struct{ strings.Builder }

func (w *writer) expr(e api.Expr) {
	level := exprLevel(e.Kind)
	switch e.Kind {
	case api.ENum:
		w.WriteString(strconv.FormatInt(e.Num, 10))
	case api.EVar:
		w.WriteString(e.Name)
	case api.EInput:
		w.WriteString("input")
	case api.EItem:
		w.item(e.Name, e.Args[0])
	case api.ENeg:
		w.WriteString("-")
		w.arg(e.Args[0], level)
	default:
		w.arg(e.Args[0], level)
		w.sign(exprSign(e.Kind))
		w.arg(e.Args[1], level+1)
	}
}

func (w *writer) cond(c api.Cond) {
	level := condLevel(c.Kind)
	switch c.Kind {
	case api.CTrue:
		w.WriteString("true")
	case api.CFalse:
		w.WriteString("false")
	case api.CCmp:
		w.expr(c.Exprs[0])
		w.sign(opSign(c.Op))
		w.expr(c.Exprs[1])
	case api.CNot:
		w.WriteString("!")
		w.part(c.Parts[0], level)
	default:
		w.part(c.Parts[0], level)
		w.sign(condSign(c.Kind))
		w.part(c.Parts[1], level+1)
	}
}

// item writes a place of an array: a value that is read, or the one that is stored to.
func (w *writer) item(name string, index api.Expr) {
	w.WriteString(name)
	w.WriteString("[")
	w.expr(index)
	w.WriteString("]")
}

// arg writes an argument that needs parentheses if its level is below least.
func (w *writer) arg(e api.Expr, least int) {
	w.wrap("(", ")", exprLevel(e.Kind) < least, func() { w.expr(e) })
}

// part writes a part that needs brackets if its level is below least.
func (w *writer) part(c api.Cond, least int) {
	w.wrap("[", "]", condLevel(c.Kind) < least, func() { w.cond(c) })
}

func (w *writer) wrap(open, shut string, needed bool, write func()) {
	if needed {
		w.WriteString(open)
	}
	write()
	if needed {
		w.WriteString(shut)
	}
}

// sign writes one that stands between two.
func (w *writer) sign(s string) {
	w.WriteString(" ")
	w.WriteString(s)
	w.WriteString(" ")
}
