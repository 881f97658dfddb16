package parse

import (
	"gnomon/api"
)

// innerExpr reads an expression that is a thing of its own.
func (r *reader) innerExpr() api.Expr { return inner(r, r.exprReading()) }

// exprReading picks how an expression is read; nil: the next token begins none.
func (r *reader) exprReading() func() api.Expr {
	if r.factReading() == nil {
		return nil
	}
	return r.expr
}

func (r *reader) expr() api.Expr {
	return chain[api.Expr]{part: r.term, kind: sumKind, join: joinExprs}.read(r)
}

func (r *reader) term() api.Expr {
	return chain[api.Expr]{part: r.fact, kind: productKind, join: joinExprs}.read(r)
}

func sumKind(sign string) int {
	switch sign {
	case "+":
		return api.EAdd
	case "-":
		return api.ESub
	}
	return 0
}

func productKind(sign string) int {
	switch sign {
	case "*":
		return api.EMul
	case "/":
		return api.EDiv
	case "%":
		return api.ERem
	}
	return 0
}

func joinExprs(kind int, left, right api.Expr) api.Expr {
	return api.Expr{Kind: kind, Args: []api.Expr{left, right}}
}

func (r *reader) fact() api.Expr { return begun(r, r.factReading()) }

// factReading picks how the fact is read that begins with the next token; nil: none does.
func (r *reader) factReading() func() api.Expr {
	t := r.next()
	switch t.Kind {
	case api.TokNum:
		return r.num
	case api.TokName:
		return r.named
	}
	switch t.Text {
	case "-":
		return r.negated
	case "input":
		return r.input
	case "(":
		return func() api.Expr { return r.enclosed("(", ")") }
	}
	return nil
}

func (r *reader) num() api.Expr { return api.Expr{Kind: api.ENum, Num: r.take().Num} }

// named reads a variable, or an array's item.
func (r *reader) named() api.Expr {
	name := r.take().Text
	if !r.sees("[") {
		return api.Expr{Kind: api.EVar, Name: name}
	}
	return api.Expr{Kind: api.EItem, Name: name, Args: []api.Expr{r.enclosed("[", "]")}}
}

func (r *reader) negated() api.Expr {
	r.take()
	return api.Expr{Kind: api.ENeg, Args: []api.Expr{inner(r, r.factReading())}}
}

func (r *reader) input() api.Expr {
	r.take()
	return api.Expr{Kind: api.EInput}
}

// enclosed reads an expression between two signs.
func (r *reader) enclosed(open, shut string) api.Expr {
	r.want(open)
	e := r.innerExpr()
	r.want(shut)
	return e
}
