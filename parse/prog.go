package parse

import (
	"math"

	"gnomon/api"
)

func (r *reader) program() api.Prog {
	var p api.Prog
	for r.sees("var") || r.sees("array") {
		p.Decls = append(p.Decls, r.decl())
	}
	p.Body = r.stmts()
	return p
}

func (r *reader) decl() api.Decl {
	array := r.take().Text == "array"
	d := api.Decl{Name: r.name()}
	if array {
		r.want("[")
		d.Size = r.size()
		r.want("]")
	}
	r.want(";")
	return d
}

func (r *reader) size() int {
	t := r.next()
	if t.Kind != api.TokNum || t.Num < 1 || t.Num > math.MaxInt32 {
		r.fail(api.ErrParseWant)
		return 0
	}
	r.take()
	return int(t.Num)
}

// stmts reads statements up to a token that begins none.
func (r *reader) stmts() []api.Stmt {
	var list []api.Stmt
	for read := r.stmtReading(); read != nil; read = r.stmtReading() {
		list = append(list, inner(r, read))
	}
	return list
}

// stmtReading picks how the statement is read that begins with the next token; nil: none does.
func (r *reader) stmtReading() func() api.Stmt {
	t := r.next()
	if t.Kind == api.TokName {
		return r.given
	}
	switch t.Text {
	case "if":
		return r.branch
	case "while":
		return r.loop
	case "assert":
		return r.claim(api.SAssert)
	case "assume":
		return r.claim(api.SAssume)
	case "skip":
		return r.skip
	}
	return nil
}

// given reads a statement by which a variable, or an array's item, is given a value.
func (r *reader) given() api.Stmt {
	s := api.Stmt{Kind: api.SAssign, Name: r.take().Text}
	if r.sees("[") {
		s.Kind = api.SStore
		s.Exprs = append(s.Exprs, r.enclosed("[", "]"))
	}
	r.want("=")
	s.Exprs = append(s.Exprs, r.expr())
	r.want(";")
	return s
}

func (r *reader) branch() api.Stmt {
	r.take()
	s := api.Stmt{Kind: api.SIf, Conds: []api.Cond{r.cond()}}
	s.Then = r.block()
	if r.sees("else") {
		r.take()
		s.Else = r.block()
	}
	return s
}

func (r *reader) loop() api.Stmt {
	r.take()
	s := api.Stmt{Kind: api.SWhile, Conds: []api.Cond{r.cond()}}
	s.Then = r.block()
	return s
}

func (r *reader) claim(kind int) func() api.Stmt {
	return func() api.Stmt {
		r.take()
		s := api.Stmt{Kind: kind, Conds: []api.Cond{r.cond()}}
		r.want(";")
		return s
	}
}

func (r *reader) skip() api.Stmt {
	r.take()
	r.want(";")
	return api.Stmt{Kind: api.SSkip}
}

func (r *reader) block() []api.Stmt {
	r.want("{")
	list := r.stmts()
	r.want("}")
	return list
}
