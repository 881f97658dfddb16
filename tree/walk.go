package tree

import (
	"slices"

	"gnomon/api"
)

// node: a declaration, a statement, a condition or an expression, whether it has its form or not.
type node interface {
	// each shows what the node has, in the nodes' order, until visit says false, and says whether it never did.
	each(visit func(node) bool) bool
}

type (
	decl api.Decl
	stmt api.Stmt
	cond api.Cond
	expr api.Expr
)

func (d decl) each(visit func(node) bool) bool { return true }

func (s stmt) each(visit func(node) bool) bool {
	return show(s.Conds, condNode, visit) && show(s.Exprs, exprNode, visit) && show(s.Then, stmtNode, visit) && show(s.Else, stmtNode, visit)
}

func (c cond) each(visit func(node) bool) bool {
	return show(c.Exprs, exprNode, visit) && show(c.Parts, condNode, visit)
}

func (e expr) each(visit func(node) bool) bool { return show(e.Args, exprNode, visit) }

func declNode(d api.Decl) node { return decl(d) }

func stmtNode(s api.Stmt) node { return stmt(s) }

func condNode(c api.Cond) node { return cond(c) }

func exprNode(e api.Expr) node { return expr(e) }

// show shows the items of l as nodes, until visit says false, and says whether it never did. Items behind that one aren't touched: a list may be far longer than a tree may be.
func show[T any](l []T, as func(T) node, visit func(node) bool) bool {
	for _, v := range l {
		if !visit(as(v)) {
			return false
		}
	}
	return true
}

// tour: the nodes of a tree in their order, as far as a walk got.
type tour struct {
	nodes []node
	depth int       // the greatest one of a node
	limit api.Errno // what ended the walk
}

// through walks through a program.
func through(p api.Prog) tour {
	var t tour
	top := func(n node) bool { return t.walk(n, 1) }
	if show(p.Decls, declNode, top) {
		show(p.Body, stmtNode, top)
	}
	return t
}

// walk goes through a node at a depth and all within it, and says whether no limit ended it.
func (t *tour) walk(n node, depth int) bool {
	t.limit = t.beyond(depth)
	if t.limit != api.OK {
		return false
	}
	t.nodes = append(t.nodes, n)
	t.depth = max(t.depth, depth)
	return n.each(func(part node) bool { return t.walk(part, depth+1) })
}

// beyond: which limit the next node would be past, if it is at that depth.
func (t *tour) beyond(depth int) api.Errno {
	switch {
	case len(t.nodes) == api.MaxNodes:
		return api.ErrTreeMany
	case depth > api.MaxDepth:
		return api.ErrTreeDeep
	}
	return api.OK
}

// fault: P3.2's error.
func (t *tour) fault() api.Errno {
	switch {
	case t.limit != api.OK:
		return t.limit
	case slices.ContainsFunc(t.nodes, formless):
		return api.ErrTreeForm
	case slices.ContainsFunc(t.nodes, nameless):
		return api.ErrTreeName
	}
	return api.OK
}
