package tree

import (
	"strings"

	"gnomon/api"
)

// label: a node's own fields, and how many nodes each of its lists has. The labels of a tree's nodes, in their order, are that tree's alone: the counts say where each list ends.
type label struct {
	letter byte // what the node is
	kind   int
	num    int64
	name   string
	counts [4]int
}

// alike: whether two nodes have one label.
func alike(a, b node) bool { return labelOf(a) == labelOf(b) }

func labelOf(n node) label {
	switch n := n.(type) {
	case decl:
		return label{letter: 'D', num: int64(n.Size), name: n.Name}
	case stmt:
		return label{letter: 'S', kind: n.Kind, name: n.Name, counts: [4]int{len(n.Conds), len(n.Exprs), len(n.Then), len(n.Else)}}
	case cond:
		return label{letter: 'C', kind: n.Kind, num: int64(n.Op), counts: [4]int{len(n.Parts), len(n.Exprs)}}
	case expr:
		return label{letter: 'E', kind: n.Kind, num: n.Num, name: n.Name, counts: [4]int{0, len(n.Args)}}
	}
	return label{}
}

// copies: the items of l, each copied by one, in a list of its own.
func copies[T any](l []T, one func(T) T) []T {
	if len(l) == 0 {
		return nil
	}
	list := make([]T, len(l))
	for i, v := range l {
		list[i] = one(v)
	}
	return list
}

func copyDecl(d api.Decl) api.Decl {
	return api.Decl{Name: strings.Clone(d.Name), Size: d.Size}
}

func copyStmt(s api.Stmt) api.Stmt {
	return api.Stmt{
		Kind:  s.Kind,
		Name:  strings.Clone(s.Name),
		Exprs: copies(s.Exprs, copyExpr),
		Conds: copies(s.Conds, copyCond),
		Then:  copies(s.Then, copyStmt),
		Else:  copies(s.Else, copyStmt),
	}
}

func copyCond(c api.Cond) api.Cond {
	return api.Cond{Kind: c.Kind, Op: c.Op, Exprs: copies(c.Exprs, copyExpr), Parts: copies(c.Parts, copyCond)}
}

func copyExpr(e api.Expr) api.Expr {
	return api.Expr{Kind: e.Kind, Num: e.Num, Name: strings.Clone(e.Name), Args: copies(e.Args, copyExpr)}
}
