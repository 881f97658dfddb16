package tree

import (
	"math"

	"gnomon/api"
	"gnomon/lex"
)

// formless: whether a node hasn't its form (P3.1), names and what is within it aside.
func formless(n node) bool {
	switch n := n.(type) {
	case decl:
		return n.Size < 0 || n.Size > math.MaxInt32
	case stmt:
		return !stmtForm(n)
	case cond:
		return !condForm(n)
	case expr:
		return !exprForm(n)
	}
	return true
}

func stmtForm(s stmt) bool {
	exprs, conds := len(s.Exprs), len(s.Conds)
	blocks := len(s.Then) + len(s.Else)
	switch s.Kind {
	case api.SAssign:
		return exprs == 1 && conds == 0 && blocks == 0
	case api.SStore:
		return exprs == 2 && conds == 0 && blocks == 0
	case api.SIf:
		return s.Name == "" && exprs == 0 && conds == 1
	case api.SWhile:
		return s.Name == "" && exprs == 0 && conds == 1 && len(s.Else) == 0
	case api.SAssert, api.SAssume:
		return s.Name == "" && exprs == 0 && conds == 1 && blocks == 0
	case api.SSkip:
		return s.Name == "" && exprs == 0 && conds == 0 && blocks == 0
	}
	return false
}

func condForm(c cond) bool {
	exprs, parts := len(c.Exprs), len(c.Parts)
	switch c.Kind {
	case api.CTrue, api.CFalse:
		return c.Op == 0 && exprs == 0 && parts == 0
	case api.CCmp:
		return c.Op >= api.OpLt && c.Op <= api.OpGe && exprs == 2 && parts == 0
	case api.CNot:
		return c.Op == 0 && exprs == 0 && parts == 1
	case api.CAnd, api.COr:
		return c.Op == 0 && exprs == 0 && parts == 2
	}
	return false
}

func exprForm(e expr) bool {
	args := len(e.Args)
	switch e.Kind {
	case api.ENum:
		return e.Num >= 0 && e.Name == "" && args == 0
	case api.EVar:
		return e.Num == 0 && args == 0
	case api.EInput:
		return e.Num == 0 && e.Name == "" && args == 0
	case api.EItem:
		return e.Num == 0 && args == 1
	case api.ENeg:
		return e.Num == 0 && e.Name == "" && args == 1
	case api.EAdd, api.ESub, api.EMul, api.EDiv, api.ERem:
		return e.Num == 0 && e.Name == "" && args == 2
	}
	return false
}

// nameless: whether a node's Name must be a name and isn't one.
func nameless(n node) bool {
	s, must := name(n)
	return must && !lex.Name(s)
}

// name: a node's Name, and whether it must be a name.
func name(n node) (string, bool) {
	switch n := n.(type) {
	case decl:
		return n.Name, true
	case stmt:
		return n.Name, n.Kind == api.SAssign || n.Kind == api.SStore
	case expr:
		return n.Name, n.Kind == api.EVar || n.Kind == api.EItem
	}
	return "", false
}
