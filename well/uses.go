package well

import "gnomon/api"

// use: a name where it stands, and what it is taken for.
type use struct {
	name string
	kind int
}

// stmts: all of list and, in the order of nodes, those of body with the ones within them.
func stmts(list, body []api.Stmt) []api.Stmt {
	for _, s := range body {
		list = append(list, s)
		list = stmts(list, s.Then)
		list = stmts(list, s.Else)
	}
	return list
}

// uses: the names that a statement uses itself, in the order of nodes. All of them stand ahead of the blocks within it.
func uses(s api.Stmt) []use {
	var list []use
	switch s.Kind {
	case api.SAssign:
		list = append(list, use{s.Name, variable})
	case api.SStore:
		list = append(list, use{s.Name, array})
	}
	return inExprs(inConds(list, s.Conds), s.Exprs)
}

func inConds(list []use, conds []api.Cond) []use {
	for _, c := range conds {
		list = inConds(inExprs(list, c.Exprs), c.Parts)
	}
	return list
}

func inExprs(list []use, exprs []api.Expr) []use {
	for _, e := range exprs {
		switch e.Kind {
		case api.EVar:
			list = append(list, use{e.Name, variable})
		case api.EItem:
			list = append(list, use{e.Name, array})
		}
		list = inExprs(list, e.Args)
	}
	return list
}
