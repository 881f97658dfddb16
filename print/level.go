package print

import "gnomon/api"

// exprLevel: how closely an expression's text holds together; each kind has one more than those below it.
func exprLevel(kind int) int {
	level := 0
	switch kind {
	default:
		level++
		fallthrough
	case api.ENeg:
		level++
		fallthrough
	case api.EMul, api.EDiv, api.ERem:
		level++
		fallthrough
	case api.EAdd, api.ESub:
		level++
	}
	return level
}

// condLevel: likewise of a condition's text.
func condLevel(kind int) int {
	level := 0
	switch kind {
	default:
		level++
		fallthrough
	case api.CAnd:
		level++
		fallthrough
	case api.COr:
		level++
	}
	return level
}

func exprSign(kind int) string {
	switch kind {
	case api.EAdd:
		return "+"
	case api.ESub:
		return "-"
	case api.EMul:
		return "*"
	case api.EDiv:
		return "/"
	}
	return "%"
}

func condSign(kind int) string {
	if kind == api.CAnd {
		return "&&"
	}
	return "||"
}

func opSign(op int) string {
	switch op {
	case api.OpLt:
		return "<"
	case api.OpLe:
		return "<="
	case api.OpEq:
		return "=="
	case api.OpNe:
		return "!="
	case api.OpGt:
		return ">"
	}
	return ">="
}
