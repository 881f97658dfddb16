package num

import "gnomon/api"

// comparison: whether an op holds of two numbers, and the op that holds just where it doesn't.
type comparison struct {
	holds func(a, b int64) bool
	not   int
}

// comparisons: all of them, by their ops; what stands at 0 is that of every number that is no op.
func comparisons() [api.OpGe + 1]comparison {
	return [...]comparison{
		0:        {holds: func(a, b int64) bool { return false }},
		api.OpLt: {func(a, b int64) bool { return a < b }, api.OpGe},
		api.OpLe: {func(a, b int64) bool { return a <= b }, api.OpGt},
		api.OpEq: {func(a, b int64) bool { return a == b }, api.OpNe},
		api.OpNe: {func(a, b int64) bool { return a != b }, api.OpEq},
		api.OpGt: {func(a, b int64) bool { return a > b }, api.OpLe},
		api.OpGe: {func(a, b int64) bool { return a >= b }, api.OpLt},
	}
}

func comparisonOf(op int) comparison {
	if op < api.OpLt || op > api.OpGe {
		op = 0
	}
	return comparisons()[op]
}

// Cmp: P7.2.
func Cmp(op int, a, b int64) bool { return comparisonOf(op).holds(a, b) }

// Not: P7.2.
func Not(op int) int { return comparisonOf(op).not }
