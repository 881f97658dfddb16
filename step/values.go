package step

import (
	"gnomon/api"
	"gnomon/num"
)

// values: what the variables (the temporaries, too) and the arrays hold, and the inputs that are left.
type values struct {
	vars   []int64
	arrays [][]int64
	inputs []int64
}

func (v values) value(o api.Operand) int64 {
	if o.Var < 0 {
		return o.Num
	}
	return v.vars[o.Var]
}

// item: where an edge's array has its place A; nil, if it has none.
func (v values) item(e api.Edge) *int64 {
	array, place := v.arrays[e.Arr], v.value(e.A)
	if place < 0 || place >= int64(len(array)) {
		return nil
	}
	return &array[place]
}

// none: the number of an edge where none is taken.
const none = -1

// taken: which one of the edges from a point is taken. Of two that compare just one holds.
func (v values) taken(edges []api.Edge, from []int) int {
	for _, i := range from {
		e := edges[i]
		if e.Kind != api.KAssume || num.Cmp(e.Op, v.value(e.A), v.value(e.B)) {
			return i
		}
	}
	return none
}
