package close

import (
	"slices"

	"gnomon/api"
	"gnomon/bound"
)

// tightening: an octagon's cells on their way to its Close. Each step of P13.1 is a method, false where the octagon is found Empty.
type tightening struct {
	sides     int
	cells     []int64
	saturated bool
}

func begun(o api.Oct) *tightening { return &tightening{sides: 2 * o.N, cells: slices.Clone(o.M)} }

// across: the side across from i.
func across(i int) int { return i ^ 1 }

// row: the cells (i, 0), (i, 1) and so on.
func (t *tightening) row(i int) []int64 { return t.cells[i*t.sides:][:t.sides] }

// sum: a + b; if it saturates, that is kept.
func (t *tightening) sum(a, b int64) int64 {
	s := bound.Plus(a, b)
	if s == api.Inf || s == -api.MaxFinite { // no other sum has saturated
		t.saturated = t.saturated || bound.Saturates(a, b)
	}
	return s
}

// shorten: step 1. Sums with Inf are passed over: they lessen nothing, and don't saturate.
func (t *tightening) shorten() bool {
	for k := range t.sides {
		over := t.row(k)
		for i := range t.sides {
			row := t.row(i)
			if row[k] == api.Inf {
				continue
			}
			for j := range row {
				if over[j] != api.Inf { // row[k] is read for each sum anew, as that over a (k, k) below 0 lessens it
					row[j] = bound.Less(row[j], t.sum(row[k], over[j]))
				}
			}
		}
	}
	return true
}

// mirror: step 2.
func (t *tightening) mirror() bool {
	for i := range t.sides {
		for j := range t.sides {
			here, there := &t.row(i)[j], &t.row(across(j))[across(i)]
			*here = bound.Less(*here, *there)
			*there = *here
		}
	}
	return true
}

// circle: step 3.
func (t *tightening) circle() bool {
	for i := range t.sides {
		if t.row(i)[i] < 0 {
			return false
		}
	}
	return true
}

// round: step 4.
func (t *tightening) round() bool {
	for i := range t.sides {
		row := t.row(i)
		row[across(i)] = bound.Even(row[across(i)])
	}
	return true
}

// cross: step 5. Behind a sum below 0 the others are taken too, as one of them may saturate.
func (t *tightening) cross() bool {
	some := true
	for i := range t.sides {
		if t.sum(t.row(i)[across(i)], t.row(across(i))[i]) < 0 {
			some = false
		}
	}
	return some
}

// halve: step 6.
func (t *tightening) halve() bool {
	for i := range t.sides {
		row := t.row(i)
		for j := range t.sides {
			if j != i {
				row[j] = bound.Less(row[j], bound.Half(t.sum(row[across(i)], t.row(across(j))[j])))
			}
		}
	}
	return true
}
