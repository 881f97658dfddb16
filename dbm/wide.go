package dbm

import (
	"math/bits"

	"gnomon/api"
)

// wide: a whole number in two words, as a difference of two sides may need 66 bits.
type wide struct{ high, low uint64 }

func widened(a int64) wide { return wide{uint64(a >> 63), uint64(a)} }

func (a wide) minus(b wide) wide {
	low, borrow := bits.Sub64(a.low, b.low, 0)
	high, _ := bits.Sub64(a.high, b.high, borrow)
	return wide{high, low}
}

// above: the least bound that is at least a.
func (a wide) above() int64 {
	high := int64(a.high)
	switch {
	case high > 0, high == 0 && a.low > api.MaxFinite:
		return api.Inf
	case high < -1, high == -1 && a.low < 1<<64-api.MaxFinite:
		return -api.MaxFinite
	}
	return int64(a.low)
}

// values: of all sides at a point: V(0), V(1) and so on.
type values []wide

// sides: the values of all sides at x.
func sides(x []int64) values {
	v := make(values, 0, 2*len(x))
	for _, a := range x {
		v = append(v, widened(a), wide{}.minus(widened(a)))
	}
	return v
}

// apart: the least bound that is at least V(i) - V(j).
func (v values) apart(i, j int) int64 { return v[i].minus(v[j]).above() }
