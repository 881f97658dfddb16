package close

import (
	"slices"
	"testing"

	"gnomon/api"
	"gnomon/dbm"
)

// chain: of n variables each one is at most 1 above the next, and the last one at most 5.
func chain(n int) api.Oct {
	o := of(n)
	for k := range n {
		if k+1 < n {
			o, _ = dbm.With(o, 2*k, 2*k+2, 1)
		} else {
			o, _ = dbm.With(o, 2*k, 2*k+1, 10)
		}
	}
	return o
}

// chained: what follows of a chain.
func chained(n int) api.Oct {
	top := func(side int) int64 { return int64(5 + n - 1 - side/2) } // of the side's variable
	return matrix(n, func(i, j int) int64 {
		switch up, down := i%2 == 0, j%2 == 1; {
		case up && down:
			return top(i) + top(j)
		case up && i <= j, !up && down && j <= i:
			return max(top(i), top(j)) - min(top(i), top(j))
		}
		return inf
	})
}

func TestChainsOfAllSizes(t *testing.T) {
	for n := range 65 {
		o, want := chain(n), chained(n)
		if got, saturated, err := Close(o); told(got) != told(want) || saturated || err != api.OK {
			t.Errorf("P13.1: of %d variables: %s, %v, %d", n, told(got), saturated, err)
		}
		if is, err := Closed(want); !is || err != api.OK {
			t.Errorf("P13.2: of %d variables: %v, %d", n, is, err)
		}
		if is, err := Closed(o); is != (n < 2) || err != api.OK {
			t.Errorf("P13.2: a chain of %d variables: %v, %d", n, is, err)
		}
	}
}

// TestRings: a chain back to its beginning, of each length; what it comes to decides.
func TestRingsOfAllSizes(t *testing.T) {
	for n := 2; n <= 64; n++ {
		for by := -1; by <= 1; by++ {
			o := of(n, int64(2*n-2), 0, int64(by-(n-1)))
			for k := range n - 1 {
				o, _ = dbm.With(o, 2*k, 2*k+2, 1)
			}
			got, _, err := Close(o)
			if got.Empty != (by < 0) || err != api.OK || dbm.Check(got) != api.OK {
				t.Errorf("P13.1: of %d variables, round by %d: %s, %d", n, by, told(got), err)
			}
			if c := int64(n - 1); !got.Empty && (cell(got, 0, 2*n-2) != c || cell(got, 1, 2*n-1) != int64(by)-c) {
				t.Errorf("P13.1: of %d variables, round by %d: %s", n, by, told(got))
			}
		}
	}
}

// TestManyVariablesAgainstTheModel: dense ones, and ones that have no points: of these what is summed round and round grows till it saturates, if there are sides enough.
func TestManyVariablesAgainstTheModel(t *testing.T) {
	g := newGrower(9)
	ends := map[bool]int{}
	for _, n := range []int{5, 6, 7, 8, 9, 12, 16, 17, 24, 31, 33, 48, 64} {
		around, _ := g.around(n, g.near)
		holdModel(t, around)
		low := matrix(n, func(i, j int) int64 {
			if i == j {
				return 0
			}
			return -1
		})
		want, steps := holdModel(t, low)
		if ends[slices.Contains(steps[:], true)]++; !want.Empty {
			t.Errorf("P13.1: %d variables, all cells -1: %s", n, told(want))
		}
	}
	if min(ends[false], ends[true]) < 3 {
		t.Errorf("few of one sort: %v", ends)
	}
	for range 30 {
		holdModel(t, g.any(5+g.IntN(8)))
	}
}

// TestLastSides: of 64 variables the last ones count as the first do.
func TestLastSidesOf64(t *testing.T) {
	closes(t, []row{
		{of(64, 126, 127, 5), of(64, 126, 127, 4), false}, {of(64, 127, 126, -5), of(64, 127, 126, -6), false}, {of(64, 126, 127, 5, 127, 126, -5), none(64), false},
		{of(64, 126, 127, far), of(64, 126, 127, far), true}, {of(64, 0, 126, 3, 126, 2, 4), of(64, 0, 126, 3, 126, 2, 4, 0, 2, 7), false}, {of(64, 0, 126, far, 126, 2, 4), of(64, 0, 126, far, 126, 2, 4), true},
		{of(64, 0, 127, 3, 127, 2, 4), of(64, 0, 127, 3, 127, 2, 4, 0, 2, 7), false}, {of(64, 0, 1, 3, 126, 127, 5), of(64, 0, 1, 2, 126, 127, 4, 0, 127, 3), false},
		{of(64, 126, 124, -1, 124, 126, 0), none(64), false},
	})
}
