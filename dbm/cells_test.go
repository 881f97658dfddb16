package dbm

import (
	"slices"
	"testing"

	"gnomon/api"
)

// TestCellsAreLeft: behind each number of cells; no other one is given then, and they are gone through again from the first on.
func TestCellsAreLeft(t *testing.T) {
	all := modelledCells(full(3))
	it := Cells(full(3))
	for k := range len(all) + 2 {
		var got []cellOf
		it(func(at [2]int, c int64) bool {
			got = append(got, cellOf{at, c})
			return len(got) != k+1
		})
		if !slices.Equal(got, all[:min(k+1, len(all))]) {
			t.Errorf("P12.4: left behind %d: %v", k+1, got)
		}
	}
	var got []cellOf
	for at, c := range it {
		got = append(got, cellOf{at, c})
	}
	if !slices.Equal(got, all) {
		t.Errorf("P12.4: again: %v", got)
	}
}

// TestCellsWithinCells: gone through while it is being gone through.
func TestCellsWithinCells(t *testing.T) {
	all := modelledCells(full(2))
	it := Cells(full(2))
	var outer []cellOf
	for at, c := range it {
		outer = append(outer, cellOf{at, c})
		var inner []cellOf
		for at, c := range it {
			if inner = append(inner, cellOf{at, c}); len(inner) == len(outer) {
				break
			}
		}
		if !slices.Equal(inner, all[:len(outer)]) {
			t.Errorf("P12.4: within %v: %v", at, inner)
		}
	}
	if !slices.Equal(outer, all) {
		t.Errorf("P12.4: %v", outer)
	}
}

// TestCellsDontKeep: what is done with an octagon behind the call, or while its cells are gone through, is nothing to them.
func TestCellsDontKeep(t *testing.T) {
	o := full(2)
	want := modelledCells(o)
	it := Cells(o)
	clear(o.M)
	var got []cellOf
	for at, c := range it {
		got = append(got, cellOf{at, c})
		o.M[2] = -70
		at[0] = 9
	}
	if !slices.Equal(got, want) {
		t.Errorf("P12.4: %v; want %v", got, want)
	}
	bad := api.Oct{N: 1, M: []int64{1, 2, 3, 0}}
	it = Cells(bad)
	bad.M[0] = 0
	for at := range it {
		t.Errorf("P12.4: what might not be gave %v", at)
	}
}

func TestCellsAreNeverNil(t *testing.T) {
	for _, o := range []api.Oct{{}, {N: -1}, {N: 65}, {N: 2, Empty: true}, {N: 1}, {N: 1, M: []int64{1, 1, 1, 1}}, open(2)} {
		if Cells(o) == nil {
			t.Errorf("of %s", told(o))
		}
	}
}
