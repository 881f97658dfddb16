package close

import (
	"testing"

	"gnomon/api"
	"gnomon/dbm"
)

// row: an octagon, its Close, and whether a sum saturated by it.
type row struct {
	o, want   api.Oct
	saturated bool
}

func closes(t *testing.T, rows []row) {
	t.Helper()
	for i, r := range rows {
		if got, saturated, err := Close(r.o); told(got) != told(r.want) || saturated != r.saturated || err != api.OK {
			t.Errorf("P13.1: row %d: of %s: %s, %v, %d; want %s, %v", i, told(r.o), told(got), saturated, err, told(r.want), r.saturated)
		}
	}
}

func TestExamples(t *testing.T) {
	closes(t, []row{
		{of(2, 0, 2, 1, 2, 3, 4), of(2, 0, 2, 1, 2, 3, 4, 0, 1, 6, 0, 3, 5), false},
		{of(2, 0, 3, 1, 0, 2, 0), of(2, 0, 3, 1, 0, 2, 0, 0, 1, 0), false},
		{of(1, 0, 1, 3, 1, 0, -3), none(1), false},
		{of(2, 0, 1, far, 2, 0, far), of(2, 0, 1, far, 2, 0, far), true},
	})
}

func TestNothingToTightenP131(t *testing.T) {
	var rows []row
	for n := range 65 {
		rows = append(rows, row{of(n), of(n), false}, row{none(n), none(n), false})
	}
	closes(t, append(rows,
		row{api.Oct{Empty: true, N: 3, M: []int64{}}, none(3), false}, row{api.Oct{M: []int64{}}, of(0), false},
		row{of(1, 0, 1, 4, 1, 0, -4), of(1, 0, 1, 4, 1, 0, -4), false}, row{of(2, 0, 2, 7), of(2, 0, 2, 7), false}, row{of(2, 0, 2, -7), of(2, 0, 2, -7), false},
		row{of(2, 0, 2, 0, 2, 0, 0), of(2, 0, 2, 0, 2, 0, 0), false}, row{of(2, 0, 2, 1, 2, 0, -1), of(2, 0, 2, 1, 2, 0, -1), false},
		row{of(1, 0, 1, far/2), of(1, 0, 1, far/2), false}, row{of(1, 1, 0, -far/2), of(1, 1, 0, -far/2), false},
	))
}

// Ways over one side and over several, through either sign of a variable, and of a variable in the middle whose number is the least or the greatest.
func TestWaysP131(t *testing.T) {
	closes(t, []row{
		{of(3, 0, 2, 1, 2, 4, 2), of(3, 0, 2, 1, 2, 4, 2, 0, 4, 3), false},
		{of(3, 2, 0, 1, 0, 4, 2), of(3, 2, 0, 1, 0, 4, 2, 2, 4, 3), false},
		{of(3, 0, 4, 1, 4, 2, 2), of(3, 0, 4, 1, 4, 2, 2, 0, 2, 3), false},
		{of(3, 0, 4, 1, 4, 2, 2, 0, 2, 2), of(3, 0, 4, 1, 4, 2, 2, 0, 2, 2), false},
		{of(3, 0, 3, 1, 3, 5, -2), of(3, 0, 3, 1, 3, 5, -2, 0, 5, -1), false},
		{of(3, 0, 2, 0, 2, 4, 0, 4, 0, 0), of(3, 0, 2, 0, 2, 4, 0, 4, 0, 0, 0, 4, 0, 2, 0, 0, 4, 2, 0), false},
		{of(3, 0, 2, 0, 2, 4, 0, 4, 0, -1), none(3), false},
		{of(2, 0, 2, 1, 2, 0, -2), none(2), false},
		{of(2, 0, 2, -1, 2, 0, 0), none(2), false},
		{of(4, 6, 2, 1, 2, 0, 1, 0, 4, 1), of(4, 6, 2, 1, 2, 0, 1, 0, 4, 1, 6, 0, 2, 2, 4, 2, 6, 4, 3), false},
		{of(2, 0, 2, 1, 2, 1, 2), of(2, 0, 2, 1, 2, 1, 2, 0, 1, 2), false},
		{of(2, 1, 3, 1, 3, 0, 2), of(2, 1, 3, 1, 3, 0, 2, 1, 0, 2), false},
	})
}

// A double that is bounded by an odd number is bounded by the even one below; what comes of it is known of sums and differences too.
func TestWholeNumbersP131(t *testing.T) {
	closes(t, []row{
		{of(1, 0, 1, 5), of(1, 0, 1, 4), false}, {of(1, 1, 0, 5), of(1, 1, 0, 4), false}, {of(1, 0, 1, -5), of(1, 0, 1, -6), false}, {of(1, 1, 0, -5), of(1, 1, 0, -6), false},
		{of(1, 0, 1, 1), of(1, 0, 1, 0), false}, {of(1, 0, 1, -1), of(1, 0, 1, -2), false},
		{of(1, 0, 1, 5, 1, 0, -4), of(1, 0, 1, 4, 1, 0, -4), false}, {of(1, 0, 1, 4, 1, 0, -3), of(1, 0, 1, 4, 1, 0, -4), false},
		{of(1, 0, 1, 5, 1, 0, -5), none(1), false}, {of(1, 0, 1, -5, 1, 0, 5), none(1), false}, {of(1, 0, 1, 3, 1, 0, -4), none(1), false}, {of(1, 0, 1, 5, 1, 0, -3), of(1, 0, 1, 4, 1, 0, -4), false},
		{of(2, 2, 3, 5, 3, 2, -5), none(2), false}, {of(3, 4, 5, 5, 5, 4, -5), none(3), false},
		{of(2, 0, 1, 3, 2, 3, 5), of(2, 0, 1, 2, 2, 3, 4, 0, 3, 3), false}, {of(2, 0, 1, 3, 3, 2, 5), of(2, 0, 1, 2, 3, 2, 4, 0, 2, 3), false},
		{of(2, 1, 0, 3, 2, 3, -5), of(2, 1, 0, 2, 2, 3, -6, 1, 3, -2), false}, {of(2, 1, 0, 3, 3, 2, -5), of(2, 1, 0, 2, 3, 2, -6, 1, 2, -2), false},
		{of(2, 0, 1, 2, 2, 3, 4, 0, 3, 2), of(2, 0, 1, 2, 2, 3, 4, 0, 3, 2), false}, {of(2, 0, 3, 1, 0, 2, 0, 1, 2, -1), of(2, 0, 3, 1, 0, 2, -1, 1, 2, -1, 0, 1, 0, 3, 2, -2), false}, {of(2, 0, 3, 1, 0, 2, 0, 1, 2, -1, 2, 0, 0), none(2), false},
		{of(2, 0, 1, 2, 1, 0, -2, 2, 3, 4, 3, 2, -4), of(2, 0, 1, 2, 1, 0, -2, 2, 3, 4, 3, 2, -4, 0, 2, -1, 2, 0, 1, 0, 3, 3, 1, 2, -3), false},
	})
}

// In step 1 a sum of two, or round from a side to itself, saturates; no other step's does.
func TestShortenedSumsSaturateP131(t *testing.T) {
	closes(t, []row{
		{of(3, 0, 2, far, 2, 4, 1), of(3, 0, 2, far, 2, 4, 1), true}, {of(3, 0, 2, far, 2, 4, 0), of(3, 0, 2, far, 2, 4, 0, 0, 4, far), false}, {of(3, 0, 2, far, 2, 4, -1), of(3, 0, 2, far, 2, 4, -1, 0, 4, far-1), false},
		{of(3, 0, 2, far, 2, 4, far), of(3, 0, 2, far, 2, 4, far), true}, {of(3, 0, 2, far, 2, 4, -far), of(3, 0, 2, far, 2, 4, -far, 0, 4, 0), false},
		{of(3, 0, 2, -far, 2, 4, -1), of(3, 0, 2, -far, 2, 4, -1, 0, 4, -far), true}, {of(3, 0, 2, -far, 2, 4, 0), of(3, 0, 2, -far, 2, 4, 0, 0, 4, -far), false}, {of(3, 0, 2, -far, 2, 4, 1), of(3, 0, 2, -far, 2, 4, 1, 0, 4, 1-far), false},
		{of(3, 0, 2, -far, 2, 4, -far), of(3, 0, 2, -far, 2, 4, -far, 0, 4, -far), true},
		{of(3, 0, 2, far, 2, 4, 1, 0, 4, 5), of(3, 0, 2, far, 2, 4, 1, 0, 4, 5), true},
		{of(2, 0, 2, far, 2, 0, 1), of(2, 0, 2, far, 2, 0, 1), true}, {of(2, 0, 2, far, 2, 0, 0), of(2, 0, 2, far, 2, 0, 0), false}, {of(2, 0, 2, -far, 2, 0, far), of(2, 0, 2, -far, 2, 0, far), false},
		// Found Empty in step 3.
		{of(2, 0, 2, -far, 2, 0, -1), none(2), true}, {of(4, 0, 2, far, 2, 4, 1, 6, 7, -1, 7, 6, -1), none(4), true}, {of(4, 0, 2, far, 2, 4, 0, 6, 7, -1, 7, 6, -1), none(4), false},
	})
}

// What is across from a cell is lessened, too, where a sum that saturated kept it from being found.
func TestMirrorP131(t *testing.T) {
	o := of(3, 0, 2, -far/4-1, 0, 4, far, 1, 0, 3)
	want := of(3, 0, 2, -far/4-1, 0, 4, far, 1, 0, 2, 1, 2, -far/4+1, 3, 2, -far/2, 3, 4, 3*(far/4)+2)
	closes(t, []row{{o, want, true}})
}

// Cells are lessened in their places, one behind another: a sum is of what they are by then.
func TestInPlaceP131(t *testing.T) {
	closes(t, []row{
		{of(1, 0, 1, -far/4, 1, 0, -far/4), none(1), false}, {of(1, 0, 1, -far/4-1, 1, 0, -far/4), none(1), true},
		{of(2, 0, 1, -far/4, 1, 0, 0, 1, 2, -far/4), none(2), true}, {of(2, 0, 1, -far/4-1, 1, 0, 1, 1, 3, far), none(2), false},
		{of(2, 0, 2, 3, 0, 3, -far/2-1, 1, 2, 5), none(2), true}, {of(2, 0, 1, -far/4-1, 0, 2, far/2+2, 1, 0, 2), none(2), false},
	})
}

// All sums of step 5 are taken, those behind one below 0 too, and none of step 6 then; none of step 5 is, where step 3 is the end.
func TestSumsOfTheLastStepP131(t *testing.T) {
	closes(t, []row{
		{of(2, 0, 2, 5, 1, 2, 5, 2, 3, far/2), of(2, 0, 1, far/2+10, 0, 2, 5, 0, 3, far/2+5, 1, 0, far/2+10, 1, 2, 5, 1, 3, far/2+5, 2, 3, far/2, 3, 2, 10), true},
		{of(3, 0, 1, 3, 1, 0, -3, 2, 4, 5, 3, 4, 5, 4, 5, far/2), none(3), true}, {of(3, 2, 3, 3, 3, 2, -3, 0, 4, 5, 1, 4, 5, 4, 5, far/2), none(3), true},
		{of(2, 0, 2, 0, 1, 3, far/2+2, 2, 3, far/2+1, 3, 2, -far/2-1), none(2), true},
		{of(2, 0, 1, 3, 1, 0, -3, 2, 3, far), none(2), false}, {of(2, 0, 1, 3, 1, 0, -4, 2, 3, far), none(2), false},
		{of(3, 0, 1, 3, 1, 0, -4, 2, 4, 5, 3, 4, 5, 4, 5, far/2), none(3), false},
	})
}

// In step 6 a double is put to itself, too, and so saturates alone.
func TestHalvedSumsSaturateP131(t *testing.T) {
	closes(t, []row{
		{of(1, 0, 1, far/2+1), of(1, 0, 1, far/2), false}, {of(1, 0, 1, far/2+2), of(1, 0, 1, far/2+2), true}, {of(1, 0, 1, far), of(1, 0, 1, far), true}, {of(1, 1, 0, far-1), of(1, 1, 0, far-2), true},
		{of(1, 0, 1, -far/2), of(1, 0, 1, -far/2), false}, {of(1, 0, 1, -far/2-1), of(1, 0, 1, -far/2-2), true}, {of(1, 1, 0, -far), of(1, 1, 0, -far), true}, {of(1, 0, 1, 1-far), of(1, 0, 1, -far), true},
		{of(2, 0, 1, far/2, 2, 3, far/2), of(2, 0, 1, far/2, 2, 3, far/2, 0, 3, far/2), false}, {of(2, 0, 1, far/2+1, 2, 3, far/2+1), of(2, 0, 1, far/2, 2, 3, far/2, 0, 3, far/2), false},
		{of(2, 0, 1, far/2+2, 2, 3, far/2), of(2, 0, 1, far/2+2, 2, 3, far/2), true},
		{of(2, 0, 1, far, 2, 3, -2), of(2, 0, 1, far, 2, 3, -2, 0, 3, far/2-1), true}, {of(2, 0, 1, far, 2, 3, 0), of(2, 0, 1, far, 2, 3, 0, 0, 3, far/2), true}, {of(2, 0, 1, far, 2, 3, 2), of(2, 0, 1, far, 2, 3, 2), true},
		{of(2, 0, 1, -far, 2, 3, -2), of(2, 0, 1, -far, 2, 3, -2, 0, 3, -far/2), true}, {of(2, 0, 1, -far, 3, 2, 2), of(2, 0, 1, -far, 3, 2, 2, 0, 2, 1-far/2), true}, {of(2, 0, 1, -far, 2, 3, far), of(2, 0, 1, -far, 2, 3, far, 0, 3, 0), true},
	})
}

func TestErrorsComeFirst(t *testing.T) {
	for _, r := range []struct {
		o    api.Oct
		want api.Errno
	}{
		{api.Oct{N: 1}, api.ErrDbmSize}, {api.Oct{N: -1}, api.ErrDbmSize}, {api.Oct{N: -1, Empty: true}, api.ErrDbmSize}, {api.Oct{N: 65, Empty: true}, api.ErrDbmSize}, {api.Oct{N: most}, api.ErrDbmSize}, {api.Oct{N: least, Empty: true}, api.ErrDbmSize}, {api.Oct{N: 1 << 32, M: []int64{0}}, api.ErrDbmSize},
		{api.Oct{N: 1, Empty: true, M: of(1).M}, api.ErrDbmSize}, {api.Oct{M: []int64{0}}, api.ErrDbmSize}, {raw(1, 0, 1, 2), api.ErrDbmSize}, {raw(1, 0, 1, 2, 0, 0), api.ErrDbmSize}, {raw(65, make([]int64, 4*65*65)...), api.ErrDbmSize}, {raw(2, of(1).M...), api.ErrDbmSize},
		{raw(1, 0, far+1, 2, 0), api.ErrDbmForm}, {raw(1, 0, -far-1, 2, 0), api.ErrDbmForm}, {raw(1, 0, inf-1, 2, 0), api.ErrDbmForm}, {raw(1, 0, least, 2, 0), api.ErrDbmForm}, {raw(1, 1, 1, 2, 1), api.ErrDbmForm}, {raw(1, -1, 1, 2, -1), api.ErrDbmForm}, {raw(1, inf, 1, 2, inf), api.ErrDbmForm},
		{raw(2, 0, 1, 5, inf, 2, 0, inf, inf, inf, inf, 0, 3, inf, 6, 4, 0), api.ErrDbmForm}, {raw(1, far+1, least, 2), api.ErrDbmSize},
	} {
		if o, saturated, err := Close(r.o); told(o) != told(api.Oct{}) || saturated || err != r.want || err != dbm.Check(r.o) {
			t.Errorf("P13.1: %s: %s, %v, %d; want %d", told(r.o), told(o), saturated, err, r.want)
		}
		if is, err := Closed(r.o); is || err != r.want {
			t.Errorf("P13.2: %s: %v, %d; want %d", told(r.o), is, err, r.want)
		}
	}
}

func TestClosedP132(t *testing.T) {
	for _, r := range []struct {
		o    api.Oct
		want bool
	}{
		{of(0), true}, {of(1), true}, {of(64), true}, {none(0), true}, {none(5), true}, {api.Oct{N: 5, Empty: true, M: []int64{}}, true}, {api.Oct{M: []int64{}}, true},
		{of(1, 0, 1, 4), true}, {of(1, 0, 1, 3), false}, {of(1, 1, 0, -3), false}, {of(1, 0, 1, 4, 1, 0, -4), true}, {of(1, 0, 1, 4, 1, 0, -6), false}, {of(1, 0, 1, 3, 1, 0, -3), false},
		{of(2, 0, 2, 1, 2, 3, 4), false}, {of(2, 0, 2, 1, 2, 3, 4, 0, 1, 6), false}, {of(2, 0, 2, 1, 2, 3, 4, 0, 1, 6, 0, 3, 5), true}, {of(2, 0, 2, 1, 2, 3, 4, 0, 1, 6, 0, 3, 4), false}, {of(2, 0, 2, 1, 2, 3, 4, 0, 1, 6, 0, 3, 6), false},
		{of(2, 0, 1, 2, 2, 3, 4), false}, {of(2, 0, 1, 2, 2, 3, 4, 0, 3, 3), true}, {of(3, 0, 2, 1, 2, 4, 2), false}, {of(3, 0, 2, 1, 2, 4, 2, 0, 4, 3), true},
		// Saturated sums don't matter, if the octagon stays.
		{of(1, 0, 1, far), true}, {of(1, 0, 1, far-1), false}, {of(2, 0, 1, far, 2, 0, far), true}, {of(3, 0, 2, -far, 2, 4, -1), false}, {of(3, 0, 2, -far, 2, 4, -1, 0, 4, -far), true}, {of(2, 0, 1, far, 2, 3, 0), false},
	} {
		if is, err := Closed(r.o); is != r.want || err != api.OK {
			t.Errorf("P13.2: whether %s is closed: %v, %d", told(r.o), is, err)
		}
	}
}

func TestCostP132(t *testing.T) {
	for n, want := range map[int]int{0: 0, 1: 8, 2: 64, 3: 216, 10: 8000, 63: 2000376, 64: 2097152, 65: 0, 66: 0, 128: 0, -1: 0, -2: 0, -64: 0, most: 0, least: 0, 1 << 32: 0, 1<<32 + 1: 0, 1 << 62: 0} {
		if got := Cost(n); got != want {
			t.Errorf("P13.2: Cost(%d): %d, want %d", n, got, want)
		}
	}
}
