package dbm

import (
	"slices"
	"testing"

	"gnomon/api"
)

func TestTopAndEmptyP121(t *testing.T) {
	for n := -3; n <= 68; n++ {
		top, empty, err := api.Oct{}, api.Oct{}, api.Errno(api.ErrDbmSize)
		if n >= 0 && n <= 64 {
			top, empty, err = open(n), api.Oct{N: n, Empty: true}, api.OK
		}
		if o, e := Top(n); told(o) != told(top) || e != err {
			t.Errorf("P12.1: Top(%d): %s, %d", n, told(o), e)
		}
		if o, e := Empty(n); told(o) != told(empty) || e != err {
			t.Errorf("P12.1: Empty(%d): %s, %d", n, told(o), e)
		}
	}
	for _, n := range []int{least, least + 1, -65, -64, 128, 1 << 31, 1 << 32, 1<<32 + 1, 1 << 62, most} {
		if o, e := Top(n); told(o) != told(api.Oct{}) || e != api.ErrDbmSize {
			t.Errorf("P12.1: Top(%d): %s, %d", n, told(o), e)
		}
		if o, e := Empty(n); told(o) != told(api.Oct{}) || e != api.ErrDbmSize {
			t.Errorf("P12.1: Empty(%d): %s, %d", n, told(o), e)
		}
		if o, e := Points(n, nil); told(o) != told(api.Oct{}) || e != api.ErrDbmSize {
			t.Errorf("P12.3: Points(%d): %s, %d", n, told(o), e)
		}
	}
}

// TestAllSizes: of each number of variables all calls.
func TestAllSizes(t *testing.T) {
	g := newGrower(7)
	for n := range 65 {
		o := full(n)
		if e := Check(o); e != api.OK {
			t.Errorf("P12.1: of %d variables: %d", n, e)
		}
		if all := gathered(o); len(all) != 2*n*n || !slices.Equal(all, modelledCells(o)) {
			t.Errorf("P12.4: of %d variables: %d cells", n, len(all))
		}
		short := api.Oct{N: n, M: o.M[:max(0, len(o.M)-1)]}
		long := api.Oct{N: n, M: append(slices.Clone(o.M), 0)}
		if a, b := Check(short), Check(long); n > 0 && a != api.ErrDbmSize || b != api.ErrDbmSize {
			t.Errorf("P12.1: of %d variables a cell less: %d, a cell more: %d", n, a, b)
		}
		if !Equal(o, full(n)) || Equal(o, long) || Equal(long, long) {
			t.Errorf("P12.4: of %d variables", n)
		}
		l := [][]int64{g.point(n), g.near(n), g.point(n)}
		p, e := Points(n, l)
		if want := modelledPoints(n, l); told(p) != told(want) || e != api.OK {
			t.Errorf("P12.3: of %d variables: %s, %d; want %s", n, told(p), e, told(want))
		}
		for _, x := range append(l, g.near(n)) {
			if Has(p, x) != modelledHas(p, x) || Has(p, append(slices.Clone(x), 0)) {
				t.Errorf("P12.3: of %d variables: %v", n, x)
			}
		}
		if n > 0 {
			last := 2*n - 1
			for _, at := range [][2]int{{last, last - 1}, {0, last}, {last, 0}, {n, n - 1}} {
				if got, e := With(o, at[0], at[1], -9); told(got) != told(modelledWith(o, at[0], at[1], -9)) || e != api.OK {
					t.Errorf("P12.2: of %d variables (%d, %d): %s, %d", n, at[0], at[1], told(got), e)
				}
				if c, e := Get(o, at[0], at[1]); c != o.M[2*n*at[0]+at[1]] || e != api.OK {
					t.Errorf("P12.2: of %d variables (%d, %d): %d, %d", n, at[0], at[1], c, e)
				}
			}
		}
	}
}

// TestOneNumberOf64: each number of a point counts, be it alone beyond a bound.
func TestOneNumberOf64P123(t *testing.T) {
	for k := range 64 {
		o, _ := With(open(64), 2*k, 2*k+1, 6)
		o, _ = With(o, 2*k, (2*k+2)%128, 6)
		x := make([]int64, 64)
		for v, want := range map[int64]bool{3: true, 4: false, -5: true, least: true, most: false} {
			x[k] = v
			if Has(o, x) != want {
				t.Errorf("P12.3: number %d as %d: %v", k, v, !want)
			}
		}
		x[k], x[(k+1)%64] = 0, -7
		if Has(o, x) {
			t.Errorf("P12.3: number %d as 0, the next as -7", k)
		}
	}
}

func TestManyPointsP123(t *testing.T) {
	var l [][]int64
	for k := range int64(20000) {
		l = append(l, []int64{k, -k})
	}
	want := oct(t, "2: 0,1<=39998 1,0<=0 2,3<=0 3,2<=39998 0,2<=39998 2,0<=0 0,3<=0 3,0<=0")
	if o, e := Points(2, l); told(o) != told(want) || e != api.OK {
		t.Errorf("P12.3: %s, %d", told(o), e)
	}
}
