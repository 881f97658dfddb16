package dbm

import (
	"math/big"
	"slices"
	"testing"

	"gnomon/api"
)

// side: V(i) at x.
func side(x []int64, i int) *big.Int {
	v := big.NewInt(x[i/2])
	if i%2 == 1 {
		v.Neg(v)
	}
	return v
}

// difference: V(i) - V(j) at x, of any size.
func difference(x []int64, i, j int) *big.Int {
	v := side(x, i)
	return v.Sub(v, side(x, j))
}

// cut: the least bound that is at least d.
func cut(d *big.Int) int64 {
	switch {
	case d.Cmp(big.NewInt(far)) > 0:
		return inf
	case d.Cmp(big.NewInt(-far)) < 0:
		return -far
	}
	return d.Int64()
}

// counted: the bound that c counts as.
func counted(c int64) int64 { return cut(big.NewInt(c)) }

func modelledCheck(o api.Oct) api.Errno {
	want := 4 * o.N * o.N
	if o.Empty {
		want = 0
	}
	if o.N < 0 || o.N > 64 || len(o.M) != want {
		return api.ErrDbmSize
	}
	for k, c := range o.M {
		i, j := k/(2*o.N), k%(2*o.N)
		if c != inf && (c < -far || c > far) || i == j && c != 0 || o.M[over(j)*2*o.N+over(i)] != c {
			return api.ErrDbmForm
		}
	}
	return api.OK
}

// modelledWith: of an o that may be, and a place of it.
func modelledWith(o api.Oct, i, j int, c int64) api.Oct {
	if o.Empty || i == j && c < 0 {
		return api.Oct{N: o.N, Empty: true}
	}
	return matrix(o.N, func(k, l int) int64 {
		was := o.M[2*o.N*k+l]
		if [2]int{k, l} == [2]int{i, j} || [2]int{over(l), over(k)} == [2]int{i, j} {
			return min(was, counted(c))
		}
		return was
	})
}

// modelledHas: of an o that may be.
func modelledHas(o api.Oct, x []int64) bool {
	if o.Empty || len(x) != o.N {
		return false
	}
	for k, c := range o.M {
		if c != inf && difference(x, k/(2*o.N), k%(2*o.N)).Cmp(big.NewInt(c)) > 0 {
			return false
		}
	}
	return true
}

// modelledPoints: of points of n numbers.
func modelledPoints(n int, l [][]int64) api.Oct {
	if len(l) == 0 {
		return api.Oct{N: n, Empty: true}
	}
	return matrix(n, func(i, j int) int64 {
		greatest := difference(l[0], i, j)
		for _, x := range l {
			if d := difference(x, i, j); d.Cmp(greatest) > 0 {
				greatest = d
			}
		}
		return cut(greatest)
	})
}

// modelledCells: of any o.
func modelledCells(o api.Oct) []cellOf {
	var all []cellOf
	if modelledCheck(o) != api.OK {
		return nil
	}
	for k, c := range o.M {
		at := [2]int{k / (2 * o.N), k % (2 * o.N)}
		other := [2]int{over(at[1]), over(at[0])}
		if c != inf && at[0] != at[1] && slices.Compare(at[:], other[:]) <= 0 {
			all = append(all, cellOf{at, c})
		}
	}
	return all
}

func TestGrownFormsP121(t *testing.T) {
	g := newGrower(1)
	seen := map[api.Errno]int{}
	for range 20000 {
		o := g.bent()
		want := modelledCheck(o)
		seen[want]++
		if e := Check(o); e != want {
			t.Fatalf("P12.1: %s: %d; want %d", told(o), e, want)
		}
	}
	for _, e := range []api.Errno{api.OK, api.ErrDbmSize, api.ErrDbmForm} {
		if seen[e] < 1000 {
			t.Errorf("few of %d: %v", e, seen)
		}
	}
}

func TestGrownCellsP122(t *testing.T) {
	g := newGrower(2)
	seen := map[string]int{}
	for range 20000 {
		o := g.oct(g.IntN(4))
		i, j, c := g.IntN(2*o.N+2)-1, g.IntN(2*o.N+2)-1, g.number()
		within := 0 <= i && i < 2*o.N && 0 <= j && j < 2*o.N
		got, e := Get(o, i, j)
		switch {
		case !within || o.Empty:
			seen["no cell"]++
			if got != 0 || e != api.ErrDbmPlace {
				t.Fatalf("P12.2: (%d, %d) of %s: %d, %d", i, j, told(o), got, e)
			}
		case got != o.M[2*o.N*i+j] || e != api.OK:
			t.Fatalf("P12.2: (%d, %d) of %s: %d, %d", i, j, told(o), got, e)
		}
		want, err := api.Oct{}, api.Errno(api.ErrDbmPlace)
		if within {
			want, err = modelledWith(o, i, j, c), api.OK
			if told(want) == told(o) {
				seen["same"]++
			} else {
				seen["less"]++
			}
		}
		if r, e := With(o, i, j, c); told(r) != told(want) || e != err {
			t.Fatalf("P12.2: %s with (%d, %d) %d: %s, %d; want %s", told(o), i, j, c, told(r), e, told(want))
		}
	}
	if len(seen) != 3 || min(seen["no cell"], seen["same"], seen["less"]) < 1000 {
		t.Errorf("few of one sort: %v", seen)
	}
}

// holdHas holds Has against whole numbers at one point, and tells what it is to be.
func holdHas(t *testing.T, o api.Oct, x []int64) bool {
	t.Helper()
	want := modelledHas(o, x)
	if Has(o, x) != want {
		t.Fatalf("P12.3: whether %s has %v: %v", told(o), x, !want)
	}
	return want
}

func TestGrownPointsP123(t *testing.T) {
	g := newGrower(3)
	seen := map[bool]int{}
	for range 10000 {
		n := g.IntN(4)
		l := make([][]int64, g.IntN(5))
		for k := range l {
			l[k] = g.point(n)
		}
		o, e := Points(n, l)
		if want := modelledPoints(n, l); told(o) != told(want) || e != api.OK {
			t.Fatalf("P12.3: of %v: %s, %d; want %s", l, told(o), e, told(want))
		}
		for range 3 {
			seen[holdHas(t, o, g.near(n))]++
		}
		other := g.oct(n)
		seen[holdHas(t, other, g.point(n))]++
		seen[holdHas(t, other, g.near(n))]++
	}
	if min(seen[true], seen[false]) < 1000 {
		t.Errorf("few of one sort: %v", seen)
	}
}

// Of few variables a point of any size is often had, and often just not.
func TestGrownHasP123(t *testing.T) {
	g := newGrower(4)
	seen := map[bool]int{}
	for range 60000 {
		o := g.oct(g.IntN(3))
		seen[holdHas(t, o, g.point(o.N))]++
	}
	if min(seen[true], seen[false]) < 1000 {
		t.Errorf("few of one sort: %v", seen)
	}
}

func TestGrownEqualP124(t *testing.T) {
	g := newGrower(5)
	same, unlike := 0, 0
	for range 20000 {
		a, b := g.bent(), g.bent()
		if g.IntN(2) == 0 {
			b = api.Oct{N: a.N, Empty: a.Empty, M: slices.Clone(a.M)}
		}
		want := modelledCheck(a) == api.OK && modelledCheck(b) == api.OK && told(a) == told(b)
		if want {
			same++
		} else {
			unlike++
		}
		if Equal(a, b) != want || Equal(b, a) != want {
			t.Fatalf("P12.4: whether %s is %s: %v", told(a), told(b), !want)
		}
	}
	if min(same, unlike) < 1000 {
		t.Errorf("few of one sort: %d, %d", same, unlike)
	}
}

func TestGrownGatheredP124(t *testing.T) {
	g := newGrower(6)
	given := 0
	for range 20000 {
		o := g.bent()
		want := modelledCells(o)
		given += len(want)
		if got := gathered(o); !slices.Equal(got, want) {
			t.Fatalf("P12.4: cells of %s: %v; want %v", told(o), got, want)
		}
	}
	if given < 10000 {
		t.Errorf("few cells: %d", given)
	}
}
