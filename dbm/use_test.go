package dbm

import (
	"math/big"
	"testing"

	"gnomon/api"
)

// grid: all points of n variables of which each number is one of l.
func grid(n int, l []int64) [][]int64 {
	all := [][]int64{{}}
	for range n {
		var more [][]int64
		for _, x := range all {
			for _, a := range l {
				more = append(more, append(x[:len(x):len(x)], a))
			}
		}
		all = more
	}
	return all
}

// TestWithHoldsJustThePoints: those of o at which V(i) - V(j) is at most c.
func TestWithHoldsJustThePointsP125(t *testing.T) {
	g := newGrower(8)
	points := [][][]int64{grid(0, nil), grid(1, few()), grid(2, []int64{least, -far - 1, -far, -far / 2, -2, -1, 0, 1, 2, far/2 + 1, far, most})}
	seen := map[string]int{}
	for range 3000 {
		o := g.oct(1 + g.IntN(2))
		if g.IntN(2) == 0 {
			o = open(o.N)
		}
		i, j, c := g.IntN(2*o.N), g.IntN(2*o.N), g.number()
		with, e := With(o, i, j, c)
		if e != api.OK || Check(with) != api.OK {
			t.Fatalf("P12.5: %s with (%d, %d) %d: %d", told(o), i, j, c, e)
		}
		bound := counted(c)
		for _, x := range points[o.N] {
			below := bound == inf || difference(x, i, j).Cmp(big.NewInt(bound)) <= 0
			has, kept := Has(o, x), Has(with, x)
			switch {
			case kept:
				seen["kept"]++
			case has:
				seen["lost"]++
			}
			if kept != (has && below) {
				t.Fatalf("P12.5: %s with (%d, %d) %d of %v: %v, then %v", told(o), i, j, c, x, has, kept)
			}
		}
	}
	if min(seen["kept"], seen["lost"]) < 5000 {
		t.Errorf("few of one sort: %v", seen)
	}
}

// TestPointsHasItsPoints: each of them; and no cell could be less.
func TestPointsHasItsPointsP125(t *testing.T) {
	g := newGrower(9)
	lost := 0
	for range 1500 {
		n := g.IntN(4)
		l := make([][]int64, 1+g.IntN(4))
		for k := range l {
			l[k] = g.point(n)
		}
		o, e := Points(n, l)
		if e != api.OK || Check(o) != api.OK {
			t.Fatalf("P12.5: of %v: %d", l, e)
		}
		for _, x := range l {
			if !Has(o, x) {
				t.Fatalf("P12.5: of %v: %s hasn't %v", l, told(o), x)
			}
		}
		for k, c := range o.M {
			if n == 0 || c == -far {
				continue
			}
			less := c - 1
			if c == inf {
				less = far
			}
			i, j := k/(2*n), k%(2*n)
			smaller, _ := With(o, i, j, less)
			for _, x := range l {
				if !Has(smaller, x) {
					lost++
					less = c
					break
				}
			}
			if less != c {
				t.Fatalf("P12.3: of %v: (%d, %d) is %d, and %d has all of them, too", l, i, j, c, less)
			}
		}
	}
	if lost < 5000 {
		t.Errorf("few cells: %d", lost)
	}
}

func TestTopHasAllAndEmptyNoneP125(t *testing.T) {
	for n := range 4 {
		top, _ := Top(n)
		empty, _ := Empty(n)
		for _, x := range grid(n, []int64{least, -far - 1, -far, -1, 0, 3, far, far + 1, most}) {
			if !Has(top, x) || Has(empty, x) {
				t.Errorf("P12.5: %v: Top %v, Empty %v", x, Has(top, x), Has(empty, x))
			}
		}
	}
	g := newGrower(10)
	for n := range 65 {
		top, _ := Top(n)
		empty, _ := Empty(n)
		for range 5 {
			if x := g.point(n); !Has(top, x) || Has(empty, x) {
				t.Errorf("P12.5: %v: Top %v, Empty %v", x, Has(top, x), Has(empty, x))
			}
		}
	}
}

// laid: what Cells gives of o, laid on Top by With.
func laid(t *testing.T, o api.Oct) api.Oct {
	t.Helper()
	r, e := Top(o.N)
	for at, c := range Cells(o) {
		if e == api.OK {
			r, e = With(r, at[0], at[1], c)
		}
	}
	if e != api.OK {
		t.Fatalf("P12.5: cells of %s: %d", told(o), e)
	}
	return r
}

func TestCellsLaidOnTopP125(t *testing.T) {
	g := newGrower(11)
	for range 3000 {
		o := g.oct(g.IntN(5))
		want := o
		if o.Empty {
			want = open(o.N) // of an Empty one there are no cells
		}
		if got := laid(t, o); !Equal(got, want) || told(got) != told(want) {
			t.Fatalf("P12.5: of %s: %s", told(o), told(got))
		}
	}
	for _, o := range []api.Oct{{}, open(1), open(64), full(9), oct(t, "2: 3,2<=-FAR 1,2<=FAR 0,1<=0")} {
		if got := laid(t, o); !Equal(got, o) {
			t.Errorf("P12.5: of %s: %s", told(o), told(got))
		}
	}
}

// TestLaidInAnyOrder: what is laid on one behind another is the least of it, whichever comes first.
func TestLaidInAnyOrderP125(t *testing.T) {
	g := newGrower(12)
	for range 3000 {
		n := 1 + g.IntN(3)
		type laying struct {
			i, j int
			c    int64
		}
		list := make([]laying, 4)
		for k := range list {
			list[k] = laying{g.IntN(2 * n), g.IntN(2 * n), g.number()}
		}
		a, b := open(n), open(n)
		for k := range list {
			l, m := list[k], list[len(list)-1-k]
			a, _ = With(a, l.i, l.j, l.c)
			b, _ = With(b, over(m.j), over(m.i), m.c)
		}
		if !Equal(a, b) {
			t.Fatalf("P12.5: %v: %s one way, %s the other", list, told(a), told(b))
		}
	}
}
