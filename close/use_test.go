package close

import (
	"fmt"
	"testing"

	"gnomon/api"
	"gnomon/dbm"
)

// closed: Close of what may be.
func closed(t *testing.T, o api.Oct) (api.Oct, bool) {
	t.Helper()
	c, saturated, err := Close(o)
	if err != api.OK || dbm.Check(c) != api.OK || c.N != o.N {
		t.Fatalf("Close of %s: %s, %d", told(o), told(c), err)
	}
	return c, saturated
}

// had: those of the points that o has.
func had(o api.Oct, all [][]int64) [][]int64 {
	var l [][]int64
	for _, x := range all {
		if dbm.Has(o, x) {
			l = append(l, x)
		}
	}
	return l
}

// TestSamePoints: of octagons and points of all sorts, sums that saturate or not.
func TestSamePointsP133(t *testing.T) {
	g := newGrower(2)
	far := append(few(), least, least+1, most-1, most)
	points := [][][]int64{grid(0, nil), grid(1, far), append(grid(2, upTo(8)), grid(2, far)...), grid(3, upTo(4))}
	seen := map[string]int{}
	for range 1500 {
		n := g.IntN(4)
		o := g.any(n)
		c, saturated := closed(t, o)
		for _, x := range points[n] {
			has := dbm.Has(o, x)
			if dbm.Has(c, x) != has {
				t.Fatalf("P13.3: whether %s has %v: %v; its Close %s: %v", told(o), x, has, told(c), !has)
			}
			seen[fmt.Sprintf("had %v, saturated %v", has, saturated)]++
		}
	}
	for _, s := range []string{"had true, saturated true", "had true, saturated false", "had false, saturated true", "had false, saturated false"} {
		if seen[s] < 5000 {
			t.Errorf("few of one sort: %v", seen)
		}
	}
}

// TestPointsStay: those around which an octagon was laid, however far away and of however many variables.
func TestPointsStayP133(t *testing.T) {
	g := newGrower(3)
	seen := map[bool]int{}
	for range 2000 {
		n := 1 + g.IntN(8)
		o, l := g.around(n, g.mixed)
		c, saturated := closed(t, o)
		seen[saturated]++
		if len(had(o, l)) != len(l) || len(had(c, l)) != len(l) {
			t.Fatalf("P13.3: of %v: %s has %d, its Close %s has %d", l, told(o), len(had(o, l)), told(c), len(had(c, l)))
		}
	}
	if min(seen[false], seen[true]) < 100 {
		t.Errorf("few of one sort: %v", seen)
	}
}

func TestCloseIsClosedP133(t *testing.T) {
	g := newGrower(4)
	seen := map[bool]int{}
	for range 30000 {
		o := g.any(g.IntN(5))
		c, saturated := closed(t, o)
		if saturated {
			continue
		}
		seen[c.Empty]++
		again, _ := closed(t, c)
		if is, err := Closed(c); !is || err != api.OK || told(again) != told(c) {
			t.Fatalf("P13.3: of %s: %s, which isn't closed: its Close is %s", told(o), told(c), told(again))
		}
	}
	if min(seen[false], seen[true]) < 1000 {
		t.Errorf("few of one sort: %v", seen)
	}
}

// tight holds Close of o against the points that o has from -b to b: each of its cells must be met at one of them, and one that is Inf be left far behind.
func tight(t *testing.T, o api.Oct, all [][]int64, b int64) (empty, open bool) {
	t.Helper()
	c, saturated := closed(t, o)
	if saturated {
		t.Fatalf("P13.1: %s saturates", told(o))
	}
	p, _ := dbm.Points(o.N, had(o, all))
	if c.Empty != p.Empty {
		t.Fatalf("P13.4: %s: its Close is Empty: %v; it has no point: %v", told(o), c.Empty, p.Empty)
	}
	for k := range c.M {
		switch {
		case c.M[k] == inf && p.M[k] >= b/2:
			open = true
		case c.M[k] != p.M[k]:
			t.Fatalf("P13.4: %s: its Close is %s; its points tell %s", told(o), told(c), told(p))
		}
	}
	return c.Empty, open
}

func TestEachCellIsMetP134(t *testing.T) {
	g := newGrower(5)
	small := func() int64 { return g.Int64N(9) - 3 }
	smaller := func() int64 { return g.Int64N(6) - 2 }
	seen := map[string]int{}
	hold := func(o api.Oct, all [][]int64, b int64) {
		empty, open := tight(t, o, all, b)
		seen[fmt.Sprintf("empty %v, open %v", empty, open)]++
	}
	one, two, three := grid(1, upTo(40)), grid(2, upTo(30)), grid(3, upTo(12))
	for range 1000 {
		hold(g.sparse(1, small), one, 40)
		hold(g.sparse(2, small), two, 30)
		o, _ := g.around(2, small)
		hold(o, two, 30)
	}
	for range 150 {
		hold(g.sparse(3, smaller), three, 12)
		o, _ := g.around(3, smaller)
		hold(o, three, 12)
	}
	for _, s := range []string{"empty false, open false", "empty false, open true", "empty true, open false"} {
		if seen[s] < 100 {
			t.Errorf("few of one sort: %v", seen)
		}
	}
}

// TestOnePointSetOneClose: octagons of two variables with the same points of whole numbers, from many cells that are unlike.
func TestOnePointSetOneCloseP134(t *testing.T) {
	all := grid(2, upTo(4))
	closes := map[string]string{}
	same := 0
	for cells := range 1 << 14 {
		at := func(k, n int) int64 { return int64(cells >> k % n) }
		o := of(2, 0, 1, 2+at(0, 4), 1, 0, 2-at(2, 4), 2, 3, 3+at(4, 2), 3, 2, 1+at(5, 2), 0, 2, at(6, 4)-2, 2, 0, 3-at(8, 4), 0, 3, at(10, 4)-1, 1, 2, 3-at(12, 4))
		points := fmt.Sprint(had(o, all))
		c, saturated := closed(t, o)
		if saturated {
			t.Fatalf("P13.1: %s saturates", told(o))
		}
		was, ok := closes[points]
		if ok {
			same++
		}
		if closes[points] = told(c); ok && was != told(c) {
			t.Fatalf("P13.4: of %s: %s; of another one with the points %s: %s", told(o), told(c), points, was)
		}
	}
	if len(closes) < 50 || same < 5000 {
		t.Errorf("few sorts: %d sets of points, %d octagons beside them", len(closes), same)
	}
}

// moved: an octagon of the points of o, put off by x.
func moved(o api.Oct, x []int64) api.Oct {
	if o.Empty {
		return o
	}
	side := func(i int) int64 { return x[i/2] * int64(1-i%2*2) }
	return matrix(o.N, func(i, j int) int64 {
		if c := cell(o, i, j); c != inf {
			return c + side(i) - side(j)
		}
		return inf
	})
}

// TestMovedFarAway: what holds of small numbers holds of great ones, as long as nothing saturates.
func TestMovedFarAwayP134(t *testing.T) {
	g := newGrower(6)
	seen := map[bool]int{}
	for range 10000 {
		n := 1 + g.IntN(4)
		o := g.sparse(n, g.near)
		x := make([]int64, n)
		for k := range x {
			x[k] = (int64(g.Uint64()) >> 4) + g.near()
		}
		c, saturated := closed(t, o)
		d, moving := closed(t, moved(o, x))
		if saturated || moving {
			continue
		}
		seen[c.Empty]++
		if want := moved(c, x); told(d) != told(want) {
			t.Fatalf("P13.4: of %s, put off by %v: %s; want %s", told(o), x, told(d), told(want))
		}
	}
	if min(seen[false], seen[true]) < 1000 {
		t.Errorf("few of one sort: %v", seen)
	}
}

// notAbove: whether a is Empty, or no cell of it is above that of b, that isn't.
func notAbove(a, b api.Oct) bool {
	if a.Empty || b.Empty {
		return a.Empty
	}
	for k := range a.M {
		if a.M[k] > b.M[k] {
			return false
		}
	}
	return true
}

func TestNoCellRisesP135(t *testing.T) {
	g := newGrower(7)
	for range 20000 {
		o := g.any(g.IntN(5))
		if c, _ := closed(t, o); !notAbove(c, o) {
			t.Fatalf("P13.5: of %s: %s", told(o), told(c))
		}
	}
}

func TestLesserCellsLesserCloseP135(t *testing.T) {
	g := newGrower(8)
	seen := map[string]int{}
	for range 20000 {
		b := g.any(1 + g.IntN(4))
		a := b
		for range 1 + g.IntN(3) {
			if i, j := g.IntN(2*b.N), g.IntN(2*b.N); i != j {
				a, _ = dbm.With(a, i, j, g.mixed())
			}
		}
		c, first := closed(t, a)
		d, second := closed(t, b)
		if first || second {
			seen["saturated"]++
			continue
		}
		seen[fmt.Sprintf("empty %v, %v", c.Empty, d.Empty)]++
		if !notAbove(c, d) {
			t.Fatalf("P13.5: %s is within %s; %s isn't within %s", told(a), told(b), told(c), told(d))
		}
	}
	for _, s := range []string{"empty false, false", "empty true, false", "empty true, true"} {
		if seen[s] < 1000 {
			t.Errorf("few of one sort: %v", seen)
		}
	}
}
