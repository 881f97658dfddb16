package bound

import (
	"math/big"
	"testing"
)

// asBound: whether a is a bound, told without Is.
func asBound(a int64) bool { return a == inf || -top <= a && a <= top }

func TestEveryAnswerIsABoundP113(t *testing.T) {
	for a, b := range pairs {
		for _, c := range []int64{Plus(a, b), Less(a, b), Half(a), Twice(a), Even(a)} {
			if !asBound(c) || !Is(c) {
				t.Fatalf("P11.3: of %d and %d an answer is %d, no bound", a, b, c)
			}
		}
	}
}

func TestEitherWayP113(t *testing.T) {
	for a, b := range pairs {
		if p, q := Plus(a, b), Plus(b, a); p != q {
			t.Fatalf("P11.3: Plus(%d, %d): %d; the other way round: %d", a, b, p, q)
		}
	}
}

func TestNeverBelowTheSumP113(t *testing.T) {
	for a, b := range pairs {
		p := Plus(a, b)
		if p == inf {
			continue
		}
		x, y := counted(a), counted(b)
		if x == nil || y == nil {
			t.Fatalf("P11.3: Plus(%d, %d): %d, below Inf", a, b, p)
		}
		if big.NewInt(p).Cmp(new(big.Int).Add(x, y)) < 0 {
			t.Fatalf("P11.3: Plus(%d, %d): %d, below the sum", a, b, p)
		}
	}
}

// The rest in order: with what is greater, or the same, a sum isn't less.
func TestPlusGrowsP113(t *testing.T) {
	sorted := edges()
	for _, b := range append(edges(), drawn(5, 500)...) {
		for i := range sorted[1:] {
			if p, q := Plus(sorted[i], b), Plus(sorted[i+1], b); p > q {
				t.Fatalf("P11.3: Plus(%d, %d) is %d, Plus(%d, %d) is %d", sorted[i], b, p, sorted[i+1], b, q)
			}
		}
	}
	l, m, n := drawn(6, 50000), drawn(7, 50000), drawn(8, 50000)
	for i, b := range n {
		a, c := min(l[i], m[i]), max(l[i], m[i])
		if Plus(a, b) > Plus(c, b) {
			t.Fatalf("P11.3: Plus(%d, %d) is above Plus(%d, %d)", a, b, c, b)
		}
	}
}

// three puts a, b and c together both ways, and says whether a sum saturates by it.
func three(a, b, c int64) (left, right int64, saturates bool) {
	ab, bc := Plus(a, b), Plus(b, c)
	saturates = Saturates(a, b) || Saturates(b, c) || Saturates(ab, c) || Saturates(a, bc)
	return Plus(ab, c), Plus(a, bc), saturates
}

func TestThreeBothWaysP113(t *testing.T) {
	same, unlike, alike := 0, 0, 0
	hold := func(a, b, c int64) {
		left, right, saturates := three(a, b, c)
		switch {
		case saturates && left == right:
			alike++
		case saturates:
			unlike++
		default:
			same++
			if left != right {
				t.Fatalf("P11.3: of %d, %d and %d: %d one way, %d the other", a, b, c, left, right)
			}
		}
	}
	all := few()
	for _, a := range all {
		for _, b := range all {
			for _, c := range all {
				hold(a, b, c)
			}
		}
	}
	l, m, n := drawn(9, 50000), drawn(10, 50000), drawn(11, 50000)
	for i := range l {
		hold(l[i], m[i], n[i])
	}
	if min(same, unlike, alike) < 1000 {
		t.Errorf("few triples of one sort: %d don't saturate; of those that do %d are the same both ways, %d aren't", same, alike, unlike)
	}
}

func TestThreeByHandP113(t *testing.T) {
	for _, r := range []struct {
		a, b, c, left, right int64
		saturates            bool
	}{
		{1, 2, 3, 6, 6, false}, {-1, 2, -3, -2, -2, false}, {top, -top, top, top, top, false}, {-top, top, -top, -top, -top, false},
		{inf, -5, 7, inf, inf, false}, {3, inf, -top, inf, inf, false}, {-top, 1, inf, inf, inf, false}, {top / 2, top / 4, top / 4, top, top, false},
		{top, 1, -1, inf, top, true}, {-1, 1, top, top, inf, true}, {-top, -1, 1, 1 - top, -top, true}, {top, top, -top, inf, top, true}, {-top, -top, top, 0, -top, true},
		{top, 1, 1, inf, inf, true}, {-top, -1, -1, -top, -top, true}, {inf, -top, -1, inf, inf, true}, {top, 1, least, inf, 1, true},
	} {
		left, right, saturates := three(r.a, r.b, r.c)
		if left != r.left || right != r.right || saturates != r.saturates {
			t.Errorf("P11.3: of %d, %d and %d: %d, %d, %v; want %d, %d, %v", r.a, r.b, r.c, left, right, saturates, r.left, r.right, r.saturates)
		}
	}
}
