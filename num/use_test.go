package num

import (
	"testing"

	"gnomon/api"
)

// size64: how far a is from 0.
func size64(a int64) uint64 {
	if a < 0 {
		return uint64(-(a + 1)) + 1
	}
	return uint64(a)
}

func TestAddEitherWayP73(t *testing.T) {
	for a, b := range pairs {
		if g, h := got(Add(a, b)), got(Add(b, a)); g != h {
			t.Fatalf("P7.3: Add(%d, %d): %v; the other way round: %v", a, b, g, h)
		}
	}
}

func TestSubIsAddOfNegP73(t *testing.T) {
	both := 0
	for a, b := range pairs {
		sub, neg := got(Sub(a, b)), got(Neg(b))
		if neg.wrong != api.WrongNone {
			continue
		}
		add := got(Add(a, neg.num))
		if sub.wrong != api.WrongNone || add.wrong != api.WrongNone {
			continue
		}
		both++
		if sub != add {
			t.Fatalf("P7.3: Sub(%d, %d): %v; Add of its negative: %v", a, b, sub, add)
		}
	}
	if both < 50000 {
		t.Errorf("only %d pairs went right", both)
	}
}

func TestQuotientAndRestP73(t *testing.T) {
	both := 0
	for a, b := range pairs {
		div, rem := got(Div(a, b)), got(Rem(a, b))
		if div.wrong != rem.wrong {
			t.Fatalf("P7.1: %d by %d: Div %v, Rem %v", a, b, div, rem)
		}
		if div.wrong != api.WrongNone {
			continue
		}
		both++
		times := got(Mul(div.num, b))
		if times.wrong != api.WrongNone || got(Add(times.num, rem.num)) != exact(a) {
			t.Fatalf("P7.3: %d by %d: Div %v times it is %v, and Rem %v doesn't make it", a, b, div, times, rem)
		}
		if size64(rem.num) >= size64(b) {
			t.Fatalf("P7.3: Rem(%d, %d): %v, not below it in size", a, b, rem)
		}
		if rem.num < 0 && a > 0 || rem.num > 0 && a < 0 {
			t.Fatalf("P7.3: Rem(%d, %d): %v, of the other sign", a, b, rem)
		}
	}
	if both < 50000 {
		t.Errorf("only %d pairs went right", both)
	}
}

func TestNotIsTheContraryP73(t *testing.T) {
	for op := api.OpLt; op <= api.OpGe; op++ {
		if not := Not(Not(op)); not != op {
			t.Errorf("P7.3: Not of Not of %d: %d", op, not)
		}
		for a, b := range pairs {
			if Cmp(op, a, b) == Cmp(Not(op), a, b) {
				t.Fatalf("P7.3: of %d and %d op %d holds just where %d does", a, b, op, Not(op))
			}
		}
	}
}
