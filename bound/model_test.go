package bound

import (
	"math/big"
	"testing"
)

// power: 2^62, reckoned without an int64.
func power() *big.Int { return new(big.Int).Exp(big.NewInt(2), big.NewInt(62), nil) }

// cut: what a whole number of any size counts as; nil: Inf.
func cut(n *big.Int) *big.Int {
	if n.Cmp(power()) > 0 {
		return nil
	}
	if low := power().Neg(power()); n.Cmp(low) < 0 {
		return low
	}
	return n
}

func counted(a int64) *big.Int { return cut(big.NewInt(a)) }

// spelled: the int64 that a whole number, or nil, is spelled as.
func spelled(n *big.Int) int64 {
	if n == nil {
		return inf
	}
	return n.Int64()
}

// modelledSum: what Plus and Saturates are to tell.
func modelledSum(a, b int64) (int64, bool) {
	x, y := counted(a), counted(b)
	if x == nil || y == nil {
		return inf, false
	}
	s := new(big.Int).Add(x, y)
	c := cut(s)
	return spelled(c), c == nil || c.Cmp(s) != 0
}

// modelledParts: what Half, Twice and Even are to tell. (big.Int's Div rounds down by a divisor above 0.)
func modelledParts(a int64) parted {
	x := counted(a)
	if x == nil {
		return parted{a, inf, inf, inf}
	}
	two := big.NewInt(2)
	half := new(big.Int).Div(x, two)
	twice := cut(new(big.Int).Mul(x, two))
	return parted{a, spelled(half), spelled(twice), spelled(new(big.Int).Mul(half, two))}
}

// modelledLess: what Less is to tell.
func modelledLess(a, b int64) int64 {
	x, y := counted(a), counted(b)
	if x == nil || y != nil && y.Cmp(x) < 0 {
		x = y
	}
	return spelled(x)
}

func TestSumsAgainstWholeNumbersP111(t *testing.T) {
	saturated, none, exact := 0, 0, 0
	for a, b := range pairs {
		plus, saturates := modelledSum(a, b)
		switch {
		case saturates:
			saturated++
		case plus == inf:
			none++
		default:
			exact++
		}
		if got := Plus(a, b); got != plus {
			t.Fatalf("P11.1: Plus(%d, %d): %d, want %d", a, b, got, plus)
		}
		if got := Saturates(a, b); got != saturates {
			t.Fatalf("P11.1: Saturates(%d, %d): %v", a, b, got)
		}
	}
	if min(saturated, none, exact) < 1000 {
		t.Errorf("few pairs of one sort: %d saturate, %d have no bound, %d are exact", saturated, none, exact)
	}
}

func TestPartsAgainstWholeNumbersP112(t *testing.T) {
	for _, a := range numbers() {
		parts(t, []parted{modelledParts(a)})
	}
}

func TestLessAgainstWholeNumbersP112(t *testing.T) {
	for a, b := range pairs {
		if got, want := Less(a, b), modelledLess(a, b); got != want {
			t.Fatalf("P11.2: Less(%d, %d): %d, want %d", a, b, got, want)
		}
	}
}

func TestIsAgainstWholeNumbersP111(t *testing.T) {
	for _, a := range numbers() {
		if got, want := Is(a), spelled(counted(a)) == a; got != want {
			t.Errorf("P11.1: Is(%d): %v", a, got)
		}
	}
}
