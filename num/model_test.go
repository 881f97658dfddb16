package num

import (
	"math/big"
	"testing"
)

// fits: what is told of a whole number of any size.
func fits(n *big.Int) reckoned {
	if !n.IsInt64() {
		return over()
	}
	return exact(n.Int64())
}

// modelled: what an operation is to tell, reckoned with whole numbers of any size.
func modelled(name string, a, b int64) reckoned {
	x, y, n := big.NewInt(a), big.NewInt(b), new(big.Int)
	switch name {
	case "Add":
		return fits(n.Add(x, y))
	case "Sub":
		return fits(n.Sub(x, y))
	case "Mul":
		return fits(n.Mul(x, y))
	}
	if b == 0 {
		return zero()
	}
	quotient := fits(n.Quo(x, y))
	if name == "Div" || quotient == over() {
		return quotient
	}
	return fits(n.Sub(x, n.Mul(n, y)))
}

func TestAgainstWholeNumbersP71(t *testing.T) {
	for _, o := range operations() {
		for a, b := range pairs {
			if g, want := got(o.of(a, b)), modelled(o.name, a, b); g != want {
				t.Fatalf("P7.1: %s(%d, %d): %v, want %v", o.name, a, b, g, want)
			}
		}
	}
}

func TestNegAgainstWholeNumbersP71(t *testing.T) {
	for _, a := range append(edges(), drawn(3, 50000)...) {
		if g, want := got(Neg(a)), fits(new(big.Int).Neg(big.NewInt(a))); g != want {
			t.Fatalf("P7.1: Neg(%d): %v, want %v", a, g, want)
		}
	}
}

// All pairs of numbers of few bits, times powers of two: what overflows by little.
func TestShiftedAgainstWholeNumbersP71(t *testing.T) {
	for k := range 61 {
		for i := int64(-9); i <= 9; i++ {
			for j := int64(-9); j <= 9; j++ {
				a, b := i<<k+j, j<<(60-k)+i
				for _, o := range operations() {
					if g, want := got(o.of(a, b)), modelled(o.name, a, b); g != want {
						t.Fatalf("P7.1: %s(%d, %d): %v, want %v", o.name, a, b, g, want)
					}
				}
			}
		}
	}
}
