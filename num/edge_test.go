package num

import (
	"fmt"
	"testing"

	"gnomon/api"
)

func TestOrdinaryP71(t *testing.T) {
	tells(t, "Add", Add, []row{{2, 3, exact(5)}, {-2, 3, exact(1)}, {2, -3, exact(-1)}, {-2, -3, exact(-5)}, {7, 0, exact(7)}})
	tells(t, "Sub", Sub, []row{{2, 3, exact(-1)}, {-2, 3, exact(-5)}, {2, -3, exact(5)}, {-2, -3, exact(1)}, {0, 7, exact(-7)}})
	tells(t, "Mul", Mul, []row{{2, 3, exact(6)}, {-2, 3, exact(-6)}, {2, -3, exact(-6)}, {-2, -3, exact(6)}, {0, -7, exact(0)}, {-7, 0, exact(0)}})
	for _, a := range []int64{1, 5, 1 << 40} {
		if g, h := got(Neg(a)), got(Neg(-a)); g != exact(-a) || h != exact(a) {
			t.Errorf("P7.1: Neg(%d): %v; Neg(%d): %v", a, g, -a, h)
		}
	}
}

func TestSignsOfQuotientsAndRestsP71(t *testing.T) {
	tells(t, "Div", Div, []row{
		{7, 2, exact(3)}, {-7, 2, exact(-3)}, {7, -2, exact(-3)}, {-7, -2, exact(3)},
		{6, 3, exact(2)}, {-6, 3, exact(-2)}, {6, -3, exact(-2)}, {-6, -3, exact(2)},
		{2, 7, exact(0)}, {-2, 7, exact(0)}, {2, -7, exact(0)}, {-2, -7, exact(0)},
		{least, 2, exact(-1 << 62)}, {least, -2, exact(1 << 62)}, {most, 2, exact(1<<62 - 1)}, {most, -2, exact(1 - 1<<62)},
	})
	tells(t, "Rem", Rem, []row{
		{7, 2, exact(1)}, {-7, 2, exact(-1)}, {7, -2, exact(1)}, {-7, -2, exact(-1)},
		{6, 3, exact(0)}, {-6, 3, exact(0)}, {6, -3, exact(0)}, {-6, -3, exact(0)},
		{2, 7, exact(2)}, {-2, 7, exact(-2)}, {2, -7, exact(2)}, {-2, -7, exact(-2)},
		{least, 10, exact(-8)}, {least, -10, exact(-8)}, {most, 10, exact(7)}, {most, -10, exact(7)},
	})
}

func TestZeroIsToldAheadP71(t *testing.T) {
	for _, a := range edges() {
		if d, r := got(Div(a, 0)), got(Rem(a, 0)); d != zero() || r != zero() {
			t.Errorf("P7.1: %d by 0: Div %v, Rem %v", a, d, r)
		}
	}
	beside := []row{{least, -1, over()}, {least, 0, zero()}}
	tells(t, "Div", Div, append(beside, row{least, 1, exact(least)}, row{least + 1, -1, exact(most)}, row{least, -2, exact(1 << 62)}))
	tells(t, "Rem", Rem, append(beside, row{least, 1, exact(0)}, row{least + 1, -1, exact(0)}, row{least, -2, exact(0)}))
}

// Of each a the last b whose sum with it, or difference from it, is a number, and the one behind it, at either end.
func TestLastSumsAndDifferencesP71(t *testing.T) {
	for _, a := range edges() {
		if a > 0 {
			tells(t, "Add", Add, []row{{a, most - a, exact(most)}, {most - a, a, exact(most)}})
			tells(t, "Add", Add, []row{{a, most - a + 1, over()}, {most - a + 1, a, over()}})
		}
		if a < 0 {
			tells(t, "Add", Add, []row{{a, least - a, exact(least)}, {least - a, a, exact(least)}})
			tells(t, "Add", Add, []row{{a, least - a - 1, over()}, {least - a - 1, a, over()}})
		}
		if a >= 0 {
			tells(t, "Sub", Sub, []row{{a, a - most, exact(most)}, {a, a - most - 1, over()}})
		}
		if a < 0 {
			tells(t, "Sub", Sub, []row{{a, a - least, exact(least)}})
		}
		if a < -1 {
			tells(t, "Sub", Sub, []row{{a, a - least + 1, over()}})
		}
	}
}

// product: two numbers, and whether their product is still one.
func product(t *testing.T, a, b int64, want reckoned) {
	t.Helper()
	tells(t, "Mul", Mul, []row{{a, b, want}, {b, a, want}})
}

// 2^63 is a number below 0, but not above it; 2^63 - 1 is on both sides, 2^63 + 1 on neither.
func TestLastProductsP71(t *testing.T) {
	for k := 1; k < 63; k++ {
		a, b := int64(1)<<k, int64(1)<<(63-k)
		product(t, a, b, over())
		product(t, -a, -b, over())
		product(t, -a, b, exact(least))
		product(t, a, -b, exact(least))
		product(t, a, b-1, exact(most-a+1))
		product(t, -a, b+1, over())
	}
	for _, a := range []int64{7, 49, 73, 127, 337, 511, 92737, 649657} {
		b := most / a
		if b*a != most {
			t.Fatalf("%d is no factor of 2^63 - 1", a)
		}
		product(t, a, b, exact(most))
		product(t, -a, -b, exact(most))
		product(t, -a, b, exact(-most))
		product(t, a, -b, exact(-most))
	}
	for _, a := range []int64{3, 9, 19, 27, 43, 5419} {
		b := int64((1<<63 + 1) / uint64(a))
		if uint64(a)*uint64(b) != 1<<63+1 {
			t.Fatalf("%d is no factor of 2^63 + 1", a)
		}
		for _, s := range []int64{1, -1} {
			product(t, s*a, b, over())
			product(t, s*a, -b, over())
		}
	}
}

// Of each a the last b whose product with it is a number, and the one behind it, at either end.
func TestLastFactorsP71(t *testing.T) {
	for _, a := range edges() {
		if a < 2 {
			continue
		}
		up, down := most/a, least/a
		product(t, a, up, exact(a*up))
		product(t, a, up+1, over())
		product(t, a, down, exact(a*down))
		product(t, a, down-1, over())
		product(t, -a, -up, exact(a*up))
		product(t, -a, -up-1, over())
		product(t, -a, -down, exact(a*down))
		product(t, -a, -down+1, over())
	}
}

func TestRootsOf2To63P71(t *testing.T) {
	const root = 3037000499
	tells(t, "Mul", Mul, []row{
		{root, root, exact(9223372030926249001)}, {-root, -root, exact(9223372030926249001)}, {-root, root, exact(-9223372030926249001)},
		{root, root + 1, exact(9223372033963249500)}, {root + 1, -root, exact(-9223372033963249500)},
		{root + 1, root + 1, over()}, {-root - 1, -root - 1, over()}, {-root - 1, root + 1, over()},
		{root - 1, root + 1, exact(9223372030926249000)}, {root, root + 2, over()},
	})
}

// Where a product's lower half alone would be taken for it.
func TestUpperHalvesP71(t *testing.T) {
	for k := 32; k < 63; k++ {
		a := int64(1) << k
		for _, b := range []int64{1 << 32, 1<<32 + 1, 1<<62 + 1, 3 << 61} {
			product(t, a, b, over())
			product(t, -a, b, over())
			product(t, a, -b, over())
			product(t, -a, -b, over())
		}
	}
}

func TestExamplesP71(t *testing.T) {
	n, w := Neg(least)
	if n != 0 || w != api.WrongOver {
		t.Errorf("P7.1: Neg(-2^63): %d, %d", n, w)
	}
	tells(t, "Div", Div, []row{{-7, 2, exact(-3)}, {least, -1, over()}})
	tells(t, "Rem", Rem, []row{{-7, 2, exact(-1)}, {least, -1, over()}})
	tells(t, "Mul", Mul, []row{{1 << 62, 2, over()}, {-1 << 62, 2, exact(least)}})
}

// What goes wrong is told by the numbers that run tells it by, and beside it stands 0.
func TestWhatIsToldBesideP71(t *testing.T) {
	for _, c := range []struct {
		what string
		got  func() (int64, int)
		want string
	}{
		{"a number", func() (int64, int) { return Add(1, 2) }, "3 0"},
		{"Neg", func() (int64, int) { return Neg(least) }, "0 1"},
		{"Add above", func() (int64, int) { return Add(most, 2) }, "0 1"},
		{"Add below", func() (int64, int) { return Add(least, -2) }, "0 1"},
		{"Sub above", func() (int64, int) { return Sub(most, -2) }, "0 1"},
		{"Sub below", func() (int64, int) { return Sub(least, 2) }, "0 1"},
		{"Mul above", func() (int64, int) { return Mul(most, 3) }, "0 1"},
		{"Mul below", func() (int64, int) { return Mul(most, -3) }, "0 1"},
		{"Mul far above", func() (int64, int) { return Mul(most, most) }, "0 1"},
		{"Div over", func() (int64, int) { return Div(least, -1) }, "0 1"},
		{"Rem over", func() (int64, int) { return Rem(least, -1) }, "0 1"},
		{"Div by 0", func() (int64, int) { return Div(7, 0) }, "0 2"},
		{"Rem by 0", func() (int64, int) { return Rem(7, 0) }, "0 2"},
	} {
		if g := fmt.Sprint(c.got()); g != c.want {
			t.Errorf("P7.1: %s: %s, want %s", c.what, g, c.want)
		}
	}
}
