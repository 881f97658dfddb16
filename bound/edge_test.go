package bound

import "testing"

func TestIsP111(t *testing.T) {
	for _, r := range []struct {
		a    int64
		want bool
	}{
		{0, true}, {1, true}, {-1, true}, {12345, true}, {-12345, true},
		{top, true}, {top - 1, true}, {top + 1, false}, {top + 2, false},
		{-top, true}, {-top + 1, true}, {-top - 1, false}, {-top - 2, false},
		{inf, true}, {inf - 1, false}, {inf - 2, false}, {-inf, false}, {-inf + 1, false}, {least, false},
		{top / 2, true}, {-top / 2, true}, {top + top/2, false}, {-top - top/2, false},
	} {
		if got := Is(r.a); got != r.want {
			t.Errorf("P11.1: Is(%d): %v", r.a, got)
		}
	}
}

// summed: two numbers, what Plus tells of them, and Saturates.
type summed struct {
	a, b, plus int64
	saturates  bool
}

// sums holds Plus and Saturates against rows, either number first.
func sums(t *testing.T, rows []summed) {
	t.Helper()
	for _, r := range rows {
		for _, p := range [][2]int64{{r.a, r.b}, {r.b, r.a}} {
			if got := Plus(p[0], p[1]); got != r.plus {
				t.Errorf("P11.1: Plus(%d, %d): %d, want %d", p[0], p[1], got, r.plus)
			}
			if got := Saturates(p[0], p[1]); got != r.saturates {
				t.Errorf("P11.1: Saturates(%d, %d): %v", p[0], p[1], got)
			}
		}
	}
}

func TestOrdinarySumsP111(t *testing.T) {
	sums(t, []summed{
		{3, 4, 7, false}, {-3, 4, 1, false}, {3, -4, -1, false}, {-3, -4, -7, false}, {0, 0, 0, false}, {0, 5, 5, false}, {5, -5, 0, false},
		{1 << 40, 1 << 41, 3 << 40, false}, {-1 << 40, 1 << 41, 1 << 40, false},
	})
}

func TestSumsAboutTheLimitsP111(t *testing.T) {
	sums(t, []summed{
		{top, 0, top, false}, {top - 1, 1, top, false}, {top / 2, top / 2, top, false}, {top, -1, top - 1, false}, {top - 5, 5, top, false},
		{top, 1, inf, true}, {top - 1, 2, inf, true}, {top / 2, top/2 + 1, inf, true}, {top - 5, 6, inf, true}, {top, top, inf, true}, {top, top - 1, inf, true}, {top - 1, top - 1, inf, true},
		{-top, 0, -top, false}, {-top + 1, -1, -top, false}, {-top / 2, -top / 2, -top, false}, {-top, 1, -top + 1, false}, {-top + 5, -5, -top, false},
		{-top, -1, -top, true}, {-top + 1, -2, -top, true}, {-top / 2, -top/2 - 1, -top, true}, {-top + 5, -6, -top, true}, {-top, -top, -top, true}, {-top, -top + 1, -top, true}, {-top + 1, -top + 1, -top, true},
		{top, -top, 0, false}, {top - 1, -top, -1, false}, {top, -top + 1, 1, false},
	})
}

func TestSumsOfInfP111(t *testing.T) {
	var rows []summed
	for _, b := range []int64{0, 1, -1, -5, 5, top, top - 1, -top, -top + 1, inf, top + 1, inf - 1, -top - 1, least} {
		rows = append(rows, summed{inf, b, inf, false})
	}
	sums(t, rows)
}

func TestSumsOfNoBoundsP111(t *testing.T) {
	sums(t, []summed{
		{top + 1, 0, inf, false}, {top + 1, -1, inf, false}, {top + 1, -top, inf, false}, {top + 1, -top - 1, inf, false}, {top + 1, top + 1, inf, false}, {inf - 1, -5, inf, false}, {inf - 1, inf - 1, inf, false}, {inf - 1, least, inf, false}, {top + top/2, -top, inf, false},
		{-top - 1, 0, -top, false}, {-top - 1, 1, -top + 1, false}, {-top - 1, -1, -top, true}, {-top - 1, top, 0, false}, {-top - 1, -top - 1, -top, true}, {-top - 1, -top, -top, true},
		{least, 0, -top, false}, {least, 5, 5 - top, false}, {least, 1, 1 - top, false}, {least, -1, -top, true}, {least, top, 0, false}, {least, least, -top, true}, {least, -top, -top, true}, {-inf, 7, 7 - top, false}, {-inf, -inf, -top, true}, {least + 1, least, -top, true},
	})
}

// parted: a number, and what Half, Twice and Even tell of it.
type parted struct{ a, half, twice, even int64 }

func parts(t *testing.T, rows []parted) {
	t.Helper()
	for _, r := range rows {
		if got := (parted{r.a, Half(r.a), Twice(r.a), Even(r.a)}); got != r {
			t.Errorf("P11.2: of %d Half, Twice and Even: %v, want %v", r.a, got, r)
		}
	}
}

func TestOrdinaryPartsP112(t *testing.T) {
	parts(t, []parted{
		{0, 0, 0, 0}, {1, 0, 2, 0}, {-1, -1, -2, -2}, {2, 1, 4, 2}, {-2, -1, -4, -2}, {3, 1, 6, 2}, {-3, -2, -6, -4},
		{4, 2, 8, 4}, {-4, -2, -8, -4}, {5, 2, 10, 4}, {-5, -3, -10, -6}, {1001, 500, 2002, 1000}, {-1001, -501, -2002, -1002},
	})
}

func TestPartsAboutTheLimitsP112(t *testing.T) {
	const half = top / 2
	parts(t, []parted{
		{half, half / 2, top, half}, {half + 1, half / 2, inf, half}, {half - 1, half/2 - 1, top - 2, half - 2}, {half + 2, half/2 + 1, inf, half + 2},
		{-half, -half / 2, -top, -half}, {-half - 1, -half/2 - 1, -top, -half - 2}, {-half + 1, -half / 2, -top + 2, -half}, {-half + 2, -half/2 + 1, -top + 4, -half + 2},
		{top, half, inf, top}, {top - 1, half - 1, inf, top - 2}, {top - 2, half - 1, inf, top - 2},
		{-top, -half, -top, -top}, {-top + 1, -half, -top, -top}, {-top + 2, -half + 1, -top, -top + 2},
	})
}

func TestPartsOfInfAndOfNoBoundsP112(t *testing.T) {
	for _, a := range []int64{inf, inf - 1, inf - 2, top + 1, top + 2, top + top/2} {
		parts(t, []parted{{a, inf, inf, inf}})
	}
	for _, a := range []int64{least, least + 1, -inf + 1, -top - 1, -top - 2, -top - top/2} {
		parts(t, []parted{{a, -top / 2, -top, -top}})
	}
}

func TestLessP112(t *testing.T) {
	for _, r := range []struct{ a, b, want int64 }{
		{3, 4, 3}, {-3, -4, -4}, {-3, 4, -3}, {0, 1, 0}, {0, -1, -1},
		{0, 0, 0}, {7, 7, 7}, {-7, -7, -7}, {top, top, top}, {-top, -top, -top}, {inf, inf, inf},
		{inf, 3, 3}, {inf, -3, -3}, {inf, 0, 0}, {inf, top, top}, {inf, top - 1, top - 1}, {inf, -top, -top}, {inf, least, -top}, {inf, top + 1, inf}, {inf, inf - 1, inf},
		{top, top - 1, top - 1}, {-top, -top + 1, -top}, {top, -top, -top},
		{top + 1, top, top}, {top + 1, top + 2, inf}, {top + 1, 5, 5}, {top + 1, inf - 1, inf}, {inf - 1, -top, -top}, {top + 1, top + 1, inf},
		{least, least, -top}, {least, -top, -top}, {-top - 1, -top, -top}, {-top - 1, -top - 2, -top}, {-top - 1, -top + 1, -top}, {least, 3, -top}, {least, top + 1, -top}, {-inf, least, -top},
	} {
		for _, p := range [][2]int64{{r.a, r.b}, {r.b, r.a}} {
			if got := Less(p[0], p[1]); got != r.want {
				t.Errorf("P11.2: Less(%d, %d): %d, want %d", p[0], p[1], got, r.want)
			}
		}
	}
}

func TestExamples(t *testing.T) {
	sums(t, []summed{{top, 1, inf, true}, {-top, -1, -top, true}, {top, -1, top - 1, false}, {inf, -5, inf, false}})
	if h, e, f := Half(-3), Even(-3), Even(5); h != -2 || e != -4 || f != 4 {
		t.Errorf("P11.2: Half(-3): %d; Even(-3): %d; Even(5): %d", h, e, f)
	}
	if Is(top + 1) {
		t.Error("P11.1: 2^62 + 1 is told to be a bound")
	}
}
