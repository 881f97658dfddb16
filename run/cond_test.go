package run

import (
	"fmt"
	"strings"
	"testing"
)

func TestConditions(t *testing.T) {
	cut(t, []row{
		{"assume true;", nil, "R0 | / H1 |"}, {"assume false;", nil, "R0 | / H1 |"},
		{"assume true; skip;", nil, "R0 | / R1 | / H2 |"}, {"assume false; skip;", nil, "R0 | / H1 |"},
		{"assume 1 < 2; skip;", nil, "R0 | / R1 | / H2 |"}, {"assume 2 < 1; skip;", nil, "R0 | / H1 |"},
		{"var x; assume x + 1 < x + 2; skip;", nil, "R0 | 0 / R1 | 0 / R2 | 0 / R3 | 0 / H4 | 0"},
		{"assume input < input; skip;", script(3, 4), "R0 | / R1 i3 | / R2 i3 i4 | / R3 i3 i4 | / H4 i3 i4 |"},
		{"assume input < input; skip;", script(4, 3), "R0 | / R1 i4 | / R2 i4 i3 | / H3 i4 i3 |"},
		{"assume 1 / 0 < 1; skip;", nil, "R0 | / Z1 |"}, {"assume 1 < 1 / 0; skip;", nil, "R0 | / Z1 |"},
	})
}

// TestComparisons: each op, on both sides of where it begins to hold.
func TestComparisons(t *testing.T) {
	for _, r := range []struct{ op, less, same, more string }{
		{"<", "+", "-", "-"}, {"<=", "+", "+", "-"}, {"==", "-", "+", "-"}, {"!=", "+", "-", "+"}, {">", "-", "-", "+"}, {">=", "-", "+", "+"},
	} {
		for _, c := range []struct {
			a, b int64
			want string
		}{
			{1, 2, r.less}, {2, 2, r.same}, {2, 1, r.more}, {-2, -1, r.less}, {-1, -1, r.same}, {-1, -2, r.more},
			{least, most, r.less}, {least, least, r.same}, {most, most, r.same}, {most, least, r.more}, {most - 1, most, r.less}, {-1, 0, r.less}, {1, 0, r.more},
		} {
			end := "H4"
			if c.want == "-" {
				end = "A4"
			}
			tells(t, []row{{"assert input " + r.op + " input;", script(c.a, c.b), fmt.Sprintf("%s i%d i%d %s |", end, c.a, c.b, c.want)}})
		}
	}
}

// TestSecondPart: it is asked only where the first one doesn't tell, and what it does then is done.
func TestSecondPart(t *testing.T) {
	cut(t, []row{
		{"assert true && true;", nil, "R0 | / R1 | / R2 | / H3 + |"}, {"assert true && false;", nil, "R0 | / R1 | / R2 | / A3 - |"},
		{"assert false && true;", nil, "R0 | / R1 | / A2 - |"}, {"assert false && false;", nil, "R0 | / R1 | / A2 - |"},
		{"assert true || true;", nil, "R0 | / R1 | / H2 + |"}, {"assert true || false;", nil, "R0 | / R1 | / H2 + |"},
		{"assert false || true;", nil, "R0 | / R1 | / R2 | / H3 + |"}, {"assert false || false;", nil, "R0 | / R1 | / R2 | / A3 - |"},
		{"assert true && 1 / 0 == 1;", nil, "R0 | / R1 | / Z2 |"}, {"assert false && 1 / 0 == 1;", nil, "R0 | / R1 | / A2 - |"},
		{"assert true || 1 / 0 == 1;", nil, "R0 | / R1 | / H2 + |"}, {"assert false || 1 / 0 == 1;", nil, "R0 | / R1 | / Z2 |"},
		{"assert 1 / 0 == 1 || true;", nil, "R0 | / Z1 |"}, {"assert 1 / 0 == 1 && false;", nil, "R0 | / Z1 |"},
		{"assert true && input == 1;", script(1), "R0 | / R1 | / R2 i1 | / R3 i1 | / H4 i1 + |"}, {"assert false && input == 1;", script(1), "R0 | / R1 | / A2 - |"},
		{"assert true || input == 1;", script(1), "R0 | / R1 | / H2 + |"}, {"assert false || input == 2;", script(1), "R0 | / R1 | / R2 i1 | / R3 i1 | / A4 i1 - |"},
		{"assert input == 1 || input == 2;", script(3, 2), "R0 | / R1 i3 | / R2 i3 | / R3 i3 i2 | / R4 i3 i2 | / H5 i3 i2 + |"},
		{"assert input == 1 || input == 2;", script(1, 2), "R0 | / R1 i1 | / R2 i1 | / H3 i1 + |"},
		{"assert input == 1 && input == 2;", script(1, 2), "R0 | / R1 i1 | / R2 i1 | / R3 i1 i2 | / R4 i1 i2 | / H5 i1 i2 + |"},
		{"assert input == 1 && input == 2;", script(3, 2), "R0 | / R1 i3 | / R2 i3 | / A3 i3 - |"},
		{"assert false && true || true;", nil, "R0 | / R1 | / R2 | / H3 + |"}, {"assert true || true && false;", nil, "R0 | / R1 | / H2 + |"},
		{"assert [true || false] && false;", nil, "R0 | / R1 | / R2 | / A3 - |"}, {"assert false && [true || true];", nil, "R0 | / R1 | / A2 - |"},
	})
}

// TestNot: it is no step, below and above all others.
func TestNot(t *testing.T) {
	cut(t, []row{
		{"assert !true;", nil, "R0 | / R1 | / A2 - |"}, {"assert !false;", nil, "R0 | / R1 | / H2 + |"},
		{"assert !!true;", nil, "R0 | / R1 | / H2 + |"}, {"assert !!!true;", nil, "R0 | / R1 | / A2 - |"},
		{"assert !2 < 1;", nil, "R0 | / R1 | / H2 + |"}, {"assert !1 < 2;", nil, "R0 | / R1 | / A2 - |"},
		{"assert ![true && true];", nil, "R0 | / R1 | / R2 | / A3 - |"}, {"assert ![false && true];", nil, "R0 | / R1 | / H2 + |"},
		{"assert ![true || true];", nil, "R0 | / R1 | / A2 - |"}, {"assert ![false || false];", nil, "R0 | / R1 | / R2 | / H3 + |"},
		{"assert !true && false;", nil, "R0 | / R1 | / A2 - |"}, {"assert !false && !false;", nil, "R0 | / R1 | / R2 | / H3 + |"},
		{"assert !true || !true;", nil, "R0 | / R1 | / R2 | / A3 - |"}, {"assert !false || !true;", nil, "R0 | / R1 | / H2 + |"},
		{"assert !1 / 0 < 1;", nil, "R0 | / Z1 |"}, {"assert !input < 1;", nil, "H0 |"},
	})
}

// TestAllConditions: all of three parts, each true or false, put together in all ways, against Go's own.
func TestAllConditions(t *testing.T) {
	asked := 0
	part := func(n int) (string, func() bool) {
		return []string{"false", "true", "!true", "!false"}[n], func() bool { asked++; return n%2 == 1 }
	}
	join := func(n int, s, u string, v, w func() bool) (string, func() bool) {
		holds := func() bool { return v() && w() }
		sign := " && "
		if n%2 == 1 {
			sign, holds = " || ", func() bool { return v() || w() }
		}
		if n > 1 {
			return "![" + s + sign + u + "]", func() bool { return !holds() }
		}
		return "[" + s + sign + u + "]", holds
	}
	for n := range 4 * 4 * 4 * 4 * 4 * 2 {
		a, v := part(n % 4)
		b, w := part(n / 4 % 4)
		c, z := part(n / 16 % 4)
		first, second := n/64%4, n/256%4
		var s string
		var holds func() bool
		if n/1024 == 0 {
			d, y := join(first, a, b, v, w)
			s, holds = join(second, d, c, y, z)
		} else {
			d, y := join(first, b, c, w, z)
			s, holds = join(second, a, d, v, y)
		}
		asked = 0
		want := "H%d + |"
		if !holds() {
			want = "A%d - |"
		}
		tells(t, []row{{"assert " + s + ";", nil, fmt.Sprintf(want, asked+1)}})
	}
}

func TestAsserts(t *testing.T) {
	cut(t, []row{
		{"assert true; skip;", nil, "R0 | / R1 | / R2 + | / H3 + |"}, {"assert false; skip;", nil, "R0 | / R1 | / A2 - |"},
		{"assert true; assert 1 < 2; assert false; assert true;", nil, "R0 | / R1 | / R2 + | / R3 + | / R4 + + | / R5 + + | / A6 + + - |"},
		{"var x; assert x == 0; x = input; assert x == 4; x = 1;", script(4), "R0 | 0 / R1 | 0 / R2 + | 0 / R3 + i4 | 4 / R4 + i4 | 4 / R5 + i4 + | 4 / H6 + i4 + | 1"},
		{"var x; assert x == 0; x = input; assert x == 4; x = 1;", script(5), "R0 | 0 / R1 | 0 / R2 + | 0 / R3 + i5 | 5 / R4 + i5 | 5 / A5 + i5 - | 5"},
		{"array a[1]; assert a[1] == 0;", nil, "R0 | [0] / B1 | [0]"}, {"assert 1 / 0 == 0;", nil, "R0 | / Z1 |"},
	})
}

func TestAssumes(t *testing.T) {
	cut(t, []row{
		{"var x; x = 1; assume x == 1; x = 2; assume x == 1; x = 3;", nil, "R0 | 0 / R1 | 1 / R2 | 1 / R3 | 2 / H4 | 2"},
		{"if true { assume false; skip; } skip;", nil, "R0 | / R1 | / H2 |"}, {"while true { assume false; }", nil, "R0 | / R1 | / H2 |"},
		{"assume input == 1; assume input == 1;", script(1, 2, 3), "R0 | / R1 i1 | / R2 i1 | / R3 i1 i2 | / H4 i1 i2 |"},
		{"assume ![true && false]; skip;", nil, "R0 | / R1 | / R2 | / H3 |"},
	})
}

func TestBranches(t *testing.T) {
	cut(t, []row{
		{"if true { skip; }", nil, "R0 | / R1 | / H2 |"}, {"if false { skip; }", nil, "R0 | / H1 |"},
		{"if true { }", nil, "R0 | / H1 |"}, {"if false { }", nil, "R0 | / H1 |"},
		{"var x; if true { x = 1; } else { x = 2; x = 3; } x = 4;", nil, "R0 | 0 / R1 | 0 / R2 | 1 / H3 | 4"},
		{"var x; if false { x = 1; } else { x = 2; x = 3; } x = 4;", nil, "R0 | 0 / R1 | 0 / R2 | 2 / R3 | 3 / H4 | 4"},
		{"var x; if false { x = 1; } x = 4;", nil, "R0 | 0 / R1 | 0 / H2 | 4"}, {"var x; if true { } else { x = 2; } x = 4;", nil, "R0 | 0 / R1 | 0 / H2 | 4"},
		{"var x; if true { if false { x = 1; } else { x = 2; } } else { x = 3; }", nil, "R0 | 0 / R1 | 0 / R2 | 0 / H3 | 2"},
		{"var x; if x + 1 == 1 { x = input; }", script(6), "R0 | 0 / R1 | 0 / R2 | 0 / H3 i6 | 6"},
		{"if 1 / 0 == 0 { skip; } else { skip; }", nil, "R0 | / Z1 |"},
	})
}

func TestLoops(t *testing.T) {
	cut(t, []row{
		{"while false { skip; }", nil, "R0 | / H1 |"}, {"var x; while false { x = 1; } x = 2;", nil, "R0 | 0 / R1 | 0 / H2 | 2"},
		{"var x; while x < 1 { x = x + 1; }", nil, "R0 | 0 / R1 | 0 / R2 | 1 / H3 | 1"},
		{"var x; while x < 3 { x = x + 1; }", nil, "R0 | 0 / R1 | 0 / R2 | 1 / R3 | 1 / R4 | 2 / R5 | 2 / R6 | 3 / H7 | 3"},
		{"var x; while x < 2 { x = x + 1; } skip; x = -1;", nil, "R0 | 0 / R1 | 0 / R2 | 1 / R3 | 1 / R4 | 2 / R5 | 2 / R6 | 2 / H7 | -1"},
		{"while input != 0 { }", script(2, 1, 0, 7), "R0 | / R1 i2 | / R2 i2 | / R3 i2 i1 | / R4 i2 i1 | / R5 i2 i1 i0 | / H6 i2 i1 i0 |"},
		{"var x; while true { x = 1 / x; }", nil, "R0 | 0 / R1 | 0 / Z2 | 0"},
		{"var x; var y; while x < 2 { y = 0; while y < 1 { y = y + 1; } x = x + 1; }", nil,
			"R0 | 0 0 / R1 | 0 0 / R2 | 0 0 / R3 | 0 0 / R4 | 0 1 / R5 | 0 1 / R6 | 1 1 / R7 | 1 1 / R8 | 1 0 / R9 | 1 0 / R10 | 1 1 / R11 | 1 1 / R12 | 2 1 / H13 | 2 1"},
		{"while true { assume true; assert false; }", nil, "R0 | / R1 | / R2 | / R3 | / A4 - |"},
	})
	tells(t, []row{
		{"while true { }", nil, "R65536 |"}, {"var x; while true { x = x + 1; }", nil, "R65536 | 32768"},
		{"var x; while x < 32767 { x = x + 1; }", nil, "H65535 | 32767"}, {"var x; while x < 32767 { x = x + 1; } skip;", nil, "H65536 | 32767"},
		{"var x; while x < 32767 { x = x + 1; } skip; skip;", nil, "R65536 | 32767"}, {"var x; while x < 32767 { x = x + 1; } skip; x = input;", nil, "H65536 | 32767"},
		{"var x; x = 1; while true { x = x * 2; }", nil, "O127 | 4611686018427387904"},
		{"array a[9]; var x; while true { a[x] = x; x = x + 1; }", nil, "B29 | 9 [0 1 2 3 4 5 6 7 8]"},
	})
}

func TestSkips(t *testing.T) {
	cut(t, []row{{"skip;", nil, "R0 | / H1 |"}, {"skip; skip; skip;", script(1), "R0 | / R1 | / R2 | / H3 |"}, {"var x; x = 1; skip; x = 2;", nil, "R0 | 0 / R1 | 1 / R2 | 1 / H3 | 2"}})
}

// TestWhatGoesWrongFirst: of two parts that end a run the one that stands ahead does, in whatever has two.
func TestWhatGoesWrongFirst(t *testing.T) {
	faults := []struct {
		text, how string
		steps     int
	}{{"(MAX + 1)", "O", 1}, {"(1 / 0)", "Z", 1}, {"(1 % 0)", "Z", 1}, {"a[-1]", "B", 1}, {"a[1]", "B", 1}, {"input", "H", 0}, {"-MIN", "O", 2}, {"a[1 / 0]", "Z", 1}, {"a[input]", "H", 0}, {"(1 + 1 / 0)", "Z", 1}, {"(2 + 3 - a[0 - 1])", "B", 3}}
	for _, form := range []string{
		"x = P + Q;", "x = P - Q;", "x = P * Q;", "x = P / Q;", "x = P % Q;", "x = (1 + P) * -Q;", "x = P + 1 / 0 + Q;", "x = a[P] + Q;", "x = -P + Q;",
		"a[P] = Q;", "x = P; x = Q;", "x = P; assert false;", "assert P < Q;", "assert P == Q;", "assume !P >= Q;", "if P < Q { x = 1; } else { x = 2; }", "while P != Q { }",
		"assert P < 1 && Q < 1;", "assert P < 1 || Q < 1;", "assume ![P < 1 && Q < 1];", "if P < 1 { x = Q; } else { x = Q; }",
	} {
		for _, first := range faults {
			for _, second := range faults {
				s := "var x; array a[1]; " + strings.NewReplacer("P", first.text, "Q", second.text).Replace(strings.ReplaceAll(form, "-P", "-(P)"))
				tells(t, []row{{s, nil, fmt.Sprintf("%s%d | 0 [0]", first.how, first.steps)}})
			}
		}
	}
	tells(t, []row{
		{"array a[1]; a[1] = 1 / 0;", nil, "Z1 | [0]"}, {"array a[1]; a[-1] = MAX + 1;", nil, "O1 | [0]"}, {"array a[1]; array b[2]; a[1] = b[2];", nil, "B1 | [0] [0 0]"},
		{"assert 1 / 0 == 0 && false;", nil, "Z1 |"}, {"array a[1]; a[input / 0] = input;", script(1), "Z2 i1 | [0]"},
	})
}
