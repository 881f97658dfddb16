package cfg

import (
	"strings"
	"testing"

	"gnomon/api"
)

func TestOperations(t *testing.T) {
	lowers(t, []row{
		{"var x; x = x + 1;", "2 1 0 | 0>1 v0=v0+1"}, {"var x; x = x - 1;", "2 1 0 | 0>1 v0=v0-1"}, {"var x; x = x * 1;", "2 1 0 | 0>1 v0=v0*1"},
		{"var x; x = x / 1;", "2 1 0 | 0>1 v0=v0/1"}, {"var x; x = x % 1;", "2 1 0 | 0>1 v0=v0%1"}, {"var x; x = -x;", "2 1 0 | 0>1 v0=-(v0)"},
		{"var x; x = input;", "2 1 0 | 0>1 v0=input"}, {"var x; array a[1]; array b[1]; x = b[x];", "2 1 0 | 0>1 v0=a1[v0]"},
		{"var x; x = 1 + x;", "2 1 0 | 0>1 v0=1+v0"}, {"var x; x = -1 - -2;", "2 1 0 | 0>1 v0=-1--2"}, {"var x; var y; x = y * x;", "2 1 0 | 0>1 v0=v1*v0"},
		{"var x; x = 3 / 0;", "2 1 0 | 0>1 v0=3/0"}, {"var x; x = 0 + 0;", "2 1 0 | 0>1 v0=0+0"}, {"array a[1]; var x; x = a[0];", "2 1 0 | 0>1 v0=a0[0]"},
	})
	// As an operand each is the same, but for where its value goes.
	for _, r := range []row{{"y + 1", "v1+1"}, {"y - 1", "v1-1"}, {"y * 1", "v1*1"}, {"y / 1", "v1/1"}, {"y % 1", "v1%1"}, {"-y", "-(v1)"}, {"input", "input"}, {"b[y]", "a1[v1]"}} {
		lowers(t, []row{{"var x; var y; array a[1]; array b[1]; x = 1 - (" + r.source + ");", "3 1 1 | 0>2 v2=" + r.want + "; 2>1 v0=1-v2"}})
	}
}

// TestConstants: a number below one minus needs no edge, in each place; a minus of anything else does, that of such a minus, too.
func TestConstants(t *testing.T) {
	lowers(t, []row{
		{"var x; x = MAX;", "2 1 0 | 0>1 v0=9223372036854775807"}, {"var x; x = -MAX;", "2 1 0 | 0>1 v0=-9223372036854775807"},
		{"var x; x = --7;", "2 1 0 | 0>1 v0=-(-7)"}, {"var x; x = ---7;", "3 1 1 | 0>2 v1=-(-7); 2>1 v0=-(v1)"}, {"var x; x = -(-(7));", "2 1 0 | 0>1 v0=-(-7)"},
		{"var x; x = --x;", "3 1 1 | 0>2 v1=-(v0); 2>1 v0=-(v1)"}, {"var x; x = -input;", "3 1 1 | 0>2 v1=input; 2>1 v0=-(v1)"},
		{"var x; x = -(1 + 2);", "3 1 1 | 0>2 v1=1+2; 2>1 v0=-(v1)"}, {"array a[1]; var x; x = -a[-1];", "3 1 1 | 0>2 v1=a0[-1]; 2>1 v0=-(v1)"},
	})
	for _, r := range []struct{ form, edge string }{
		{"x = E + x;", "0>1 v0=E+v0"}, {"x = x % E;", "0>1 v0=v0%E"}, {"x = E * E;", "0>1 v0=E*E"}, {"x = a[E];", "0>1 v0=a0[E]"}, {"a[E] = x;", "0>1 a0[E]=v0"}, {"a[x] = E;", "0>1 a0[v0]=E"},
		{"a[E] = E;", "0>1 a0[E]=E"}, {"assume E < x;", "0>1 E<v0; 0>1 E>=v0"}, {"assume x != E;", "0>1 v0!=E; 0>1 v0==E"}, {"x = E;", "0>1 v0=E"},
	} {
		for _, n := range []string{"0", "5", "-5", "-9223372036854775807"} {
			lowers(t, []row{{"var x; array a[1]; " + strings.ReplaceAll(r.form, "E", n), "2 1 0 | " + strings.ReplaceAll(r.edge, "E", n)}})
		}
		if r.form == "x = E;" || strings.Count(r.form, "E") > 1 {
			continue
		}
		for _, e := range []row{{"--5", "-(-5)"}, {"-x", "-(v0)"}, {"-(--5)", ""}, {"-input", ""}} {
			want := "3 1 1 | 0>2 v1=" + e.want + "; " + strings.ReplaceAll(strings.ReplaceAll(r.edge, "0>1", "2>1"), "E", "v1")
			if e.want == "" {
				first := map[string]string{"-(--5)": "-(-5)", "-input": "input"}[e.source]
				want = "4 1 1 | 0>3 v1=" + first + "; 3>2 v1=-(v1); " + strings.ReplaceAll(strings.ReplaceAll(r.edge, "0>1", "2>1"), "E", "v1")
			}
			lowers(t, []row{{"var x; array a[1]; " + strings.ReplaceAll(r.form, "E", e.source), want}})
		}
	}
}

// TestDepths: which temporary an operand lies in.
func TestDepths(t *testing.T) {
	lowers(t, []row{
		// The first argument is a temporary, the second one is, both are.
		{"var x; x = (x + 1) - x;", "3 1 1 | 0>2 v1=v0+1; 2>1 v0=v1-v0"},
		{"var x; x = x - (x + 1);", "3 1 1 | 0>2 v1=v0+1; 2>1 v0=v0-v1"},
		{"var x; x = 5 - (x + 1);", "3 1 1 | 0>2 v1=v0+1; 2>1 v0=5-v1"},
		{"var x; x = (x + 1) - (x + 2);", "4 1 2 | 0>2 v1=v0+1; 2>3 v2=v0+2; 3>1 v0=v1-v2"},
		// To the left one temporary is enough, however deep; to the right only where nothing is kept.
		{"var x; x = 1 + 2 + 3 + 4;", "4 1 1 | 0>3 v1=1+2; 3>2 v1=v1+3; 2>1 v0=v1+4"},
		{"var x; x = 1 + (2 + (3 + 4));", "4 1 1 | 0>3 v1=3+4; 3>2 v1=2+v1; 2>1 v0=1+v1"},
		{"var x; x = (1 + 2) * (3 + (4 + x));", "5 1 2 | 0>2 v1=1+2; 2>4 v2=4+v0; 4>3 v2=3+v2; 3>1 v0=v1*v2"},
		{"var x; x = (1 + 2) * ((3 + 4) * (5 + 6));", "6 1 3 | 0>2 v1=1+2; 2>4 v2=3+4; 4>5 v3=5+6; 5>3 v2=v2*v3; 3>1 v0=v1*v2"},
		{"var x; x = ((1 + 2) * (3 + 4)) * ((5 + 6) * (7 + 8));", "8 1 3 | 0>3 v1=1+2; 3>4 v2=3+4; 4>2 v1=v1*v2; 2>6 v2=5+6; 6>7 v3=7+8; 7>5 v2=v2*v3; 5>1 v0=v1*v2"},
		{"var x; x = input - input;", "4 1 2 | 0>2 v1=input; 2>3 v2=input; 3>1 v0=v1-v2"},
		{"var x; x = x - input - input;", "5 1 2 | 0>3 v1=input; 3>2 v1=v0-v1; 2>4 v2=input; 4>1 v0=v1-v2"},
		// A minus and an index leave the depth as it is.
		{"var x; x = -(-(-x));", "4 1 1 | 0>3 v1=-(v0); 3>2 v1=-(v1); 2>1 v0=-(v1)"},
		{"array a[1]; var x; x = a[a[a[x]]];", "4 1 1 | 0>3 v1=a0[v0]; 3>2 v1=a0[v1]; 2>1 v0=a0[v1]"},
		{"array a[1]; var x; x = input + a[x + 1];", "5 1 2 | 0>2 v1=input; 2>4 v2=v0+1; 4>3 v2=a0[v2]; 3>1 v0=v1+v2"},
		{"array a[1]; var x; x = a[x + 1] + -(x + 2);", "6 1 2 | 0>3 v1=v0+1; 3>2 v1=a0[v1]; 2>5 v2=v0+2; 5>4 v2=-(v2); 4>1 v0=v1+v2"},
		{"array a[1]; var x; x = a[(x + 1) * (x + 2)];", "5 1 2 | 0>3 v1=v0+1; 3>4 v2=v0+2; 4>2 v1=v1*v2; 2>1 v0=a0[v1]"},
		// Each statement begins anew.
		{"var x; x = input + input; x = input + 1;", "6 1 2 | 0>3 v1=input; 3>4 v2=input; 4>2 v0=v1+v2; 2>5 v1=input; 5>1 v0=v1+1"},
		{"var x; x = input + 1; x = input + input;", "6 1 2 | 0>3 v1=input; 3>2 v0=v1+1; 2>4 v1=input; 4>5 v2=input; 5>1 v0=v1+v2"},
	})
}

// TestTemps: how many there are, by the deepest of all statements, also where it never runs.
func TestTemps(t *testing.T) {
	for _, r := range []struct {
		source string
		want   int
	}{
		{"", 0}, {"x = 1;", 0}, {"x = x;", 0}, {"x = x + 1;", 0}, {"x = input;", 0}, {"x = a[x];", 0}, {"assert x < 1;", 0}, {"a[x] = 1;", 0}, {"assert true;", 0},
		{"x = -(x + 1);", 1}, {"a[input] = 1;", 1}, {"a[1] = input;", 1}, {"assert input < 1;", 1}, {"assert 1 < input;", 1}, {"if true { } else { x = a[a[1]]; }", 1},
		{"x = (x + 1) * (x + 2);", 2}, {"a[input] = input;", 2}, {"while input < input { }", 2}, {"x = 1; while false { if true { } else { a[x + 1] = x + 1; } } x = x + 1 + 2;", 2},
		{"a[input] = input + input;", 3}, {"assume input < input + input;", 3}, {"x = input + (input + (input + input));", 4},
	} {
		if c := lowered(t, read(t, "var x; array a[3]; "+r.source)); c.Temps != r.want {
			t.Errorf("P9.1: %q: %s; want %d temporaries", r.source, drawn(c), r.want)
		}
	}
}

// TestOnePartInManyPlaces: a tree may have one list in many places; each of them has its own points.
func TestOnePartInManyPlaces(t *testing.T) {
	one := []api.Expr{vari("x"), {Kind: api.EInput}}
	two := []api.Expr{{Kind: api.EAdd, Args: one}, {Kind: api.EMul, Args: one}}
	s := assign("x", api.Expr{Kind: api.ESub, Args: two})
	p := body(s, s)
	p.Decls = []api.Decl{{Name: "x"}}
	want := "11 1 2 | 0>4 v1=input; 4>3 v1=v0+v1; 3>6 v2=input; 6>5 v2=v0*v2; 5>2 v0=v1-v2; 2>8 v1=input; 8>7 v1=v0+v1; 7>10 v2=input; 10>9 v2=v0*v2; 9>1 v0=v1-v2"
	if got := drawn(lowered(t, p)); got != want {
		t.Errorf("P9.1: %s; want %s", got, want)
	}
}
