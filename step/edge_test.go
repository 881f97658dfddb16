package step

import (
	"fmt"
	"slices"
	"strings"
	"testing"

	"gnomon/api"
)

func TestExamples(t *testing.T) {
	c := lowered(t, source(t, "var x; x = 1; x = x + 2;"))
	for k, want := range []string{"R0@0 | 0", "R1@2 | 1", "H2@1 | 3", "H2@1 | 3"} {
		if got := ran(t, c, nil, k); got != want {
			t.Errorf("P10.1: %d steps: %s; want %s", k, got, want)
		}
	}
	runs(t, []row{{"p1 x0 |", nil, "H0@0 |"}})
}

// TestWhereARunEnds: at Exit, and at any other point without edges, at 0 and behind some steps.
func TestWhereARunEnds(t *testing.T) {
	runs(t, []row{
		{"p1 x0 |", script(1, 2), "H0@0 |"}, {"v2 t1 a2 a1 p1 x0 |", nil, "H0@0 | 0 0 [0 0] [0]"},
		{"v1 p2 x1 |", nil, "H0@0 | 0"}, {"v1 p3 x2 |", script(5), "H0@0 | 0"}, {"v1 p2 x0 | 1>0 nop", nil, "H0@0 | 0"}, {"v1 p2 x0 | 1>1 v0=3", nil, "H0@0 | 0"},
		{"| 0>1 nop", nil, "R0@0 | / H1@1 |"}, {"x2 | 0>1 nop; 1>2 nop", nil, "R0@0 | / R1@1 | / H2@2 |"}, {"| 0>2 nop; 2>1 nop", nil, "R0@0 | / R1@2 | / H2@1 |"},
		{"v1 p3 x1 | 0>2 v0=4", nil, "R0@0 | 0 / H1@2 | 4"}, {"v1 p9 x8 | 0>7 v0=4; 7>3 v0=5; 4>8 nop", nil, "R0@0 | 0 / R1@7 | 4 / H2@3 | 5"},
		{"v1 p3 x2 | 1>2 v0=1; 0>1 v0=2", nil, "R0@0 | 0 / R1@1 | 2 / H2@2 | 1"},
	})
	loop := graph(t, "v1 x2 p3 | 0>0 v0=v0+1")
	for _, k := range []int{0, 1, 2, 1000, api.MaxSteps} {
		if got, want := ran(t, loop, nil, k), fmt.Sprintf("R%d@0 | %d", k, k); got != want {
			t.Errorf("P10.1: %s; want %s", got, want)
		}
	}
}

// TestKinds: each kind of edge, where it goes right.
func TestKinds(t *testing.T) {
	runs(t, []row{
		{"v1 | 0>1 nop", nil, "R0@0 | 0 / H1@1 | 0"},
		{"v1 | 0>1 v0=7", nil, "R0@0 | 0 / H1@1 | 7"}, {"v1 | 0>1 v0=MIN", nil, "R0@0 | 0 / H1@1 | MIN"}, {"v1 | 0>1 v0=MAX", nil, "R0@0 | 0 / H1@1 | MAX"},
		{"v2 | 0>2 v1=7; 2>1 v0=v1", nil, "R0@0 | 0 0 / R1@2 | 0 7 / H2@1 | 7 7"},
		{"v1 | 0>1 v0=-(5)", nil, "R0@0 | 0 / H1@1 | -5"}, {"v1 | 0>1 v0=-(-5)", nil, "R0@0 | 0 / H1@1 | 5"}, {"v1 | 0>1 v0=-(MAX)", nil, "R0@0 | 0 / H1@1 | -9223372036854775807"},
		{"v1 | 0>1 v0=7+2", nil, "R0@0 | 0 / H1@1 | 9"}, {"v1 | 0>1 v0=7-2", nil, "R0@0 | 0 / H1@1 | 5"}, {"v1 | 0>1 v0=7*2", nil, "R0@0 | 0 / H1@1 | 14"},
		{"v1 | 0>1 v0=7/2", nil, "R0@0 | 0 / H1@1 | 3"}, {"v1 | 0>1 v0=7%2", nil, "R0@0 | 0 / H1@1 | 1"},
		{"v1 | 0>1 v0=-7/2", nil, "R0@0 | 0 / H1@1 | -3"}, {"v1 | 0>1 v0=-7%2", nil, "R0@0 | 0 / H1@1 | -1"}, {"v1 | 0>1 v0=2-7", nil, "R0@0 | 0 / H1@1 | -5"},
		{"v1 | 0>1 v0=MAX+MIN", nil, "R0@0 | 0 / H1@1 | -1"}, {"v1 | 0>1 v0=-1-MIN", nil, "R0@0 | 0 / H1@1 | MAX"}, {"v1 | 0>1 v0=MIN/1", nil, "R0@0 | 0 / H1@1 | MIN"}, {"v1 | 0>1 v0=0%MIN", nil, "R0@0 | 0 / H1@1 | 0"},
		{"v1 | 0>1 v0=input", script(5), "R0@0 | 0 / H1@1 i5 | 5"}, {"v1 | 0>1 v0=input", script(least, 6), "R0@0 | 0 / H1@1 iMIN | MIN"}, {"v1 | 0>1 v0=input", script(0), "R0@0 | 0 / H1@1 i0 | 0"},
		{"v1 a2 | 0>1 v0=a0[1]", nil, "R0@0 | 0 [0 0] / H1@1 | 0 [0 0]"}, {"a2 | 0>1 a0[1]=3", nil, "R0@0 | [0 0] / H1@1 | [0 3]"},
		{"| 0>2 0<1; 0>3 0>=1; 2>1 nop", nil, "R0@0 | / R1@2 | / H2@1 |"}, {"x4 p5 | 0>2 0<1; 0>3 0>=1", nil, "R0@0 | / H1@2 |"},
		{"| 0>1 pass", nil, "R0@0 | / H1@1 + |"},
	})
}

// TestWrong: each kind of edge that can go wrong: a step that gives nothing and stays where it is; and what is behind it isn't done.
func TestWrong(t *testing.T) {
	for what, how := range map[string]string{
		"v0=-(MIN)": "O", "v0=MAX+1": "O", "v0=-1+MIN": "O", "v0=MIN-1": "O", "v0=0-MIN": "O", "v0=MAX*2": "O", "v0=MIN*-1": "O", "v0=MIN/-1": "O", "v0=MIN%-1": "O",
		"v0=1/0": "Z", "v0=1%0": "Z", "v0=0/0": "Z", "v0=MIN/v1": "Z", "v0=MIN%v1": "Z",
		"v0=a0[-1]": "B", "v0=a0[3]": "B", "v0=a0[MIN]": "B", "v0=a0[MAX]": "B", "v0=a0[v0]": "B", "a0[-1]=5": "B", "a0[3]=5": "B", "a0[MIN]=5": "B", "a0[MAX]=v0": "B", "a0[v0]=v1": "B",
	} {
		runs(t, []row{
			{"v2 a3 | 0>2 v0=4; 2>3 a0[1]=2; 3>1 " + what, nil, "R0@0 | 0 0 [0 0 0] / R1@2 | 4 0 [0 0 0] / R2@3 | 4 0 [0 2 0] / " + how + "3@3 | 4 0 [0 2 0]"},
			{"v2 a3 | 0>2 v0=4; 2>3 " + what + "; 3>1 v1=9", script(8), "R0@0 | 0 0 [0 0 0] / R1@2 | 4 0 [0 0 0] / " + how + "2@2 | 4 0 [0 0 0]"},
			{"v2 a3 | 0>2 v0=4; 2>2 " + what, nil, "R0@0 | 0 0 [0 0 0] / R1@2 | 4 0 [0 0 0] / " + how + "2@2 | 4 0 [0 0 0]"},
		})
	}
	runs(t, []row{
		{"| 0>1 fail", nil, "R0@0 | / A1@0 - |"}, {"| 0>2 nop; 2>1 fail", nil, "R0@0 | / R1@2 | / A2@2 - |"}, {"| 0>0 fail", nil, "R0@0 | / A1@0 - |"},
		{"v1 | 0>2 pass; 2>3 fail; 3>1 v0=1", nil, "R0@0 | 0 / R1@2 + | 0 / A2@2 + - | 0"}, {"| 0>1 fail", script(4), "R0@0 | / A1@0 - |"},
		{"v1 | 0>2 v0=input; 2>3 pass; 3>4 v0=input; 4>5 pass; 5>1 fail", script(6, 7), "R0@0 | 0 / R1@2 i6 | 6 / R2@3 i6 + | 6 / R3@4 i6 + i7 | 7 / R4@5 i6 + i7 + | 7 / A5@5 i6 + i7 + - | 7"},
	})
}

// TestDstAmongItsOperands: a number is given behind all that it is reckoned of.
func TestDstAmongItsOperands(t *testing.T) {
	for _, r := range []struct{ what, want string }{
		{"v0=v0", "6 4"}, {"v0=-(v0)", "-6 4"}, {"v0=v0+v0", "12 4"}, {"v0=v0+v1", "10 4"}, {"v0=v1+v0", "10 4"}, {"v0=v0-v1", "2 4"}, {"v0=v1-v0", "-2 4"}, {"v0=v0-v0", "0 4"},
		{"v0=v0*v0", "36 4"}, {"v0=v1*v0", "24 4"}, {"v0=v0/v1", "1 4"}, {"v0=v1/v0", "0 4"}, {"v0=v0%v1", "2 4"}, {"v0=v1%v0", "4 4"}, {"v0=v0/v0", "1 4"}, {"v0=v0%v0", "0 4"},
		{"v1=v1", "6 4"}, {"v1=v0", "6 6"}, {"v1=v0-v1", "6 2"}, {"v1=v1-v0", "6 -2"}, {"v1=v1+1", "6 5"}, {"v1=3-v1", "6 -1"},
	} {
		runs(t, []row{{"v2 | 0>2 v0=6; 2>3 v1=4; 3>1 " + r.what, nil, "R0@0 | 0 0 / R1@2 | 6 0 / R2@3 | 6 4 / H3@1 | " + r.want}})
	}
	runs(t, []row{
		{"v1 a3 | 0>2 a0[2]=1; 2>3 v0=2; 3>4 v0=a0[v0]; 4>5 v0=a0[v0]; 5>1 v0=v0", nil, "R0@0 | 0 [0 0 0] / R1@2 | 0 [0 0 1] / R2@3 | 2 [0 0 1] / R3@4 | 1 [0 0 1] / R4@5 | 0 [0 0 1] / H5@1 | 0 [0 0 1]"},
		{"v1 a3 | 0>2 v0=1; 2>1 a0[v0]=v0", nil, "R0@0 | 0 [0 0 0] / R1@2 | 1 [0 0 0] / H2@1 | 1 [0 1 0]"},
		{"v1 | 0>2 v0=MAX; 2>1 v0=v0+v0", nil, "R0@0 | 0 / R1@2 | MAX / O2@2 | MAX"}, {"v1 | 0>1 v0=v0/v0", nil, "R0@0 | 0 / Z1@0 | 0"},
	})
}

// TestAssumes: of two that compare the one that holds, whichever stands first in the list, with other edges about them.
func TestAssumes(t *testing.T) {
	not := map[string]string{"<": ">=", "<=": ">", "==": "!=", "!=": "==", ">": "<=", ">=": "<"}
	numbers := script(least, least+1, -4294967296, -1, 0, 1, 2, 4294967296, most-1, most)
	for op, other := range not {
		for _, a := range numbers {
			for _, b := range numbers {
				holds := map[string]bool{"<": a < b, "<=": a <= b, "==": a == b, "!=": a != b, ">": a > b, ">=": a >= b}[op]
				want := map[bool]string{true: "R3@4", false: "R3@5"}[holds] + fmt.Sprintf(" i%d i%d | %d %d", a, b, a, b)
				for _, sides := range []string{"v0 v1", fmt.Sprint("v0 ", b), fmt.Sprint(a, " v1"), fmt.Sprint(a, " ", b)} {
					l, r, _ := strings.Cut(sides, " ")
					first, second := "3>4 "+l+op+r, "3>5 "+l+other+r
					for _, edges := range []string{
						"0>2 v0=input; 2>3 v1=input; " + first + "; " + second + "; 4>4 nop; 5>5 nop", second + "; 0>2 v0=input; 2>3 v1=input; 4>4 nop; " + first + "; 5>5 nop",
						first + "; 5>5 nop; 2>3 v1=input; 0>2 v0=input; 4>4 nop; " + second,
					} {
						if got := ran(t, graph(t, "v2 | "+edges), script(a, b), 3); got != want {
							t.Errorf("P10.1: %q on %d, %d: %s; want %s", edges, a, b, got, want)
						}
					}
				}
			}
		}
	}
	runs(t, []row{
		{"v1 | 2>0 v0=v0+1; 0>1 v0>=2; 0>2 v0<2", nil, "R0@0 | 0 / R1@2 | 0 / R2@0 | 1 / R3@2 | 1 / R4@0 | 2 / H5@1 | 2"},
		{"v1 | 0>1 v0==v0; 0>1 v0!=v0", nil, "R0@0 | 0 / H1@1 | 0"}, {"v1 | 0>2 v0!=v0; 0>1 v0==v0", nil, "R0@0 | 0 / H1@1 | 0"},
	})
}

// TestPlaces: of arrays of all sorts of sizes, those about their ends and far from them, loaded and stored.
func TestPlaces(t *testing.T) {
	for _, size := range []int{1, 2, 3, 1023, 1024} {
		c := graph(t, fmt.Sprintf("v2 a2 a%d a1 | 0>2 v0=input; 2>3 v1=input; 3>4 a1[v0]=v1; 4>1 v1=a1[v0]", size))
		d := graph(t, fmt.Sprintf("v1 a1024 a%d | 0>2 v0=input; 2>1 v0=a1[v0]", size))
		n := int64(size)
		for _, place := range []int64{least, -4294967296, -n, -2, -1, 0, 1, n / 2, n - 2, n - 1, n, n + 1, 1024, 1025, 4294967296, 4294967297, most} {
			o, point, _ := Run(c, script(place, 77), api.MaxSteps)
			p, other, _ := Run(d, script(place), api.MaxSteps)
			if place < 0 || place >= n {
				if standing(o) != "B" || o.Steps != 3 || point != 3 || standing(p) != "B" || p.Steps != 2 || other != 2 || p.Vars[0] != place {
					t.Errorf("P10.1: place %d of %d: %s%d@%d, %s%d@%d", place, size, standing(o), o.Steps, point, standing(p), p.Steps, other)
				}
				o.Arrays[1] = append(o.Arrays[1], 77) // that should be the only one
			} else if standing(o) != "H" || point != 1 || o.Vars[1] != 77 || o.Arrays[1][place] != 77 || standing(p) != "H" || p.Vars[0] != 0 {
				t.Errorf("P10.1: place %d of %d: %s@%d, %v, %s, %v", place, size, standing(o), point, o.Vars, standing(p), p.Vars)
			}
			if many := slices.Compact(slices.Sorted(slices.Values(o.Arrays[1]))); len(many) > 2 || slices.Max(slices.Concat(o.Arrays[0], o.Arrays[2])) != 0 {
				t.Errorf("P10.1: place %d of %d: %v", place, size, o.Arrays)
			}
		}
	}
}

// TestStoredAndLoaded: what is stored is loaded again, from its own place of its own array.
func TestStoredAndLoaded(t *testing.T) {
	runs(t, []row{
		{"v2 a3 | 0>2 a0[1]=5; 2>3 v0=a0[1]; 3>4 v1=a0[2]; 4>5 a0[1]=6; 5>1 v1=a0[1]", nil, "R0@0 | 0 0 [0 0 0] / R1@2 | 0 0 [0 5 0] / R2@3 | 5 0 [0 5 0] / R3@4 | 5 0 [0 5 0] / R4@5 | 5 0 [0 6 0] / H5@1 | 5 6 [0 6 0]"},
		{"v1 a2 a3 a1 | 0>2 a1[1]=5; 2>3 v0=a0[1]; 3>4 a0[1]=6; 4>5 a2[0]=MIN; 5>6 v0=a1[1]; 6>1 v0=a2[0]", nil,
			"R0@0 | 0 [0 0] [0 0 0] [0] / R1@2 | 0 [0 0] [0 5 0] [0] / R2@3 | 0 [0 0] [0 5 0] [0] / R3@4 | 0 [0 6] [0 5 0] [0] / R4@5 | 0 [0 6] [0 5 0] [MIN] / R5@6 | 5 [0 6] [0 5 0] [MIN] / H6@1 | MIN [0 6] [0 5 0] [MIN]"},
		// A is the place and B the value, be they numbers or variables.
		{"v2 a3 | 0>2 v0=2; 2>3 v1=1; 3>4 a0[v0]=v1; 4>5 a0[v1]=v0; 5>6 a0[0]=v1; 6>1 a0[v0]=7", nil,
			"R0@0 | 0 0 [0 0 0] / R1@2 | 2 0 [0 0 0] / R2@3 | 2 1 [0 0 0] / R3@4 | 2 1 [0 0 1] / R4@5 | 2 1 [0 2 1] / R5@6 | 2 1 [1 2 1] / H6@1 | 2 1 [1 2 7]"},
	})
}

// TestTemporaries: they begin with 0, are given and taken like variables, and aren't told.
func TestTemporaries(t *testing.T) {
	runs(t, []row{
		{"t1 | 0>1 v0=3", nil, "R0@0 | / H1@1 |"}, {"t2 a3 | 0>2 v0=2; 2>3 v1=v0-1; 3>1 a0[v1]=v0", nil, "R0@0 | [0 0 0] / R1@2 | [0 0 0] / R2@3 | [0 0 0] / H3@1 | [0 2 0]"},
		{"v1 t2 | 0>2 v1=3; 2>3 v2=v1+4; 3>1 v0=v2*v1", nil, "R0@0 | 0 / R1@2 | 0 / R2@3 | 0 / H3@1 | 21"}, {"v2 t2 | 0>2 v1=v3; 2>3 v3=input; 3>1 v0=v3", script(8), "R0@0 | 0 0 / R1@2 | 0 0 / R2@3 i8 | 0 0 / H3@1 i8 | 8 0"},
		{"t1 | 0>2 v0<1; 0>1 v0>=1; 2>0 v0=1", nil, "R0@0 | / R1@2 | / R2@0 | / H3@1 |"}, {"v1 t1 | 0>2 v1=MAX; 2>1 v0=v1+v1", nil, "R0@0 | 0 / R1@2 | 0 / O2@2 | 0"},
		{"v1 t1 a2 | 0>2 a0[1]=6; 2>3 v1=1; 3>4 v1=a0[v1]; 4>1 v0=v1", nil, "R0@0 | 0 [0 0] / R1@2 | 0 [0 6] / R2@3 | 0 [0 6] / R3@4 | 0 [0 6] / H4@1 | 6 [0 6]"},
	})
	full := graph(t, "v32 t32 | 0>2 v63=5; 2>3 v31=v63; 3>4 v32=v31+v63; 4>1 v0=v32")
	o, _, _ := Run(full, nil, 9)
	if len(o.Vars) != 32 || o.Vars[0] != 10 || o.Vars[31] != 5 || slices.Max(o.Vars[1:31]) != 0 {
		t.Errorf("P10.2: %v", o.Vars)
	}
	for vars := range 65 {
		for _, temps := range []int{0, 1, 64 - vars} {
			if vars+temps > 64 {
				continue
			}
			if o, _, _ := Run(graph(t, fmt.Sprintf("v%d t%d | 0>1 nop", vars, temps)), nil, 1); len(o.Vars) != vars {
				t.Errorf("P10.2: %d and %d variables: %v", vars, temps, o.Vars)
			}
		}
	}
}
