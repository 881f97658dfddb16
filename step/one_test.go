package step

import (
	"fmt"
	"slices"
	"testing"

	"gnomon/api"
)

// ask: what One tells, as text: the edge and how it goes (R: right).
func ask(t *testing.T, c api.Cfg, vars []int64, arrays [][]int64, input int64, point int) string {
	t.Helper()
	v, a := slices.Clone(vars), fmt.Sprint(arrays)
	i, wrong, e := One(c, vars, arrays, input, point)
	if e != api.OK {
		t.Errorf("P10.3: %v, %v, point %d: %d", vars, arrays, point, e)
	}
	if !slices.Equal(vars, v) || fmt.Sprint(arrays) != a {
		t.Errorf("P10.3: %v, %s became %v, %v", v, a, vars, arrays)
	}
	if wrong < api.WrongNone || wrong > api.WrongAssert {
		return fmt.Sprint(i, " wrong ", wrong)
	}
	return fmt.Sprint(i, []string{"R", "O", "Z", "B", "A"}[wrong])
}

// TestOneOfEachKind: right and wrong, with values at which it is so.
func TestOneOfEachKind(t *testing.T) {
	for _, r := range []struct {
		what string
		a, b int64
		want string
	}{
		{"nop", 0, 0, "R"}, {"nop", most, least, "R"}, {"v0=v1", 3, 4, "R"}, {"v0=7", 3, 4, "R"}, {"v1=MIN", 3, 4, "R"}, {"pass", 1, 1, "R"}, {"fail", 1, 1, "A"}, {"v0=input", 3, 4, "R"}, {"v1=input", 3, 4, "R"},
		{"v0=-(v1)", 0, least, "O"}, {"v0=-(v1)", least, least + 1, "R"}, {"v0=-(v1)", 0, most, "R"}, {"v1=-(v0)", least, 0, "O"}, {"v0=-(MIN)", 0, 0, "O"}, {"v0=-(MAX)", 0, 0, "R"},
		{"v0=v0+v1", most, 1, "O"}, {"v0=v0+v1", most - 1, 1, "R"}, {"v0=v0+v1", -1, least, "O"}, {"v0=v0+v1", 0, least, "R"}, {"v0=v1+1", most, 0, "R"}, {"v0=v0+1", most, 0, "O"}, {"v0=1+v0", most, 0, "O"},
		{"v0=v0-v1", least, 1, "O"}, {"v0=v0-v1", 1, least, "O"}, {"v0=v0-v1", -1, least, "R"}, {"v0=v1-v0", -1, least, "R"}, {"v0=v1-v0", 1, least, "O"},
		{"v0=v0*v1", 1 << 32, 1 << 31, "O"}, {"v0=v0*v1", 1 << 32, -1 << 31, "R"}, {"v0=v0*v1", least, -1, "O"}, {"v0=v0*v1", least, 0, "R"},
		{"v0=v0/v1", 5, 0, "Z"}, {"v0=v0/v1", 0, 5, "R"}, {"v0=v0/v1", least, -1, "O"}, {"v0=v0/v1", least, 1, "R"}, {"v0=v0/v1", -1, least, "R"}, {"v0=v1/v0", 0, 5, "Z"},
		{"v0=v0%v1", 5, 0, "Z"}, {"v0=v0%v1", 0, 5, "R"}, {"v0=v0%v1", least, -1, "O"}, {"v0=v0%v1", least, 1, "R"}, {"v0=v1%v0", -1, least, "O"}, {"v0=5%0", 1, 1, "Z"},
		{"v0=a0[v1]", 9, -1, "B"}, {"v0=a0[v1]", 9, 0, "R"}, {"v0=a0[v1]", 9, 2, "R"}, {"v0=a0[v1]", 9, 3, "B"}, {"v0=a0[v0]", 2, 9, "R"}, {"v0=a0[3]", 0, 0, "B"}, {"v0=a1[0]", 9, 9, "R"}, {"v0=a1[1]", 0, 0, "B"}, {"v0=a0[v1]", 0, least, "B"}, {"v0=a0[v1]", 0, most, "B"},
		{"a0[v1]=v0", 9, -1, "B"}, {"a0[v1]=v0", 9, 0, "R"}, {"a0[v1]=v0", 9, 2, "R"}, {"a0[v1]=v0", 9, 3, "B"}, {"a0[v0]=v1", 2, 9, "R"}, {"a1[v0]=v1", 2, 0, "B"}, {"a1[0]=9", 9, 9, "R"}, {"a1[1]=0", 0, 0, "B"}, {"a0[v1]=5", 0, 1 << 32, "B"},
	} {
		// The edge's number is its place in the list, whichever point it goes from.
		for i, edges := range []string{"3>1 " + r.what + "; 0>1 fail", "0>1 nop; 3>1 " + r.what, "2>1 fail; 0>3 v0=0/0; 3>3 " + r.what, "0>2 0<1; 2>1 v1=a0[7]; 0>1 0>=1; 3>0 " + r.what} {
			c := graph(t, "v1 t1 a3 a1 p5 | "+edges)
			for _, input := range []int64{0, 5, most} {
				got, want := ask(t, c, script(r.a, r.b), [][]int64{{7, 8, 9}, {5}}, input, 3), fmt.Sprint(i, r.want)
				if got != want {
					t.Errorf("P10.3: %q, %d, %d: %s; want %s", edges, r.a, r.b, got, want)
				}
			}
		}
	}
}

// TestOneOfTwo: the one that holds of two that compare.
func TestOneOfTwo(t *testing.T) {
	for _, r := range []struct {
		first, second string
		hold          [3]bool // of -1, 0, 1 and 0
	}{
		{"v0<v1", "v0>=v1", [3]bool{true, false, false}}, {"v0<=v1", "v0>v1", [3]bool{true, true, false}}, {"v0==v1", "v0!=v1", [3]bool{false, true, false}},
		{"v0!=v1", "v0==v1", [3]bool{true, false, true}}, {"v0>v1", "v0<=v1", [3]bool{false, false, true}}, {"v0>=v1", "v0<v1", [3]bool{false, true, true}},
		{"v0<0", "v0>=0", [3]bool{true, false, false}}, {"0>=v0", "0<v0", [3]bool{true, true, false}},
	} {
		c := graph(t, "v2 | 2>0 nop; 0>1 "+r.first+"; 3>1 fail; 0>2 "+r.second)
		for i, holds := range r.hold {
			want := map[bool]string{true: "1R", false: "3R"}[holds]
			for _, input := range []int64{-1, 0, 1} {
				if got := ask(t, c, script(int64(i)-1, 0), nil, input, 0); got != want {
					t.Errorf("P10.3: %s at %d, 0: %s; want %s", r.first, i-1, got, want)
				}
			}
		}
	}
}

// TestOneNowhere: at Exit and at points without edges no edge is taken, and nothing goes wrong; where there is no point there is an error.
func TestOneNowhere(t *testing.T) {
	c := graph(t, "v1 a2 p5 x3 | 0>1 v0=1/0; 1>4 fail")
	for point, want := range []string{"0Z", "1A", "-1R", "-1R", "-1R"} {
		if got := ask(t, c, script(4), [][]int64{{1, 2}}, 0, point); got != want {
			t.Errorf("P10.3: point %d: %s; want %s", point, got, want)
		}
	}
	for _, point := range []int{-1, 5, 6, 4096, 1 << 32, least, most} {
		bars(t, "no point", c, script(4), [][]int64{{1, 2}}, point, api.ErrCfgForm)
	}
	if got := ask(t, graph(t, "p1 x0 |"), nil, nil, 0, 0); got != "-1R" {
		t.Errorf("P10.3: one point: %s", got)
	}
	bars(t, "one point", graph(t, "p1 x0 |"), nil, nil, 1, api.ErrCfgForm)
}

// TestOneOfOtherValues: of variables, temporaries and arrays too few or too many, and of arrays of other sizes, at each point, even where no edge is.
func TestOneOfOtherValues(t *testing.T) {
	c := graph(t, "v2 t1 a3 a1 | 0>2 v2=v0; 2>1 v1=a1[0]; 3>1 nop")
	arrays := [][]int64{{1, 2, 3}, {4}}
	for point := range 4 {
		ask(t, c, script(1, 2, 3), arrays, 0, point)
		for _, n := range []int{0, 1, 2, 4, 5, 64, 65, 1000} {
			bars(t, "variables", c, make([]int64, n), arrays, point, api.ErrCfgForm)
		}
		bars(t, "variables that are room", c, make([]int64, 2, 3), arrays, point, api.ErrCfgForm)
		for _, a := range [][][]int64{
			nil, {}, {{1, 2, 3}}, {{4}}, {{1, 2, 3}, {4}, {5}}, {{1, 2, 3}, {4}, {}}, {{1, 2, 3}, {4}, nil}, {{1, 2}, {4}}, {{1, 2, 3, 4}, {4}}, {{1, 2, 3}, {}}, {{1, 2, 3}, nil}, {{1, 2, 3}, {4, 5}}, {nil, nil}, {nil, {4}}, {{4}, {1, 2, 3}},
			{make([]int64, 2, 3), {4}}, make([][]int64, 1000),
		} {
			bars(t, "arrays", c, script(1, 2, 3), a, point, api.ErrCfgForm)
			bars(t, "arrays and variables", c, script(1, 2), a, point, api.ErrCfgForm)
			bars(t, "arrays and the point", c, script(1, 2, 3), a, 4, api.ErrCfgForm)
		}
	}
	none := graph(t, "| 0>1 pass")
	for _, v := range [][]int64{nil, {}} {
		for _, a := range [][][]int64{nil, {}} {
			if got := ask(t, none, v, a, 0, 0); got != "0R" {
				t.Errorf("P10.3: without variables and arrays: %s", got)
			}
		}
	}
	bars(t, "a variable", none, script(1), nil, 0, api.ErrCfgForm)
	bars(t, "an array", none, nil, [][]int64{nil}, 0, api.ErrCfgForm)
}
