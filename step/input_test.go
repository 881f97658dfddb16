package step

import (
	"fmt"
	"slices"
	"testing"

	"gnomon/api"
)

// TestInputs: those of the script in its order, each once, whatever takes them.
func TestInputs(t *testing.T) {
	three := "v3 | 0>2 v2=input; 2>3 v0=input; 3>1 v1=input"
	runs(t, []row{
		{three, script(4, 5, 6), "R0@0 | 0 0 0 / R1@2 i4 | 0 0 4 / R2@3 i4 i5 | 5 0 4 / H3@1 i4 i5 i6 | 5 6 4"},
		{three, script(4, 5, 6, 7), "R0@0 | 0 0 0 / R1@2 i4 | 0 0 4 / R2@3 i4 i5 | 5 0 4 / H3@1 i4 i5 i6 | 5 6 4"},
		{three, script(0, 0, 0), "R0@0 | 0 0 0 / R1@2 i0 | 0 0 0 / R2@3 i0 i0 | 0 0 0 / H3@1 i0 i0 i0 | 0 0 0"},
		{three, script(least, most, -1), "R0@0 | 0 0 0 / R1@2 iMIN | 0 0 MIN / R2@3 iMIN iMAX | MAX 0 MIN / H3@1 iMIN iMAX i-1 | MAX -1 MIN"},
		{"v1 | 0>2 v0=input; 2>3 v0=input; 3>1 v0=v0+1", script(4, -5), "R0@0 | 0 / R1@2 i4 | 4 / R2@3 i4 i-5 | -5 / H3@1 i4 i-5 | -4"},
		{"v1 | 0>1 v0=3", script(4), "R0@0 | 0 / H1@1 | 3"},
	})
}

// TestNoInputLeft: the run is halted ahead of the step, at the point at which it stands, also where no step may be done any more.
func TestNoInputLeft(t *testing.T) {
	three := "v3 | 0>2 v2=input; 2>3 v0=input; 3>1 v1=input"
	runs(t, []row{
		{three, nil, "H0@0 | 0 0 0"}, {three, script(), "H0@0 | 0 0 0"}, {three, script(4), "R0@0 | 0 0 0 / H1@2 i4 | 0 0 4"}, {three, script(4, 5), "R0@0 | 0 0 0 / R1@2 i4 | 0 0 4 / H2@3 i4 i5 | 5 0 4"},
		{"v1 | 0>2 v0=7; 2>3 nop; 3>1 v0=input", nil, "R0@0 | 0 / R1@2 | 7 / H2@3 | 7"}, {"v1 | 0>0 v0=input", script(1, 2), "R0@0 | 0 / R1@0 i1 | 1 / H2@0 i1 i2 | 2"},
		{"v1 | 0>2 0<1; 0>1 0>=1; 2>1 v0=input", nil, "R0@0 | 0 / H1@2 | 0"}, {"v1 | 0>2 0<1; 0>3 0>=1; 3>1 v0=input; 2>1 nop", nil, "R0@0 | 0 / R1@2 | 0 / H2@1 | 0"},
		{"v1 | 0>2 v0=input; 2>3 pass; 3>1 v0=input", script(9), "R0@0 | 0 / R1@2 i9 | 9 / H2@3 i9 + | 9"}, {"v1 | 0>2 v0=1/0; 2>1 v0=input", nil, "R0@0 | 0 / Z1@0 | 0"},
		{"v1 | 0>2 fail; 2>1 v0=input", nil, "R0@0 | 0 / A1@0 - | 0"},
	})
}

// TestManyInputs: a script of MaxScript numbers, of which all are taken, as many as there are.
func TestManyInputs(t *testing.T) {
	c := graph(t, "v1 p2 x1 | 0>0 v0=input")
	full := make([]int64, api.MaxScript, api.MaxScript+9)
	for i := range full {
		full[i] = int64(i) * 1000003
	}
	for _, n := range []int{0, 1, 2, 65535, 65536} {
		for _, k := range []int{0, 1, 2, 65535, 65536} {
			o, point, e := Run(c, full[:n], k)
			done := min(n, k)
			how := map[bool]string{true: "H", false: "R"}[done == n]
			if e != api.OK || standing(o) != how || o.Steps != done || point != 0 || len(o.Events) != done || done > 0 && o.Vars[0] != full[done-1] {
				t.Errorf("P10.1, P10.2: %d inputs, %d steps: %s%d, %d events, %v, %d; want %s%d", n, k, standing(o), o.Steps, len(o.Events), o.Vars, e, how, done)
			}
			if !slices.EqualFunc(o.Events, full[:done], func(e api.Event, n int64) bool { return e == api.Event{Input: true, Num: n} }) {
				t.Errorf("P10.1: %d inputs, %d steps: other events", n, k)
			}
		}
	}
}

// counting: a graph whose run has two steps in a circle, and n behind it if it isn't cut.
func counting(t *testing.T, circles, behind int) api.Cfg {
	text := fmt.Sprintf("v1 x2 | 0>1 v0<%d; 0>3 v0>=%d; 1>0 v0=v0+1", circles, circles)
	for i := range behind {
		text += fmt.Sprintf("; %d>%d nop", 3+i, 4+i)
	}
	return graph(t, text)
}

// TestManySteps: as many as there are, one more, one fewer, up to MaxSteps.
func TestManySteps(t *testing.T) {
	for _, r := range []struct {
		circles, behind int
		want            string
	}{{32766, 2, "H65535@5 | 32766"}, {32766, 3, "H65536@6 | 32766"}, {32766, 4, "R65536@6 | 32766"}, {32767, 0, "H65535@3 | 32767"}, {32767, 1, "H65536@4 | 32767"}, {32768, 0, "R65536@0 | 32768"}, {32769, 0, "R65536@0 | 32768"}, {1 << 40, 0, "R65536@0 | 32768"}} {
		if got := ran(t, counting(t, r.circles, r.behind), nil, api.MaxSteps); got != r.want {
			t.Errorf("P10.2: %d circles, %d behind them: %s; want %s", r.circles, r.behind, got, r.want)
		}
	}
	c := counting(t, 100, 1)
	for k := range 210 {
		want := "H202@4 | 100"
		switch {
		case k == 201:
			want = "R201@3 | 100"
		case k <= 200:
			want = fmt.Sprintf("R%d@%d | %d", k, k%2, k/2)
		}
		if got := ran(t, c, nil, k); got != want {
			t.Errorf("P10.2: %d steps: %s; want %s", k, got, want)
		}
	}
}
