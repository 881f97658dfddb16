package run

import (
	"testing"

	"gnomon/api"
)

func TestExamples(t *testing.T) {
	cut(t, []row{
		{"var x; x = 1; x = x + 2;", nil, "R0 | 0 / R1 | 1 / H2 | 3"},
		{"var x; x = (x + 1) * input;", script(5), "R0 | 0 / R1 | 0 / R2 i5 | 0 / H3 i5 | 5"},
		{"assert 1 < 0;", nil, "R0 | / R1 | / A2 - |"},
		{"var x; x = input;", nil, "H0 | 0"},
		{"assume 1 < 0; skip;", nil, "R0 | / H1 |"},
	})
	for k := range 11 {
		o := ran(t, read(t, "while true { }"), nil, k)
		if o.Status != api.Running || o.Steps != k {
			t.Errorf("P8.2: %d steps: %s", k, told(o))
		}
	}
}

func TestNothingToDo(t *testing.T) {
	cut(t, []row{
		{"", nil, "H0 |"}, {"", script(1, 2), "H0 |"},
		{"var x; var y;", nil, "H0 | 0 0"}, {"array b[3]; var x; array a[1];", script(7), "H0 | 0 [0 0 0] [0]"},
	})
}

// TestConstants: a constant is no step, and a minus of anything else is one.
func TestConstants(t *testing.T) {
	cut(t, []row{
		{"var x; x = 7;", nil, "R0 | 0 / H1 | 7"}, {"var x; x = -7;", nil, "R0 | 0 / H1 | -7"},
		{"var x; x = 0;", nil, "R0 | 0 / H1 | 0"}, {"var x; x = -0;", nil, "R0 | 0 / H1 | 0"},
		{"var x; x = MAX;", nil, "R0 | 0 / H1 | 9223372036854775807"}, {"var x; x = -MAX;", nil, "R0 | 0 / H1 | -9223372036854775807"},
		{"var x; x = --7;", nil, "R0 | 0 / H1 | 7"}, {"var x; x = ---7;", nil, "R0 | 0 / R1 | 0 / H2 | -7"},
		{"var x; x = ----7;", nil, "R0 | 0 / R1 | 0 / R2 | 0 / H3 | 7"}, {"var x; x = -(-(-7));", nil, "R0 | 0 / R1 | 0 / H2 | -7"},
		{"var x; x = --MAX;", nil, "R0 | 0 / H1 | 9223372036854775807"},
		{"var x; x = 3 + -4;", nil, "R0 | 0 / H1 | -1"}, {"var x; x = -3 - -4;", nil, "R0 | 0 / H1 | 1"}, {"var x; x = -(3 + 4);", nil, "R0 | 0 / R1 | 0 / H2 | -7"},
		{"var x; x = 3 - --4;", nil, "R0 | 0 / R1 | 0 / H2 | -1"},
		{"array a[2]; a[--1] = -2;", nil, "R0 | [0 0] / R1 | [0 0] / H2 | [0 -2]"}, {"array a[2]; a[1] = --2;", nil, "R0 | [0 0] / R1 | [0 0] / H2 | [0 2]"},
		{"assert -1 < 0;", nil, "R0 | / R1 | / H2 + |"}, {"assert 0 < --1;", nil, "R0 | / R1 | / R2 | / H3 + |"},
	})
}

// TestVariables: a variable is no step; to give it to another one is.
func TestVariables(t *testing.T) {
	cut(t, []row{
		{"var x; var y; x = 5; y = x; x = y + x;", nil, "R0 | 0 0 / R1 | 5 0 / R2 | 5 5 / H3 | 10 5"},
		{"var x; x = x;", nil, "R0 | 0 / H1 | 0"},
		{"var x; x = 5; x = -x; x = -x;", nil, "R0 | 0 / R1 | 5 / R2 | -5 / H3 | 5"},
		{"var x; x = 5; x = --x;", nil, "R0 | 0 / R1 | 5 / R2 | 5 / H3 | 5"},
		{"var y; var x; y = 1; x = 2;", nil, "R0 | 0 0 / R1 | 1 0 / H2 | 1 2"},
		{"var x; x = x + x + x;", nil, "R0 | 0 / R1 | 0 / H2 | 0"},
	})
}

func TestOperations(t *testing.T) {
	cut(t, []row{
		{"var x; x = 7 + 2;", nil, "R0 | 0 / H1 | 9"}, {"var x; x = 7 - 2;", nil, "R0 | 0 / H1 | 5"}, {"var x; x = 7 * 2;", nil, "R0 | 0 / H1 | 14"},
		{"var x; x = 7 / 2;", nil, "R0 | 0 / H1 | 3"}, {"var x; x = 7 % 2;", nil, "R0 | 0 / H1 | 1"},
		{"var x; x = -7 / 2;", nil, "R0 | 0 / H1 | -3"}, {"var x; x = -7 % 2;", nil, "R0 | 0 / H1 | -1"},
		{"var x; x = 7; x = -x;", nil, "R0 | 0 / R1 | 7 / H2 | -7"},
		{"var x; x = 1 + 2 * 3;", nil, "R0 | 0 / R1 | 0 / H2 | 7"}, {"var x; x = (1 + 2) * (3 + 4);", nil, "R0 | 0 / R1 | 0 / R2 | 0 / H3 | 21"},
		{"var x; x = MAX + 1;", nil, "R0 | 0 / O1 | 0"}, {"var x; x = -MAX - 2;", nil, "R0 | 0 / O1 | 0"}, {"var x; x = MAX * 2;", nil, "R0 | 0 / O1 | 0"},
		{"var x; x = MIN;", nil, "R0 | 0 / H1 | -9223372036854775808"},
		{"var x; x = -MIN;", nil, "R0 | 0 / R1 | 0 / O2 | 0"}, {"var x; x = MIN / -1;", nil, "R0 | 0 / R1 | 0 / O2 | 0"}, {"var x; x = MIN % -1;", nil, "R0 | 0 / R1 | 0 / O2 | 0"},
		{"var x; x = MIN / -2;", nil, "R0 | 0 / R1 | 0 / H2 | 4611686018427387904"},
		{"var x; x = 4; x = x / 0;", nil, "R0 | 0 / R1 | 4 / Z2 | 4"}, {"var x; x = 4; x = x % 0;", nil, "R0 | 0 / R1 | 4 / Z2 | 4"},
		{"var x; x = 0 / 0;", nil, "R0 | 0 / Z1 | 0"}, {"var x; x = 0 / 5;", nil, "R0 | 0 / H1 | 0"},
		// What stands behind isn't done.
		{"var x; x = 1 / 0; x = 3; skip;", nil, "R0 | 0 / Z1 | 0"}, {"var x; x = 1 + 1 / 0 + 1;", nil, "R0 | 0 / Z1 | 0"},
	})
}

func TestInputs(t *testing.T) {
	cut(t, []row{
		{"var x; x = input;", script(5), "R0 | 0 / H1 i5 | 5"}, {"var x; x = input;", script(0), "R0 | 0 / H1 i0 | 0"},
		{"var x; x = input;", script(-5, 6), "R0 | 0 / H1 i-5 | -5"}, {"var x; x = -input;", script(5), "R0 | 0 / R1 i5 | 0 / H2 i5 | -5"},
		{"var x; x = input;", script(most), "R0 | 0 / H1 i9223372036854775807 | 9223372036854775807"},
		{"var x; x = input;", script(least), "R0 | 0 / H1 i-9223372036854775808 | -9223372036854775808"},
		{"var x; x = -input;", script(least), "R0 | 0 / R1 i-9223372036854775808 | 0 / O2 i-9223372036854775808 | 0"},
		{"var x; x = (input + input) * (input - input);", script(1, 2, 3, 5), "R0 | 0 / R1 i1 | 0 / R2 i1 i2 | 0 / R3 i1 i2 | 0 / R4 i1 i2 i3 | 0 / R5 i1 i2 i3 i5 | 0 / R6 i1 i2 i3 i5 | 0 / H7 i1 i2 i3 i5 | -6"},
		{"var x; x = input - input;", script(9, 2), "R0 | 0 / R1 i9 | 0 / R2 i9 i2 | 0 / H3 i9 i2 | 7"},
		{"var x; var y; x = input; y = input; x = input;", script(3, 4, 5), "R0 | 0 0 / R1 i3 | 3 0 / R2 i3 i4 | 3 4 / H3 i3 i4 i5 | 5 4"},
	})
}

// TestNoInputLeft: the run is halted ahead of it, also where no step may be done any more.
func TestNoInputLeft(t *testing.T) {
	cut(t, []row{
		{"var x; x = input;", nil, "H0 | 0"}, {"var x; x = input; x = 1;", nil, "H0 | 0"},
		{"var x; x = 1; x = input; x = 2;", nil, "R0 | 0 / H1 | 1"},
		{"var x; x = input; x = input;", script(4), "R0 | 0 / H1 i4 | 4"},
		{"var x; x = input + input;", script(4), "R0 | 0 / H1 i4 | 0"}, {"var x; x = 1 + 2 + input;", nil, "R0 | 0 / H1 | 0"},
		{"var x; x = input + 1 / 0;", nil, "H0 | 0"}, {"var x; x = 1 / 0 + input;", nil, "R0 | 0 / Z1 | 0"},
		{"array a[2]; a[input] = 1;", nil, "H0 | [0 0]"}, {"array a[2]; a[input] = input;", script(5), "R0 | [0 0] / H1 i5 | [0 0]"},
		{"array a[2]; a[1] = a[input];", nil, "H0 | [0 0]"}, {"var x; x = --input;", nil, "H0 | 0"},
		{"skip; assert input < 1;", nil, "R0 | / H1 |"}, {"assert 1 < input;", nil, "H0 |"}, {"assume !1 < input;", nil, "H0 |"},
		{"if input < 1 { skip; }", nil, "H0 |"}, {"skip; while input < 1 { skip; }", script(0), "R0 | / R1 | / R2 i0 | / R3 i0 | / H4 i0 |"},
		{"if true { assert input == 1; }", nil, "R0 | / H1 |"},
		{"assert true && input < 1;", nil, "R0 | / H1 |"}, {"assert false || input < 1;", nil, "R0 | / H1 |"},
		// Behind what ends without a step.
		{"var x; if true { } else { } x = input;", nil, "R0 | 0 / H1 | 0"}, {"var x; while false { } x = input;", nil, "R0 | 0 / H1 | 0"},
		{"var x; assume true; x = input;", nil, "R0 | 0 / H1 | 0"},
	})
}

func TestItems(t *testing.T) {
	cut(t, []row{
		{"array a[3]; var x; a[1] = 5; x = a[1];", nil, "R0 | 0 [0 0 0] / R1 | 0 [0 5 0] / H2 | 5 [0 5 0]"},
		{"array a[3]; var x; x = a[0 + 1];", nil, "R0 | 0 [0 0 0] / R1 | 0 [0 0 0] / H2 | 0 [0 0 0]"},
		{"array a[3]; a[1] = 2; a[2] = 7; a[0] = a[a[1]];", nil, "R0 | [0 0 0] / R1 | [0 2 0] / R2 | [0 2 7] / R3 | [0 2 7] / R4 | [0 2 7] / H5 | [7 2 7]"},
		{"array a[2]; var x; x = a[0] + a[1];", nil, "R0 | 0 [0 0] / R1 | 0 [0 0] / R2 | 0 [0 0] / H3 | 0 [0 0]"},
		{"array a[3]; var x; x = a[-1];", nil, "R0 | 0 [0 0 0] / B1 | 0 [0 0 0]"}, {"array a[3]; var x; x = a[3];", nil, "R0 | 0 [0 0 0] / B1 | 0 [0 0 0]"},
		{"array a[3]; var x; x = a[0];", nil, "R0 | 0 [0 0 0] / H1 | 0 [0 0 0]"}, {"array a[3]; var x; x = a[2];", nil, "R0 | 0 [0 0 0] / H1 | 0 [0 0 0]"},
		{"array a[1]; var x; x = 4; x = a[1];", nil, "R0 | 0 [0] / R1 | 4 [0] / B2 | 4 [0]"}, {"array a[1]; var x; x = 4; x = a[0];", nil, "R0 | 0 [0] / R1 | 4 [0] / H2 | 0 [0]"},
		{"array a[1]; var x; x = a[MAX];", nil, "R0 | 0 [0] / B1 | 0 [0]"}, {"array a[1]; var x; x = a[MIN];", nil, "R0 | 0 [0] / R1 | 0 [0] / B2 | 0 [0]"},
		{"array a[2]; var x; x = a[4294967296];", nil, "R0 | 0 [0 0] / B1 | 0 [0 0]"},
	})
}

func TestStores(t *testing.T) {
	cut(t, []row{
		{"array a[3]; a[0] = 4; a[2] = -5;", nil, "R0 | [0 0 0] / R1 | [4 0 0] / H2 | [4 0 -5]"},
		{"array a[3]; a[3] = 4;", nil, "R0 | [0 0 0] / B1 | [0 0 0]"}, {"array a[3]; a[-1] = 4;", nil, "R0 | [0 0 0] / B1 | [0 0 0]"},
		{"array a[1]; a[0] = 4; a[1] = 5;", nil, "R0 | [0] / R1 | [4] / B2 | [4]"}, {"array a[1]; a[MAX] = 1;", nil, "R0 | [0] / B1 | [0]"},
		{"array a[1]; a[MIN] = 1;", nil, "R0 | [0] / R1 | [0] / B2 | [0]"}, {"array a[2]; a[-4294967296] = 1;", nil, "R0 | [0 0] / B1 | [0 0]"},
		// The index, the value, and then the step.
		{"array a[4]; a[1 + 2] = 3 * 4;", nil, "R0 | [0 0 0 0] / R1 | [0 0 0 0] / R2 | [0 0 0 0] / H3 | [0 0 0 12]"},
		{"array a[3]; a[input] = input;", script(2, 1), "R0 | [0 0 0] / R1 i2 | [0 0 0] / R2 i2 i1 | [0 0 0] / H3 i2 i1 | [0 0 1]"},
		{"array a[3]; a[9] = input;", script(4), "R0 | [0 0 0] / R1 i4 | [0 0 0] / B2 i4 | [0 0 0]"}, {"array a[3]; a[9] = input;", nil, "H0 | [0 0 0]"},
		{"array a[2]; a[0] = 1; a[a[0]] = a[0];", nil, "R0 | [0 0] / R1 | [1 0] / R2 | [1 0] / R3 | [1 0] / H4 | [1 1]"},
		// Each array has its own places and its own size.
		{"array a[1]; var x; array b[2]; var a1; b[1] = 3; a[0] = 4; x = b[1]; a1 = a[0]; a[1] = 5;", nil,
			"R0 | 0 0 [0] [0 0] / R1 | 0 0 [0] [0 3] / R2 | 0 0 [4] [0 3] / R3 | 3 0 [4] [0 3] / R4 | 3 4 [4] [0 3] / B5 | 3 4 [4] [0 3]"},
	})
}

// TestEachPlace: each place of arrays of all sorts of sizes is reached, and those next to them aren't.
func TestEachPlace(t *testing.T) {
	p, q := read(t, "array b[2]; array a[1024]; array c[2]; var x; a[input] = 7; x = a[input];"), read(t, "array a[1]; a[input] = 7;")
	for _, size := range []int{1, 2, 3, 7, 1023, 1024} {
		p.Decls[1].Size, q.Decls[0].Size = size, size
		for at := -2; at < size+2; at++ {
			o := ran(t, p, script(int64(at), int64(at)), 9)
			if at < 0 || at >= size {
				if standing(o) != "B" || o.Steps != 2 || standing(ran(t, q, script(int64(at)), 9)) != "B" {
					t.Errorf("P8.1: place %d of %d: %.300s", at, size, told(o))
				}
				continue
			}
			if standing(o) != "H" || o.Steps != 4 || o.Vars[0] != 7 || o.Arrays[1][at] != 7 || len(o.Arrays[1]) != size {
				t.Errorf("P8.1: place %d of %d: %.300s", at, size, told(o))
			}
			for i, n := range o.Arrays[1] {
				if (n != 0) != (i == at) {
					t.Errorf("P8.1: place %d of %d: %d at %d", at, size, n, i)
				}
			}
		}
	}
}
