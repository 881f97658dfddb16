package cfg

import (
	"fmt"
	"testing"
)

func TestExamples(t *testing.T) {
	lowers(t, []row{
		{"var x; x = (x + 1) * input;", "4 1 2 | 0>2 v1=v0+1; 2>3 v2=input; 3>1 v0=v1*v2"},
		{"var x; while x < 3 { x = x + 1; }", "3 1 0 | 0>2 v0<3; 0>1 v0>=3; 2>0 v0=v0+1"},
	})
	c := lowered(t, read(t, "var x; while x < 3 { x = x + 1; }"))
	if got := fmt.Sprint(takes(t, "the example", c).heads); got != "[0]" {
		t.Errorf("P9.3: %s", got)
	}
}

// TestHowMany: a program without a statement, with one, with many.
func TestHowMany(t *testing.T) {
	lowers(t, []row{
		{"", "1 0 0 |"}, {"var x; array a[3];", "1 0 0 |"},
		{"skip;", "2 1 0 | 0>1 nop"},
		{"skip; skip;", "3 1 0 | 0>2 nop; 2>1 nop"},
		{"skip; skip; skip;", "4 1 0 | 0>2 nop; 2>3 nop; 3>1 nop"},
		{"skip; skip; skip; skip; skip;", "6 1 0 | 0>2 nop; 2>3 nop; 3>4 nop; 4>5 nop; 5>1 nop"},
		// The points between statements come ahead of those within them.
		{"var x; x = x + 1 + 2; x = -(x + 1); skip;", "6 1 1 | 0>4 v1=v0+1; 4>2 v0=v1+2; 2>5 v1=v0+1; 5>3 v0=-(v1); 3>1 nop"},
		{"assert true; if true { skip; } assume true;", "7 1 0 | 0>4 nop; 4>2 pass; 5>2 fail; 2>6 nop; 6>3 nop; 3>1 nop"},
	})
}

// TestNames: the variables and the arrays of a graph are the declared ones, each kind in its order.
func TestNames(t *testing.T) {
	for _, r := range []row{
		{"", `[] [] 1 0 0 |`},
		{"var x; skip;", `["x"] [] 2 1 0 | 0>1 nop`},
		{"array a[7]; skip;", `[] [{a 7}] 2 1 0 | 0>1 nop`},
		{"var z; array b[3]; var y; array a[1024]; y = z; b[0] = y; a[1] = z;", `["z" "y"] [{b 3} {a 1024}] 4 1 0 | 0>2 v1=v0; 2>3 a0[0]=v1; 3>1 a1[1]=v0`},
		{"array b[1]; array a[2]; var é; var _; é = a[_]; _ = b[é];", `["é" "_"] [{b 1} {a 2}] 3 1 0 | 0>2 v0=a1[v1]; 2>1 v1=a0[v0]`},
		// The temporaries have no names, and stand behind variables that aren't used, too.
		{"var x; var y; var z; x = 1 + 2 + input;", `["x" "y" "z"] [] 4 1 2 | 0>2 v3=1+2; 2>3 v4=input; 3>1 v0=v3+v4`},
		{"assert 1 + 2 < 3;", `[] [] 5 1 1 | 0>4 v0=1+2; 4>2 v0<3; 4>3 v0>=3; 2>1 pass; 3>1 fail`},
	} {
		if got := whole(lowered(t, read(t, r.source))); got != r.want {
			t.Errorf("P9.1: %q: %s; want %s", r.source, got, r.want)
		}
	}
}

func TestAssigns(t *testing.T) {
	lowers(t, []row{
		{"var x; x = 7;", "2 1 0 | 0>1 v0=7"}, {"var x; x = 0;", "2 1 0 | 0>1 v0=0"}, {"var x; x = -7;", "2 1 0 | 0>1 v0=-7"}, {"var x; x = -0;", "2 1 0 | 0>1 v0=0"},
		{"var x; x = x;", "2 1 0 | 0>1 v0=v0"}, {"var x; var y; x = y; y = x;", "3 1 0 | 0>2 v0=v1; 2>1 v1=v0"},
		{"var x; var y; y = -x;", "2 1 0 | 0>1 v1=-(v0)"}, {"var x; var y; y = input;", "2 1 0 | 0>1 v1=input"},
		{"var x; var y; array a[2]; y = a[x];", "2 1 0 | 0>1 v1=a0[v0]"}, {"var x; var y; y = x + 3;", "2 1 0 | 0>1 v1=v0+3"},
	})
}

func TestStores(t *testing.T) {
	lowers(t, []row{
		{"array a[2]; a[1] = 4;", "2 1 0 | 0>1 a0[1]=4"}, {"array a[2]; a[-1] = -4;", "2 1 0 | 0>1 a0[-1]=-4"},
		{"array a[2]; array b[3]; var x; var y; b[y] = x;", "2 1 0 | 0>1 a1[v1]=v0"}, {"array a[2]; array b[3]; a[0] = 0; b[0] = 0;", "3 1 0 | 0>2 a0[0]=0; 2>1 a1[0]=0"},
		// The value is at the depth 1 only if the index is a temporary.
		{"array a[2]; var x; a[x + 1] = x;", "3 1 1 | 0>2 v1=v0+1; 2>1 a0[v1]=v0"},
		{"array a[2]; var x; a[x] = x + 1;", "3 1 1 | 0>2 v1=v0+1; 2>1 a0[v0]=v1"}, {"array a[2]; a[1] = input;", "3 1 1 | 0>2 v0=input; 2>1 a0[1]=v0"},
		{"array a[2]; var x; a[x + 1] = x - 1;", "4 1 2 | 0>2 v1=v0+1; 2>3 v2=v0-1; 3>1 a0[v1]=v2"},
		{"array a[2]; a[input] = input;", "4 1 2 | 0>2 v0=input; 2>3 v1=input; 3>1 a0[v0]=v1"},
		{"array a[2]; var x; a[x * 2 + 1] = x * 3 + 1;", "6 1 2 | 0>3 v1=v0*2; 3>2 v1=v1+1; 2>5 v2=v0*3; 5>4 v2=v2+1; 4>1 a0[v1]=v2"},
		{"array a[2]; a[a[a[1]]] = a[1];", "5 1 2 | 0>3 v0=a0[1]; 3>2 v0=a0[v0]; 2>4 v1=a0[1]; 4>1 a0[v0]=v1"},
	})
}

// TestBranches: with blocks that are empty and blocks that aren't, in each place.
func TestBranches(t *testing.T) {
	lowers(t, []row{
		{"if true { }", "2 1 0 | 0>1 nop"}, {"if false { }", "2 1 0 | 0>1 nop"}, {"var x; if x < 1 { } else { }", "2 1 0 | 0>1 v0<1; 0>1 v0>=1"},
		{"var x; if x < 1 { skip; }", "3 1 0 | 0>2 v0<1; 0>1 v0>=1; 2>1 nop"},
		{"var x; if x < 1 { } else { skip; }", "3 1 0 | 0>1 v0<1; 0>2 v0>=1; 2>1 nop"},
		{"var x; if x < 1 { x = 2; } else { x = 3; }", "4 1 0 | 0>2 v0<1; 0>3 v0>=1; 2>1 v0=2; 3>1 v0=3"},
		{"if true { skip; } else { skip; }", "4 1 0 | 0>2 nop; 2>1 nop; 3>1 nop"}, {"if false { skip; } else { skip; }", "4 1 0 | 0>3 nop; 2>1 nop; 3>1 nop"},
		{"var x; if x < 1 { x = 2; skip; } else { x = 3; x = 4; skip; }", "7 1 0 | 0>2 v0<1; 0>3 v0>=1; 2>4 v0=2; 4>1 nop; 3>5 v0=3; 5>6 v0=4; 6>1 nop"},
		{"skip; if true { skip; } else { skip; } skip;", "6 1 0 | 0>2 nop; 2>4 nop; 4>3 nop; 5>3 nop; 3>1 nop"},
		{"skip; if true { } skip;", "4 1 0 | 0>2 nop; 2>3 nop; 3>1 nop"},
		// The beginnings come ahead of the condition's points, those ahead of what is in the blocks.
		{"var x; if x + 1 < 2 { x = x + 3 + 4; } else { x = x + 5 + 6; }", "7 1 1 | 0>4 v1=v0+1; 4>2 v1<2; 4>3 v1>=2; 2>5 v1=v0+3; 5>1 v0=v1+4; 3>6 v1=v0+5; 6>1 v0=v1+6"},
		// One within another.
		{"if true { if true { skip; } else { skip; } } else { if false { } else { skip; } }", "7 1 0 | 0>2 nop; 2>4 nop; 4>1 nop; 5>1 nop; 3>6 nop; 6>1 nop"},
		{"if true { if true { } } else { if false { } }", "4 1 0 | 0>2 nop; 2>1 nop; 3>1 nop"},
	})
}

func TestLoops(t *testing.T) {
	lowers(t, []row{
		{"while true { }", "2 1 0 | 0>0 nop"}, {"while false { }", "2 1 0 | 0>1 nop"}, {"var x; while x < 1 { }", "2 1 0 | 0>0 v0<1; 0>1 v0>=1"},
		{"while true { skip; }", "3 1 0 | 0>2 nop; 2>0 nop"}, {"while false { skip; }", "3 1 0 | 0>1 nop; 2>0 nop"},
		{"var x; while x < 1 { x = 2; skip; }", "4 1 0 | 0>2 v0<1; 0>1 v0>=1; 2>3 v0=2; 3>0 nop"},
		{"skip; while true { } skip;", "4 1 0 | 0>2 nop; 2>2 nop; 3>1 nop"},
		{"var x; skip; while x < 1 { skip; skip; } x = 3;", "6 1 0 | 0>2 nop; 2>4 v0<1; 2>3 v0>=1; 4>5 nop; 5>2 nop; 3>1 v0=3"},
		// The condition's own points are gone through each time.
		{"var x; while x + 1 < input { }", "4 1 2 | 0>2 v1=v0+1; 2>3 v2=input; 3>0 v1<v2; 3>1 v1>=v2"},
		{"var x; while x + 1 < 2 { x = x + 3; }", "4 1 1 | 0>3 v1=v0+1; 3>2 v1<2; 3>1 v1>=2; 2>0 v0=v0+3"},
		{"var x; var y; while x < 1 { while y < 2 { y = 3; } }", "4 1 0 | 0>2 v0<1; 0>1 v0>=1; 2>3 v1<2; 2>0 v1>=2; 3>2 v1=3"},
		{"var x; while x < 1 { if x < 2 { } else { skip; } }", "4 1 0 | 0>2 v0<1; 0>1 v0>=1; 2>0 v0<2; 2>3 v0>=2; 3>0 nop"},
		{"while true { while true { while true { } } }", "4 1 0 | 0>2 nop; 2>3 nop; 3>3 nop"},
	})
}

func TestAsserts(t *testing.T) {
	lowers(t, []row{
		{"assert true;", "4 1 0 | 0>2 nop; 2>1 pass; 3>1 fail"}, {"assert false;", "4 1 0 | 0>3 nop; 2>1 pass; 3>1 fail"},
		{"var x; assert x < 1;", "4 1 0 | 0>2 v0<1; 0>3 v0>=1; 2>1 pass; 3>1 fail"},
		{"var x; assert x + 1 == x;", "5 1 1 | 0>4 v1=v0+1; 4>2 v1==v0; 4>3 v1!=v0; 2>1 pass; 3>1 fail"},
		{"assert true; assert false;", "7 1 0 | 0>3 nop; 3>2 pass; 4>2 fail; 2>6 nop; 5>1 pass; 6>1 fail"},
		{"while true { assert true; }", "5 1 0 | 0>2 nop; 2>3 nop; 3>0 pass; 4>0 fail"},
	})
}

// TestAssumes: where the condition doesn't hold, the way goes to Exit, from within blocks, too.
func TestAssumes(t *testing.T) {
	lowers(t, []row{
		{"assume true;", "2 1 0 | 0>1 nop"}, {"assume false;", "2 1 0 | 0>1 nop"}, {"var x; assume x < 1;", "2 1 0 | 0>1 v0<1; 0>1 v0>=1"},
		{"assume true; skip;", "3 1 0 | 0>2 nop; 2>1 nop"}, {"assume false; skip;", "3 1 0 | 0>1 nop; 2>1 nop"},
		{"var x; assume x < 1; skip;", "3 1 0 | 0>2 v0<1; 0>1 v0>=1; 2>1 nop"},
		{"var x; assume 1 < x + 2; skip;", "4 1 1 | 0>3 v1=v0+2; 3>2 1<v1; 3>1 1>=v1; 2>1 nop"},
		{"if true { assume false; skip; }", "4 1 0 | 0>2 nop; 2>1 nop; 3>1 nop"},
		{"var x; if x < 1 { assume x < 2; } else { assume x < 3; } skip;", "5 1 0 | 0>3 v0<1; 0>4 v0>=1; 3>2 v0<2; 3>1 v0>=2; 4>2 v0<3; 4>1 v0>=3; 2>1 nop"},
		{"var x; while true { assume x < 1; } skip;", "4 1 0 | 0>3 nop; 3>0 v0<1; 3>1 v0>=1; 2>1 nop"},
	})
}
