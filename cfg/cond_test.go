package cfg

import "testing"

// TestComparisons: each op, and the one that holds just where it doesn't.
func TestComparisons(t *testing.T) {
	for _, r := range []row{{"<", ">="}, {"<=", ">"}, {"==", "!="}, {"!=", "=="}, {">", "<="}, {">=", "<"}} {
		lowers(t, []row{
			{"var x; if x " + r.source + " 1 { skip; }", "3 1 0 | 0>2 v0" + r.source + "1; 0>1 v0" + r.want + "1; 2>1 nop"},
			{"var x; if 1 " + r.source + " x { } else { skip; }", "3 1 0 | 0>1 1" + r.source + "v0; 0>2 1" + r.want + "v0; 2>1 nop"},
			{"var x; if !x " + r.source + " 1 { skip; }", "3 1 0 | 0>1 v0" + r.source + "1; 0>2 v0" + r.want + "1; 2>1 nop"},
		})
	}
	lowers(t, []row{
		{"if 1 < 2 { skip; }", "3 1 0 | 0>2 1<2; 0>1 1>=2; 2>1 nop"}, {"var x; if x == x { skip; }", "3 1 0 | 0>2 v0==v0; 0>1 v0!=v0; 2>1 nop"},
		// The second expression is at the depth 1 only if the first one is a temporary.
		{"var x; if x + 1 < x { skip; }", "4 1 1 | 0>3 v1=v0+1; 3>2 v1<v0; 3>1 v1>=v0; 2>1 nop"},
		{"var x; if x < x + 1 { skip; }", "4 1 1 | 0>3 v1=v0+1; 3>2 v0<v1; 3>1 v0>=v1; 2>1 nop"},
		{"var x; if 2 < x + 1 { skip; }", "4 1 1 | 0>3 v1=v0+1; 3>2 2<v1; 3>1 2>=v1; 2>1 nop"},
		{"var x; if x + 1 < x + 2 { skip; }", "5 1 2 | 0>3 v1=v0+1; 3>4 v2=v0+2; 4>2 v1<v2; 4>1 v1>=v2; 2>1 nop"},
		{"var x; if input * input < input { skip; }", "7 1 2 | 0>4 v1=input; 4>5 v2=input; 5>3 v1=v1*v2; 3>6 v2=input; 6>2 v1<v2; 6>1 v1>=v2; 2>1 nop"},
		{"var x; if 1 < input * input { skip; }", "6 1 2 | 0>4 v1=input; 4>5 v2=input; 5>3 v1=v1*v2; 3>2 1<v1; 3>1 1>=v1; 2>1 nop"},
	})
}

// TestNot: it turns the two ways round, and makes nothing of its own.
func TestNot(t *testing.T) {
	lowers(t, []row{
		{"if !true { skip; }", "3 1 0 | 0>1 nop; 2>1 nop"}, {"if !false { skip; }", "3 1 0 | 0>2 nop; 2>1 nop"}, {"if !!true { skip; }", "3 1 0 | 0>2 nop; 2>1 nop"},
		{"if !true { } else { skip; }", "3 1 0 | 0>2 nop; 2>1 nop"}, {"assert !true;", "4 1 0 | 0>3 nop; 2>1 pass; 3>1 fail"}, {"assume !true; skip;", "3 1 0 | 0>1 nop; 2>1 nop"},
		{"while !false { }", "2 1 0 | 0>0 nop"}, {"while !true { skip; }", "3 1 0 | 0>1 nop; 2>0 nop"},
		{"var x; assert !x < 1;", "4 1 0 | 0>3 v0<1; 0>2 v0>=1; 2>1 pass; 3>1 fail"}, {"var x; assert !!!x < 1;", "4 1 0 | 0>3 v0<1; 0>2 v0>=1; 2>1 pass; 3>1 fail"},
		{"assert ![true && false];", "5 1 0 | 0>4 nop; 4>2 nop; 2>1 pass; 3>1 fail"}, {"assert ![true || false];", "5 1 0 | 0>3 nop; 4>2 nop; 2>1 pass; 3>1 fail"},
		{"assert !true && !false;", "5 1 0 | 0>3 nop; 4>2 nop; 2>1 pass; 3>1 fail"}, {"assert !true || !false;", "5 1 0 | 0>4 nop; 4>2 nop; 2>1 pass; 3>1 fail"},
	})
}

// TestAndOr: the second part is asked at a fresh point, to which the first one goes where it doesn't tell.
func TestAndOr(t *testing.T) {
	lowers(t, []row{
		{"assert true && true;", "5 1 0 | 0>4 nop; 4>2 nop; 2>1 pass; 3>1 fail"}, {"assert true && false;", "5 1 0 | 0>4 nop; 4>3 nop; 2>1 pass; 3>1 fail"},
		{"assert false && true;", "5 1 0 | 0>3 nop; 4>2 nop; 2>1 pass; 3>1 fail"}, {"assert false && false;", "5 1 0 | 0>3 nop; 4>3 nop; 2>1 pass; 3>1 fail"},
		{"assert true || true;", "5 1 0 | 0>2 nop; 4>2 nop; 2>1 pass; 3>1 fail"}, {"assert true || false;", "5 1 0 | 0>2 nop; 4>3 nop; 2>1 pass; 3>1 fail"},
		{"assert false || true;", "5 1 0 | 0>4 nop; 4>2 nop; 2>1 pass; 3>1 fail"}, {"assert false || false;", "5 1 0 | 0>4 nop; 4>3 nop; 2>1 pass; 3>1 fail"},
		{"var x; if x > 1 && x < 5 { x = 7; }", "4 1 0 | 0>3 v0>1; 0>1 v0<=1; 3>2 v0<5; 3>1 v0>=5; 2>1 v0=7"},
		{"var x; if x > 1 || x < 5 { x = 7; }", "4 1 0 | 0>2 v0>1; 0>3 v0<=1; 3>2 v0<5; 3>1 v0>=5; 2>1 v0=7"},
		{"var x; while x > 1 && x < 5 { }", "3 1 0 | 0>2 v0>1; 0>1 v0<=1; 2>0 v0<5; 2>1 v0>=5"},
		// The fresh point comes ahead of those that the parts make.
		{"var x; assume input < 1 && input < 2;", "5 1 1 | 0>3 v1=input; 3>2 v1<1; 3>1 v1>=1; 2>4 v1=input; 4>1 v1<2; 4>1 v1>=2"},
		{"var x; assume input < 1 || input < 2;", "5 1 1 | 0>3 v1=input; 3>1 v1<1; 3>2 v1>=1; 2>4 v1=input; 4>1 v1<2; 4>1 v1>=2"},
	})
}

// TestWithinOneAnother: conditions below all of CNot, CAnd and COr.
func TestWithinOneAnother(t *testing.T) {
	lowers(t, []row{
		{"var x; assert x < 1 && x < 2 && x < 3;", "6 1 0 | 0>5 v0<1; 0>3 v0>=1; 5>4 v0<2; 5>3 v0>=2; 4>2 v0<3; 4>3 v0>=3; 2>1 pass; 3>1 fail"},
		{"var x; assert x < 1 && [x < 2 && x < 3];", "6 1 0 | 0>4 v0<1; 0>3 v0>=1; 4>5 v0<2; 4>3 v0>=2; 5>2 v0<3; 5>3 v0>=3; 2>1 pass; 3>1 fail"},
		{"var x; assert x < 1 || x < 2 || x < 3;", "6 1 0 | 0>2 v0<1; 0>5 v0>=1; 5>2 v0<2; 5>4 v0>=2; 4>2 v0<3; 4>3 v0>=3; 2>1 pass; 3>1 fail"},
		{"var x; assert x < 1 || [x < 2 || x < 3];", "6 1 0 | 0>2 v0<1; 0>4 v0>=1; 4>2 v0<2; 4>5 v0>=2; 5>2 v0<3; 5>3 v0>=3; 2>1 pass; 3>1 fail"},
		{"var x; assert x < 1 && x < 2 || x < 3;", "6 1 0 | 0>5 v0<1; 0>4 v0>=1; 5>2 v0<2; 5>4 v0>=2; 4>2 v0<3; 4>3 v0>=3; 2>1 pass; 3>1 fail"},
		{"var x; assert x < 1 && [x < 2 || x < 3];", "6 1 0 | 0>4 v0<1; 0>3 v0>=1; 4>2 v0<2; 4>5 v0>=2; 5>2 v0<3; 5>3 v0>=3; 2>1 pass; 3>1 fail"},
		{"var x; assert x < 1 || x < 2 && x < 3;", "6 1 0 | 0>2 v0<1; 0>4 v0>=1; 4>5 v0<2; 4>3 v0>=2; 5>2 v0<3; 5>3 v0>=3; 2>1 pass; 3>1 fail"},
		{"var x; assert [x < 1 || x < 2] && x < 3;", "6 1 0 | 0>4 v0<1; 0>5 v0>=1; 5>4 v0<2; 5>3 v0>=2; 4>2 v0<3; 4>3 v0>=3; 2>1 pass; 3>1 fail"},
		{"var x; assert ![x < 1 && x < 2] || x < 3;", "6 1 0 | 0>5 v0<1; 0>2 v0>=1; 5>4 v0<2; 5>2 v0>=2; 4>2 v0<3; 4>3 v0>=3; 2>1 pass; 3>1 fail"},
		{"var x; assert !![x < 1 || !x < 2];", "5 1 0 | 0>2 v0<1; 0>4 v0>=1; 4>3 v0<2; 4>2 v0>=2; 2>1 pass; 3>1 fail"},
		{"var x; assert ![!x < 1 && !x < 2];", "5 1 0 | 0>2 v0<1; 0>4 v0>=1; 4>2 v0<2; 4>3 v0>=2; 2>1 pass; 3>1 fail"},
	})
}
