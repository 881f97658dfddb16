package print

import (
	"strings"
	"testing"

	"gnomon/api"
	"gnomon/parse"
	"gnomon/tree"
)

// goesBack: what P5.4 says of a program whose text isn't too long; it tells what parse.Parse answers of the text.
func goesBack(t *testing.T, p api.Prog) api.Errno {
	t.Helper()
	s, e := Print(p)
	if e != api.OK {
		t.Fatalf("P5.4: Print: %d", e)
	}
	q, at, e := parse.Parse(s)
	switch {
	case e != api.OK && e != api.ErrParseDeep:
		t.Errorf("P5.4: %.300q: %d at %v", s, e, at)
	case e == api.OK && !tree.Equal(p, q):
		t.Errorf("P5.4: %.300q is read as another tree", s)
	case e == api.OK:
		again, e := Print(q)
		writes(t, "P5.4", again, e, s)
	}
	return e
}

// isWritten: what P5.4 says of a source that parse.Parse takes: its canonical text.
func isWritten(t *testing.T, source, want string) {
	t.Helper()
	p, at, e := parse.Parse(source)
	if e != api.OK {
		t.Fatalf("%.100q: %d at %v", source, e, at)
	}
	s, e := Print(p)
	writes(t, "P5.4", s, e, want)
	if e := goesBack(t, p); e != api.OK {
		t.Errorf("P5.4: the text of %.100q isn't read: %d", source, e)
	}
}

func TestSources(t *testing.T) {
	for source, want := range map[string]string{
		"":                                     "",
		" # nothing\n":                         "",
		"var x;array a[7];":                    "var x;\narray a[7];\n",
		"x=1+2+3-4*5*6/7%8;":                   "x = 1 + 2 + 3 - 4 * 5 * 6 / 7 % 8;\n",
		"x=((((1)+(2))));":                     "x = 1 + 2;\n",
		"x=(1+2)+3;":                           "x = 1 + 2 + 3;\n",
		"x=1+(2+3);":                           "x = 1 + (2 + 3);\n",
		"x=1+(2*3);":                           "x = 1 + 2 * 3;\n",
		"x=(1-2)*(3%4);":                       "x = (1 - 2) * (3 % 4);\n",
		"x=-(-(1))*(-2);":                      "x = --1 * -2;\n",
		"x=-((1)*2);":                          "x = -(1 * 2);\n",
		"a [ ( i ) ] = ( a[((i)-1)] ) ;":       "a[i] = a[i - 1];\n",
		"assert [[[true]]];":                   "assert true;\n",
		"assert [true&&false]||true&&[false];": "assert true && false || true && false;\n",
		"assert true&&[false||true];":          "assert true && [false || true];\n",
		"assert![true]&&![!x<1];":              "assert !true && !!x < 1;\n",
		"assert![true&&true];":                 "assert ![true && true];\n",
		"assume(x)<=(1);":                      "assume x <= 1;\n",
		"if true{}else{}":                      "if true {\n}\n",
		"if true{}else{skip;}":                 "if true {\n} else {\n  skip;\n}\n",
		"if true{skip;}":                       "if true {\n  skip;\n}\n",
		"while[true]{while false{}skip;}":      "while true {\n  while false {\n  }\n  skip;\n}\n",
		"if true{if true{if true{}}else{x=1;}}else{if true{skip;}}": "if true {\n  if true {\n    if true {\n    }\n  } else {\n    x = 1;\n  }\n} else {\n  if true {\n    skip;\n  }\n}\n",
	} {
		isWritten(t, source, want)
		isWritten(t, want, want)
	}
}

// deepening: what goes one deeper, in a tree or for the reader.
func deepening() map[string]func(int) api.Prog {
	one, x := num(1), vari("x")
	expr := func(last api.Expr, f func(api.Expr) api.Expr) func(int) api.Prog {
		return func(n int) api.Prog { return body(assign("x", repeated(n, last, f))) }
	}
	cond := func(f func(api.Cond) api.Cond) func(int) api.Prog {
		return func(n int) api.Prog { return body(asks(api.SAssume, repeated(n, no(), f))) }
	}
	stmt := func(f func(api.Stmt) api.Stmt) func(int) api.Prog {
		return func(n int) api.Prog { return body(repeated(n, skip(), f)) }
	}
	return map[string]func(int) api.Prog{
		"while":       stmt(func(s api.Stmt) api.Stmt { return loop(yes(), s) }),
		"if":          stmt(func(s api.Stmt) api.Stmt { return choice(yes(), []api.Stmt{s}, nil) }),
		"else":        stmt(func(s api.Stmt) api.Stmt { return choice(yes(), nil, []api.Stmt{s}) }),
		"brackets":    cond(func(c api.Cond) api.Cond { return both(api.COr, yes(), c) }),
		"not":         cond(not),
		"not and":     cond(func(c api.Cond) api.Cond { return not(both(api.CAnd, yes(), c)) }),
		"neg":         expr(one, neg),
		"parentheses": expr(one, func(e api.Expr) api.Expr { return two(api.EMul, x, e) }),
		"neg of sum":  expr(two(api.EAdd, x, x), func(e api.Expr) api.Expr { return neg(two(api.ESub, e, x)) }),
		"index":       expr(one, func(e api.Expr) api.Expr { return item("a", e) }),
		"from left":   expr(one, func(e api.Expr) api.Expr { return two(api.EAdd, e, x) }),
		"conjunction": cond(func(c api.Cond) api.Cond { return both(api.CAnd, c, yes()) }),
	}
}

// TestDeepPrograms: each sort of depth, up to what a tree may have: what isn't read back is too deep for the reader, from its depth on, and for nothing else; what follows one another from the left never is.
func TestDeepPrograms(t *testing.T) {
	for what, f := range deepening() {
		count := map[api.Errno]int{}
		last := api.OK
		for n := 0; tree.Check(f(n)) == api.OK; n++ {
			e := goesBack(t, f(n))
			if last != api.OK && e == api.OK {
				t.Errorf("P5.4: %s: %d deep is read, but one less isn't", what, n)
			}
			last = e
			count[e]++
		}
		flat := what == "from left" || what == "conjunction"
		if count[api.OK] < 20 || flat != (count[api.ErrParseDeep] == 0) {
			t.Errorf("P5.4: %s: %v", what, count)
		}
	}
}

// TestDeepSources: what parse.Parse just takes is read again: parentheses and brackets only get fewer.
func TestDeepSources(t *testing.T) {
	for _, s := range []struct{ ahead, open, last, shut, behind string }{
		{"", "while true{", "", "}", ""}, {"", "if x<1{}else{", "", "}", ""}, {"x=", "(1+", "1", ")", ";"}, {"x=", "(", "1", ")", ";"},
		{"x=", "-", "1", "", ";"}, {"x=", "-(", "1", "*x)", ";"}, {"a[", "a[", "1", "]", "]=1;"}, {"assert ", "[", "true", "]", ";"},
		{"assert ", "[true&&", "true", "]", ";"}, {"assert ", "!", "true", "", ";"}, {"assert ", "![", "true", "||false]", ";"},
	} {
		for n := range 45 {
			source := s.ahead + strings.Repeat(s.open, n) + s.last + strings.Repeat(s.shut, n) + s.behind
			p, _, e := parse.Parse(source)
			if e == api.ErrParseDeep {
				continue
			}
			if back := goesBack(t, p); e != api.OK || back != api.OK {
				t.Errorf("P5.4: %s: %d; its text: %d", source, e, back)
			}
		}
	}
}

// TestLongSources: what is read may be too long to be written.
func TestLongSources(t *testing.T) {
	for skips, want := range map[int]api.Errno{100: api.OK, 900: api.OK, 1200: api.ErrPrintLong, 3000: api.ErrPrintLong} {
		p, _, e := parse.Parse(strings.Repeat("while true{", 30) + strings.Repeat("skip;", skips) + strings.Repeat("}", 30))
		if e != api.OK {
			t.Fatalf("%d skips: %d", skips, e)
		}
		if want != api.OK {
			refuses(t, "skips", p, want)
		} else if e := goesBack(t, p); e != api.OK {
			t.Errorf("P5.4: %d skips: %d", skips, e)
		}
	}
}
