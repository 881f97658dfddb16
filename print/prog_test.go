package print

import (
	"math"
	"slices"
	"strings"
	"testing"

	"gnomon/api"
)

func TestEmptyProgram(t *testing.T) {
	progWrites(t, api.Prog{})
	progWrites(t, api.Prog{Decls: []api.Decl{}, Body: []api.Stmt{}})
}

func TestDecls(t *testing.T) {
	for size, want := range map[int]string{0: "var é;", 1: "array é[1];", 10: "array é[10];", api.MaxSize + 1: "array é[1025];", math.MaxInt32: "array é[2147483647];"} {
		progWrites(t, api.Prog{Decls: []api.Decl{{Name: "é", Size: size}}}, want)
	}
	// In their order, whatever they are of, and ahead of the statements; the same name again, and one that isn't declared.
	p := api.Prog{
		Decls: []api.Decl{{Name: "b", Size: 3}, {Name: "x"}, {Name: "a", Size: 2}, {Name: "x"}, {Name: "b"}},
		Body:  []api.Stmt{assign("y", num(1)), skip(), assign("x", num(2))},
	}
	progWrites(t, p, "array b[3];", "var x;", "array a[2];", "var x;", "var b;", "y = 1;", "skip;", "x = 2;")
}

func TestSimpleStatements(t *testing.T) {
	progWrites(t, body(skip()), "skip;")
	progWrites(t, body(assign("x", two(api.ESub, vari("x"), num(1)))), "x = x - 1;")
	progWrites(t, body(store("a", num(0), vari("x"))), "a[0] = x;")
	progWrites(t, body(store("a", two(api.EMul, two(api.EAdd, vari("i"), num(1)), num(2)), neg(item("b", input())))), "a[(i + 1) * 2] = -b[input];")
	progWrites(t, body(asks(api.SAssert, not(both(api.COr, yes(), no())))), "assert ![true || false];")
	progWrites(t, body(asks(api.SAssume, cmp(vari("x"), api.OpEq, num(math.MaxInt64)))), "assume x == 9223372036854775807;")
}

func TestBranches(t *testing.T) {
	c, some := cmp(vari("x"), api.OpGt, num(1)), []api.Stmt{skip(), assign("x", num(1))}
	for _, none := range [][]api.Stmt{nil, {}} {
		progWrites(t, body(choice(c, some, some)), "if x > 1 {", "  skip;", "  x = 1;", "} else {", "  skip;", "  x = 1;", "}")
		progWrites(t, body(choice(c, some, none)), "if x > 1 {", "  skip;", "  x = 1;", "}")
		progWrites(t, body(choice(c, none, some)), "if x > 1 {", "} else {", "  skip;", "  x = 1;", "}")
		progWrites(t, body(choice(c, none, none)), "if x > 1 {", "}")
		progWrites(t, body(loop(c, some...)), "while x > 1 {", "  skip;", "  x = 1;", "}")
		progWrites(t, body(loop(c, none...)), "while x > 1 {", "}")
	}
	progWrites(t, body(choice(c, nil, []api.Stmt{choice(yes(), nil, some)}), skip()),
		"if x > 1 {", "} else {", "  if true {", "  } else {", "    skip;", "    x = 1;", "  }", "}", "skip;")
	progWrites(t, body(loop(both(api.COr, c, not(yes())))), "while x > 1 || !true {", "}")
}

// TestEachStatementAtEachDepth: each line of a statement has the blanks of the blocks around it, of each sort.
func TestEachStatementAtEachDepth(t *testing.T) {
	for _, sort := range []struct {
		with  func(api.Stmt) api.Stmt
		ahead []string
	}{
		{func(s api.Stmt) api.Stmt { return loop(yes(), s) }, []string{"while true {"}},
		{func(s api.Stmt) api.Stmt { return choice(yes(), []api.Stmt{s}, nil) }, []string{"if true {"}},
		{func(s api.Stmt) api.Stmt { return choice(yes(), nil, []api.Stmt{s}) }, []string{"if true {", "} else {"}},
	} {
		s := choice(no(), []api.Stmt{assign("x", num(1)), store("a", num(2), num(3)), loop(no())}, []api.Stmt{asks(api.SAssert, no()), asks(api.SAssume, no()), skip()})
		lines := []string{"if false {", "  x = 1;", "  a[2] = 3;", "  while false {", "  }", "} else {", "  assert false;", "  assume false;", "  skip;", "}"}
		for range api.MaxDepth - 3 {
			progWrites(t, body(s), lines...)
			for i := range lines {
				lines[i] = "  " + lines[i]
			}
			s, lines = sort.with(s), slices.Concat(sort.ahead, lines, []string{"}"})
		}
	}
}

// filler: declarations whose text has n bytes, and so many names of a letter that no tree gets too many of them.
func filler(n int, letter string) []api.Decl {
	const line = len("var ;\n")
	full := strings.Repeat(letter, 13)
	var l []api.Decl
	for ; n >= 2*(line+len(full)); n -= line + len(full) {
		l = append(l, api.Decl{Name: full})
	}
	rest := n - line
	return append(l, api.Decl{Name: strings.Repeat("a", rest%len(letter)) + strings.Repeat(letter, rest/len(letter))})
}

func TestLengthLimit(t *testing.T) {
	deep := repeated(20, loop(yes(), slices.Repeat([]api.Stmt{skip()}, 500)...), func(s api.Stmt) api.Stmt { return loop(yes(), s) })
	text, _ := Print(body(deep))
	for _, long := range []int{api.MaxText - 1, api.MaxText, api.MaxText + 1, api.MaxText + 2} {
		for what, p := range map[string]api.Prog{
			"a":           {Decls: filler(long, "a")},
			"é":           {Decls: filler(long, "é")}, // far fewer runes
			"a statement": {Decls: filler(long-len("x = 1;\n"), "a"), Body: []api.Stmt{assign("x", num(1))}},
			"a block":     {Decls: filler(long-len("if true {\n}\n"), "a"), Body: []api.Stmt{choice(yes(), nil, nil)}},
			"blocks":      {Decls: filler(long-len(text), "a"), Body: []api.Stmt{deep}},
		} {
			if long > api.MaxText {
				refuses(t, what, p, api.ErrPrintLong)
				continue
			}
			s, e := Print(p)
			if e != api.OK || len(s) != long {
				t.Errorf("P5.3: %s of %d bytes: %d, %d", what, long, len(s), e)
			}
			goesBack(t, p)
		}
	}
}

// TestFarTooLong: up to the longest text that a tree can have.
func TestFarTooLong(t *testing.T) {
	name := strings.Repeat("Ж", api.MaxName)
	most := slices.Repeat([]api.Stmt{skip()}, api.MaxNodes-2*(api.MaxDepth-1))
	nest := repeated(api.MaxDepth-1, most, func(l []api.Stmt) []api.Stmt { return []api.Stmt{loop(yes(), l...)} })
	refuses(t, "4096 names", api.Prog{Decls: slices.Repeat([]api.Decl{{Name: name}}, api.MaxNodes)}, api.ErrPrintLong)
	refuses(t, "blanks", body(nest...), api.ErrPrintLong)
}
