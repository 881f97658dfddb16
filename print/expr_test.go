package print

import (
	"math"
	"strings"
	"testing"

	"gnomon/api"
)

func TestExamples(t *testing.T) {
	exprWrites(t, two(api.EMul, two(api.EAdd, num(1), vari("x")), neg(neg(num(2)))), "(1 + x) * --2")
	exprWrites(t, two(api.ESub, num(1), two(api.ESub, num(2), num(3))), "1 - (2 - 3)")
	condWrites(t, not(both(api.CAnd, cmp(vari("a"), api.OpLt, num(1)), yes())), "![a < 1 && true]")
	p := api.Prog{
		Decls: []api.Decl{{Name: "x"}},
		Body:  []api.Stmt{choice(cmp(vari("x"), api.OpLt, num(1)), []api.Stmt{assign("x", num(1))}, []api.Stmt{skip()})},
	}
	progWrites(t, p, "var x;", "if x < 1 {", "  x = 1;", "} else {", "  skip;", "}")
}

func TestSimpleExprs(t *testing.T) {
	for n, want := range map[int64]string{0: "0", 1: "1", 9: "9", 10: "10", 1000000: "1000000", 1 << 53: "9007199254740992", 1<<62 + 1: "4611686018427387905", math.MaxInt64 - 1: "9223372036854775806", math.MaxInt64: "9223372036854775807"} {
		exprWrites(t, num(n), want)
		exprWrites(t, neg(num(n)), "-"+want)
		exprWrites(t, item("a", num(n)), "a["+want+"]")
	}
	for _, s := range []string{"x", "X1", "_", "_1", "inputs", "é", "Σж", "ȿ2", strings.Repeat("Ж", api.MaxName)} {
		exprWrites(t, vari(s), s)
		exprWrites(t, item(s, num(0)), s+"[0]")
		exprWrites(t, item(s, item(s, vari(s))), s+"["+s+"["+s+"]]")
	}
	exprWrites(t, input(), "input")
	exprWrites(t, neg(input()), "-input")
	exprWrites(t, item("a", input()), "a[input]")
}

func TestSignsOfOperations(t *testing.T) {
	for kind, want := range map[int]string{api.EAdd: "7 + x", api.ESub: "7 - x", api.EMul: "7 * x", api.EDiv: "7 / x", api.ERem: "7 % x"} {
		exprWrites(t, two(kind, num(7), vari("x")), want)
	}
}

// exprInner: an expression of each kind, by its text.
func exprInner() map[string]api.Expr {
	x, y := vari("x"), vari("y")
	return map[string]api.Expr{
		"7": num(7), "x": x, "input": input(), "a[x]": item("a", x), "-x": neg(x),
		"x + y": two(api.EAdd, x, y), "x - y": two(api.ESub, x, y),
		"x * y": two(api.EMul, x, y), "x / y": two(api.EDiv, x, y), "x % y": two(api.ERem, x, y),
	}
}

// exprPlace: where an argument stands, and the signs of the operations that need parentheses there.
type exprPlace struct {
	shape string
	with  func(api.Expr) api.Expr
	needs string
}

// wraps: whether a text of one operation, or of none, needs parentheses there.
func (p exprPlace) wraps(text string) bool {
	_, behind, operation := strings.Cut(text, " ")
	return operation && strings.Contains(p.needs, behind[:1])
}

// write: the place with a text in it.
func (p exprPlace) write(text string, wrapped bool) string {
	if wrapped {
		text = "(" + text + ")"
	}
	return in(p.shape, text)
}

func exprPlaces() []exprPlace {
	first := func(kind int) func(api.Expr) api.Expr {
		return func(e api.Expr) api.Expr { return two(kind, e, num(1)) }
	}
	second := func(kind int) func(api.Expr) api.Expr {
		return func(e api.Expr) api.Expr { return two(kind, num(1), e) }
	}
	return []exprPlace{
		{"b[@]", func(e api.Expr) api.Expr { return item("b", e) }, ""},
		{"-@", neg, "+-*/%"},
		{"@ + 1", first(api.EAdd), ""},
		{"@ - 1", first(api.ESub), ""},
		{"@ * 1", first(api.EMul), "+-"},
		{"@ / 1", first(api.EDiv), "+-"},
		{"@ % 1", first(api.ERem), "+-"},
		{"1 + @", second(api.EAdd), "+-"},
		{"1 - @", second(api.ESub), "+-"},
		{"1 * @", second(api.EMul), "+-*/%"},
		{"1 / @", second(api.EDiv), "+-*/%"},
		{"1 % @", second(api.ERem), "+-*/%"},
	}
}

// TestEachKindAsEachArgument: with the parentheses that it needs, and without those that it doesn't: a tree's text without the ones that stand in it is another tree's.
func TestEachKindAsEachArgument(t *testing.T) {
	for _, place := range exprPlaces() {
		for text, e := range exprInner() {
			whole, bare, needed := place.with(e), place.write(text, false), place.wraps(text)
			exprWrites(t, whole, place.write(text, needed))
			if exprReads(bare, whole) == needed {
				t.Errorf("P5.1: %s: whether it needs parentheses isn't %t", bare, needed)
			}
		}
	}
}

// TestArgumentsWithinArguments: what an argument needs hangs on what it stands in, not on what that stands in.
func TestArgumentsWithinArguments(t *testing.T) {
	for _, outer := range exprPlaces() {
		for _, inner := range exprPlaces() {
			for text, e := range exprInner() {
				within := inner.write(text, inner.wraps(text))
				exprWrites(t, outer.with(inner.with(e)), outer.write(within, outer.wraps(inner.shape)))
			}
		}
	}
}

func TestNegatives(t *testing.T) {
	x, y := vari("x"), vari("y")
	exprWrites(t, neg(neg(x)), "--x")
	exprWrites(t, neg(neg(neg(neg(num(0))))), "----0")
	exprWrites(t, two(api.EMul, neg(x), y), "-x * y")
	exprWrites(t, two(api.EMul, x, neg(y)), "x * -y")
	exprWrites(t, two(api.EMul, neg(x), neg(y)), "-x * -y")
	exprWrites(t, two(api.EMul, neg(neg(x)), neg(neg(y))), "--x * --y")
	exprWrites(t, neg(two(api.EMul, x, y)), "-(x * y)")
	exprWrites(t, neg(neg(two(api.EMul, x, y))), "--(x * y)")
	exprWrites(t, neg(two(api.EMul, neg(x), neg(y))), "-(-x * -y)")
	exprWrites(t, two(api.ESub, neg(x), neg(y)), "-x - -y")
	exprWrites(t, two(api.ESub, x, neg(two(api.ESub, x, y))), "x - -(x - y)")
	exprWrites(t, neg(item("a", neg(x))), "-a[-x]")
}

// TestChains: of operations put together from either side.
func TestChains(t *testing.T) {
	for _, c := range []struct {
		kinds []int
		signs []string
	}{{[]int{api.EAdd, api.ESub}, []string{" + ", " - "}}, {[]int{api.EMul, api.EDiv, api.ERem}, []string{" * ", " / ", " % "}}} {
		left, right := num(0), num(0)
		fromLeft, fromRight := "0", "0"
		for i := range api.MaxDepth - 1 {
			kind, sign := c.kinds[i%len(c.kinds)], c.signs[i%len(c.signs)]
			left, fromLeft = two(kind, left, num(1)), fromLeft+sign+"1"
			if i > 0 {
				fromRight = "(" + fromRight + ")"
			}
			right, fromRight = two(kind, num(1), right), "1"+sign+fromRight
			exprWrites(t, left, fromLeft)
			exprWrites(t, right, fromRight)
		}
	}
}

// wide: a sum of n names, held together in halves.
func wide(n int, name string) api.Expr {
	if n == 1 {
		return vari(name)
	}
	return two(api.EAdd, wide(n-n/2, name), wide(n/2, name))
}

// TestLongExprsAndConds: what is too long as a program isn't as an expression, or a condition.
func TestLongExprsAndConds(t *testing.T) {
	name := strings.Repeat("Ж", api.MaxName)
	e := wide(2000, name)
	s, f := Expr(e)
	if f != api.OK || strings.Count(s, name) != 2000 || !strings.HasPrefix(s, name+" + ") {
		t.Errorf("P5.1: %.80s, %d bytes, %d", s, len(s), f)
	}
	c, f := Cond(cmp(num(1), api.OpLt, e))
	if f != api.OK || c != "1 < "+s {
		t.Errorf("P5.2: %.80s, %d bytes, %d", c, len(c), f)
	}
	refuses(t, "a long expression", body(assign("x", e)), api.ErrPrintLong)
}
