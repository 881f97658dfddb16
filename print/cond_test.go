package print

import (
	"slices"
	"testing"

	"gnomon/api"
)

func TestSimpleConds(t *testing.T) {
	condWrites(t, yes(), "true")
	condWrites(t, no(), "false")
	condWrites(t, not(yes()), "!true")
	condWrites(t, not(not(not(no()))), "!!!false")
}

func TestSignsOfComparisons(t *testing.T) {
	for op, want := range map[int]string{api.OpLt: "x < 2", api.OpLe: "x <= 2", api.OpEq: "x == 2", api.OpNe: "x != 2", api.OpGt: "x > 2", api.OpGe: "x >= 2"} {
		c := cmp(vari("x"), op, num(2))
		condWrites(t, c, want)
		condWrites(t, not(c), "!"+want)
	}
}

// TestExprsOfComparisons: none needs parentheses.
func TestExprsOfComparisons(t *testing.T) {
	for a, first := range exprInner() {
		for b, second := range exprInner() {
			condWrites(t, cmp(first, api.OpGe, second), a+" >= "+b)
		}
	}
	condWrites(t, not(cmp(neg(two(api.EAdd, num(1), num(2))), api.OpNe, two(api.EMul, two(api.ESub, num(1), num(2)), num(3)))), "!-(1 + 2) != (1 - 2) * 3")
}

// condInner: a condition of each kind, by its text.
func condInner() map[string]api.Cond {
	less := cmp(vari("x"), api.OpLt, num(2))
	return map[string]api.Cond{
		"true": yes(), "false": no(), "x < 2": less, "!x < 2": not(less),
		"x < 2 && false": both(api.CAnd, less, no()), "x < 2 || false": both(api.COr, less, no()),
	}
}

// condPlace: where a part stands, and which kinds of it need brackets there.
type condPlace struct {
	shape string
	with  func(api.Cond) api.Cond
	needs []string
}

func condPlaces() []condPlace {
	first := func(kind int) func(api.Cond) api.Cond {
		return func(c api.Cond) api.Cond { return both(kind, c, yes()) }
	}
	second := func(kind int) func(api.Cond) api.Cond {
		return func(c api.Cond) api.Cond { return both(kind, yes(), c) }
	}
	or, joined := []string{"x < 2 || false"}, []string{"x < 2 || false", "x < 2 && false"}
	return []condPlace{
		{"!@", not, joined},
		{"@ && true", first(api.CAnd), or},
		{"true && @", second(api.CAnd), joined},
		{"@ || true", first(api.COr), nil},
		{"true || @", second(api.COr), or},
	}
}

// TestEachKindAsEachPart: with the brackets that it needs, and without those that it doesn't: a tree's text without the ones that stand in it is another tree's.
func TestEachKindAsEachPart(t *testing.T) {
	for _, place := range condPlaces() {
		for text, c := range condInner() {
			whole, bare := place.with(c), in(place.shape, text)
			needed := slices.Contains(place.needs, text)
			if needed {
				condWrites(t, whole, in(place.shape, "["+text+"]"))
			} else {
				condWrites(t, whole, bare)
			}
			if condReads(bare, whole) == needed {
				t.Errorf("P5.2: %s: whether it needs brackets isn't %t", bare, needed)
			}
		}
	}
}

func TestPartsWithinParts(t *testing.T) {
	and, or := func(a, b api.Cond) api.Cond { return both(api.CAnd, a, b) }, func(a, b api.Cond) api.Cond { return both(api.COr, a, b) }
	condWrites(t, or(or(yes(), no()), yes()), "true || false || true")
	condWrites(t, or(yes(), or(no(), yes())), "true || [false || true]")
	condWrites(t, and(and(yes(), no()), yes()), "true && false && true")
	condWrites(t, and(yes(), and(no(), yes())), "true && [false && true]")
	condWrites(t, and(or(yes(), no()), or(no(), yes())), "[true || false] && [false || true]")
	condWrites(t, or(and(yes(), no()), and(no(), yes())), "true && false || false && true")
	condWrites(t, not(and(not(or(yes(), no())), yes())), "![![true || false] && true]")
	condWrites(t, not(not(or(yes(), and(no(), yes())))), "!![true || false && true]")
	condWrites(t, or(not(yes()), not(no())), "!true || !false")
	condWrites(t, and(not(yes()), not(no())), "!true && !false")
}

func TestChainsOfConds(t *testing.T) {
	for kind, sign := range map[int]string{api.CAnd: " && ", api.COr: " || "} {
		left, right := no(), no()
		fromLeft, fromRight := "false", "false"
		for i := range api.MaxDepth - 1 {
			left, fromLeft = both(kind, left, yes()), fromLeft+sign+"true"
			if i > 0 {
				fromRight = "[" + fromRight + "]"
			}
			right, fromRight = both(kind, yes(), right), "true"+sign+fromRight
			condWrites(t, left, fromLeft)
			condWrites(t, right, fromRight)
		}
	}
}
