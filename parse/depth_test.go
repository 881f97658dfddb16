package parse

import (
	"slices"
	"strings"
	"testing"

	"gnomon/api"
)

// things: how things of one sort stand within one another, and what may stand around them.
type things struct {
	sort              string
	head, open        string
	inner, shut, tail string
}

// source has n of them around the innermost one.
func (g things) source(n int, inner string) string {
	return g.begun(n) + inner + strings.Repeat(g.shut, n) + g.tail
}

// begun is the source ahead of the innermost one.
func (g things) begun(n int) string { return g.head + strings.Repeat(g.open, n) }

// statements, conditions, expressions: the six sorts, by what the innermost one of them is. Where the source is a condition or an expression, that is at depth 1; else the statement is.
func statements() []things {
	return []things{
		{program, "", "while x < 1 { ", "skip;", "}", ""},
		{program, "", "if true {", "x = 1;", "}", "skip;"},
		{program, "", "if true { } else {", "while true { }", "}", ""},
		{program, "var x; skip; ", "skip; if true { } else {", "if true { } else { }", "skip; } skip;", "skip;"},
	}
}

func conditions() []things {
	return []things{
		{program, "assert ", "[", "true", "]", ";"},
		{program, "if ", "true && [", "false", "]", "{ }"},
		{program, "skip; while ", "[", "x < 1", "|| false]", "{ skip; }"},
		{condition, "", "[", "1 < input", "]", ""},
		{condition, "true && ", "false || [", "true", "]", "|| true"},
		{program, "assume ", "! ", "false", "", ";"},
		{program, "if true || ", "! ", "x < 1", "", "&& true { }"},
		{condition, "", "! ", "1 < x", "", ""},
		{condition, "[true] || ", "! ", "true", "", "&& !true"},
	}
}

func expressions() []things {
	return []things{
		{program, "x = ", "-", "1", "", ";"},
		{program, "x = 1 - ", "-", "input", "", "* 2;"},
		{program, "assert x < ", "-", "x", "", "&& true;"},
		{program, "a[1] = ", "-", "x", "", ";"},
		{expr, "", "-", "x", "", ""},
		{expr, "1 + ", "-", "1", "", "/ -x"},
		{condition, "", "-", "1", "", "< 1"},
		{program, "x = ", "(", "1", ")", ";"},
		{program, "while ", "(", "input", ")", "+ 1 == 1 { }"},
		{program, "a[1] = ", "(", "x", ")", ";"},
		{expr, "", "(", "1 + 1", ")", ""},
		{expr, "", "1 * (", "x", ")", "- (1)"},
		{condition, "", "(", "x", ")", "< 1"},
		{program, "x = ", "a[", "1", "]", ";"},
		{program, "", "a[", "x", "]", "= 1;"},
		{program, "if true && 1 == ", "a[", "input", "]", "{ }"},
		{expr, "", "a[", "x * 1", "]", ""},
		{expr, "(1) - ", "a[", "1", "]", "+ a[1]"},
		{condition, "1 < ", "a[", "1", "]", "|| true"},
	}
}

// TestDeepest: depth 40 of each sort, with all of its things ended again.
func TestDeepest(t *testing.T) {
	for _, g := range slices.Concat(statements(), conditions(), expressions()) {
		for _, n := range []int{0, 1, 2, 38, 39} {
			if strings.HasPrefix(g.tail, "= 1;") && n == 0 { // an index is a thing of its own there
				continue
			}
			takes(t, g.sort, g.source(n, g.inner))
		}
	}
}

// TestTooDeep: of each sort, and each token where a thing at depth 41 would begin: ErrParseDeep, if it can begin one there, else ErrParseWant.
func TestTooDeep(t *testing.T) {
	fact := strings.Fields("x a 0 1 2147483647 2147483648 input - (")
	lit := append(strings.Fields("true false ! ["), fact...)
	for _, c := range []struct {
		all    []things
		begins []string
		ends   string // what isn't wrong there either
	}{
		{statements(), strings.Fields("x a if while assert assume skip"), "}"}, {conditions(), lit, ""}, {expressions(), fact, ""},
	} {
		for _, g := range c.all {
			col := len(g.begun(40)) + 1
			deep(t, g.sort, g.source(40, g.inner), col)
			deep(t, g.sort, g.source(41, g.inner), col)
			deep(t, g.sort, g.source(60, g.inner), col)
			deep(t, g.sort, g.begun(40)+g.inner, col)
			wants(t, g.sort, g.begun(40), col)
			fault(t, g.sort, "\n"+g.begun(40)+"\n "+g.inner, 3, 2, api.ErrParseDeep)
			for _, k := range alphabet() {
				switch {
				case slices.Contains(c.begins, k):
					deep(t, g.sort, g.begun(40)+k, col)
					deep(t, g.sort, g.begun(40)+k+" ; ; )", col)
				case k != c.ends:
					wants(t, g.sort, g.begun(40)+k, col)
				}
			}
		}
	}
}

// TestEmptyBlocks: an empty block has no statement that could be too deep, and neither has what follows it.
func TestEmptyBlocks(t *testing.T) {
	for _, open := range []string{"while true {", "if true {", "if false { } else {"} {
		takes(t, program, strings.Repeat(open, 40)+strings.Repeat("}", 40))
		takes(t, program, strings.Repeat(open, 40)+strings.Repeat("} skip;", 40))
		wants(t, program, strings.Repeat(open, 40)+"}", 40*len(open)+2)
		deep(t, program, strings.Repeat(open, 40)+strings.Repeat(" ", 7)+"skip;", 40*len(open)+8)
	}
}

// TestDepthEndsAgain: what isn't within one another is no deeper, however much there is of it.
func TestDepthEndsAgain(t *testing.T) {
	takes(t, expr, strings.Repeat("-1 + ", 60)+"1")
	takes(t, expr, strings.Repeat("(1) * ", 60)+"1")
	takes(t, expr, strings.Repeat("a[1] - ", 60)+"1")
	takes(t, condition, strings.Repeat("!true && ", 60)+"true")
	takes(t, condition, strings.Repeat("[true] || ", 60)+"true")
	takes(t, program, strings.Repeat("if true { if true { skip; } else { skip; } }", 100))
	takes(t, program, strings.Repeat("while true { x = -(a[1]); assert ![true]; }", 100))
	takes(t, program, strings.Repeat("a[1] = -1;", 500))
	inner := strings.Repeat("(", 38)
	takes(t, expr, "-"+inner+"1"+strings.Repeat(")", 38)+" + -"+inner+"1"+strings.Repeat(")", 38))
}

// TestThingsWithinOthers: so many statements, conditions and expressions around an expression that it is at depth 40, each sort by turns.
func TestThingsWithinOthers(t *testing.T) {
	for n := range 40 {
		for m := range 40 - n {
			head, tail := mixed(n, m, 39-n-m)
			takes(t, program, head+"1"+tail)
			for _, open := range []string{"(", "-", "a["} {
				deep(t, program, head+open+"1"+tail, len(head)+len(open)+1)
				wants(t, program, head+open+"<"+tail, len(head)+len(open)+1)
			}
		}
	}
}

// mixed: a source up to an expression within so many blocks, conditions and expressions, and what ends it.
func mixed(blocks, conds, exprs int) (string, string) {
	var head, tail string
	add := func(open, shut string) { head, tail = head+open, shut+tail }
	for i := range blocks {
		add([]string{"while true {", "if true {", "if true { } else {"}[i%3], "}")
	}
	add("assert ", ";")
	for i := range conds {
		add([]string{"[", "!"}[i%2], []string{"]", ""}[i%2])
	}
	add("1 < ", "")
	for i := range exprs {
		add([]string{"(", "-", "a["}[i%3], []string{")", "", "]"}[i%3])
	}
	return head, tail
}
