package parse

import (
	"strings"
	"testing"

	"gnomon/api"
)

// TestTreeTooDeep: what is read to its end, but is a tree of depth 64, or of one more.
func TestTreeTooDeep(t *testing.T) {
	for _, c := range []struct {
		sort, head, more, tail string
		n                      int // so often more may stand there
	}{
		{expr, "1", "+1", "", 63}, {expr, "x", "*x", "", 63}, {expr, "input", "-1", "", 63}, {expr, "(1)", "/(x)", "", 63}, {expr, "a[1]", "%1", "", 62}, {expr, "a[1", "+1", "]", 62}, {expr, "-(1", "-x", ")", 62}, {expr, "(1", "+1", ")", 63},
		{condition, "true", "&&true", "", 63}, {condition, "false", "||x<1", "", 62}, {condition, "x<1", "&&true", "", 62}, {condition, "1<1", "+1", "", 62}, {condition, "1", "+1", "==1", 62}, {condition, "![true", "||false", "]", 62}, {condition, "[true", "||false", "]", 63},
		{program, "x=1", "+1", ";", 62}, {program, "a[1", "+1", "]=1;", 62}, {program, "a[1]=1", "*1", ";skip;", 62}, {program, "assert true", "&&true", ";", 62}, {program, "skip;assume 1<x", "-1", ";", 61}, {program, "if true", "||true", "{}", 62}, {program, "while true", "&&true", "{skip;}", 62}, {program, "while true{if true{}else{x=1", "+1", ";}}", 60},
	} {
		source := func(n int) string { return c.head + strings.Repeat(c.more, n) + c.tail }
		for _, n := range []int{0, 1, c.n - 1, c.n} {
			takes(t, c.sort, source(n))
		}
		for _, n := range []int{c.n + 1, c.n + 2, 100, 1000} {
			s := source(n)
			fault(t, c.sort, s, 1, len(s)+1, api.ErrParseDeep)
			fault(t, c.sort, "#\n"+s+" #\n\n ", 4, 2, api.ErrParseDeep)
			wants(t, c.sort, s+"}", len(s)+1)
			wants(t, c.sort, s+" )", len(s)+2)
		}
	}
}

// TestDeepThingsAndDeepTrees: things may stand 40 deep in a tree that is 64 deep.
func TestDeepThingsAndDeepTrees(t *testing.T) {
	open, shut := strings.Repeat("-(", 19), strings.Repeat(")", 19)
	takes(t, expr, open+"-1"+strings.Repeat("+1", 43)+shut)
	s := open + "-1" + strings.Repeat("+1", 44) + shut
	fault(t, expr, s, 1, len(s)+1, api.ErrParseDeep)
	deep(t, expr, open+"-(-1"+strings.Repeat("+1", 43)+shut, len(open)+3)
}

// TestTreeOfTooMany: what is read to its end, but is a tree of 4096 nodes, or of one more.
func TestTreeOfTooMany(t *testing.T) {
	for _, c := range []struct {
		sort, head, more, tail string
		nodes, each            int // of head and tail, of one more
	}{
		{program, "", "skip;", "", 0, 1}, {program, "", "var x;", "", 0, 1}, {program, "", "array a[7];", "skip;", 1, 1}, {program, "", "x=1;", "", 0, 2}, {program, "while true {", "a[0]=x;", "}", 2, 3}, {program, "if true{", "assert true;", "}else{skip;}", 3, 2}, {program, "if true{}else{", "if false{}", "}", 2, 2}, {program, "var x;x=1;", "assume x<1;", "", 3, 4},
	} {
		n := (4096 - c.nodes) / c.each
		left := strings.Repeat("skip;", 4096-c.nodes-n*c.each)
		s := c.head + strings.Repeat(c.more, n) + c.tail + left
		takes(t, program, s)
		fault(t, program, s+"skip;", 1, len(s)+6, api.ErrParseMany)
		fault(t, program, s+"\n skip;\n#", 3, 2, api.ErrParseMany)
		fault(t, program, c.head+strings.Repeat(c.more, n+1)+c.tail+left, 1, len(s)+len(c.more)+1, api.ErrParseMany)
		wants(t, program, s+"skip", len(s)+5)
		wants(t, program, s+"skip; x", len(s)+8)
		wants(t, program, s+"skip; }", len(s)+7)
	}
	for _, c := range []struct{ sort, leaf, sign, tail string }{{expr, "1", "+", ""}, {condition, "true", "&&", ""}} {
		s := even(c.leaf, c.sign, 11)
		more := map[string]string{expr: "-", condition: "!"}[c.sort]
		takes(t, c.sort, s)
		takes(t, c.sort, more+s)
		fault(t, c.sort, more+more+s, 1, len(s)+3, api.ErrParseMany)
		fault(t, c.sort, s+c.sign+c.leaf, 1, len(s)+len(c.sign+c.leaf)+1, api.ErrParseMany)
		wants(t, c.sort, more+more+s+c.leaf, len(s)+3)
	}
}

// even: a source of a tree all of whose leaves lie as deep.
func even(leaf, sign string, depth int) string {
	if depth == 0 {
		return leaf
	}
	part := even(leaf, sign, depth-1)
	if sign == "&&" {
		return "[" + part + sign + part + "]"
	}
	return "(" + part + sign + part + ")"
}

// TestDeepAndMany: of a tree that is both the error is tree.Check's, of which the node past a limit comes first.
func TestDeepAndMany(t *testing.T) {
	chain := "x=1" + strings.Repeat("+1", 63) + ";"
	for _, c := range []struct {
		s string
		e api.Errno
	}{
		{chain + strings.Repeat("skip;", 5000), api.ErrParseDeep},
		{strings.Repeat("skip;", 5000) + chain, api.ErrParseMany},
		{strings.Repeat("skip;", 4096-65) + chain, api.ErrParseDeep},
		{strings.Repeat("skip;", 4096-64) + chain, api.ErrParseMany},
	} {
		fault(t, program, c.s, 1, len(c.s)+1, c.e)
	}
}
