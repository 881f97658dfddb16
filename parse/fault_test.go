package parse

import (
	"slices"
	"strings"
	"testing"

	"gnomon/api"
	"gnomon/lex"
)

func TestFaultsOfPrograms(t *testing.T) {
	for _, c := range []struct {
		s   string
		col int
	}{
		{"var", 4}, {"var ;", 5}, {"var 1;", 5}, {"var if;", 5}, {"var x", 6}, {"var x,y;", 6}, {"var x y;", 7}, {"var x[1];", 6}, {"var x = 1;", 7}, {"var x;;", 7}, {"var input;", 5}, {"var var;", 5},
		{"array", 6}, {"array ;", 7}, {"array a", 8}, {"array a;", 8}, {"array a[", 9}, {"array a[];", 9}, {"array a[x];", 9}, {"array a[-1];", 9}, {"array a[(1)];", 9}, {"array a[1", 10}, {"array a[1;", 10}, {"array a[1+1];", 10}, {"array a[1]", 11}, {"array a[1] = 1;", 12}, {"array [1];", 7}, {"array 1[1];", 7}, {"array a(1);", 8}, {"array true[1];", 7},
		{"skip; var x;", 7}, {"x = 1; array a[1];", 8}, {"var x; skip; var y;", 14}, {"if true { var x; }", 11}, {"while true { array a[1]; }", 14},
		{"x", 2}, {"x;", 2}, {"x 1;", 3}, {"x < 1;", 3}, {"x == 1;", 3}, {"x(1);", 2}, {"x = ;", 5}, {"x =", 4}, {"x = 1", 6}, {"x = 1 2;", 7}, {"x = 1 = 2;", 7}, {"x = y = 2;", 7}, {"x = true;", 5}, {"x = !1;", 5}, {"x = 1 < 2;", 7}, {"x = [1];", 5}, {"x = var;", 5}, {"x = 1,", 6}, {"x y = 1;", 3},
		{"a[", 3}, {"a[]", 3}, {"a[1", 4}, {"a[1;", 4}, {"a[1]", 5}, {"a[1];", 5}, {"a[1] 2;", 6}, {"a[1] =", 7}, {"a[1] = ;", 8}, {"a[1] = 2", 9}, {"a[1] = 2]", 9}, {"a[1][2] = 3;", 5}, {"a[1 < 2] = 3;", 5}, {"a[1) = 3;", 4},
		{"if", 3}, {"if {", 4}, {"if ;", 4}, {"if true", 8}, {"if true;", 8}, {"if true skip;", 9}, {"if true {", 10}, {"if true { skip", 15}, {"if true { skip; ", 17}, {"if true { else { }", 11}, {"if true } ", 9}, {"if 1 { }", 6}, {"if x { }", 6}, {"if (1 < 2) { }", 7}, {"if [1] { }", 6}, {"if x = 1 { }", 6}, {"if true { } else", 17}, {"if true { } else skip;", 18}, {"if true { } else if true { }", 18}, {"if true { } else { ", 20}, {"if true { } else { } else { }", 22}, {"if true { };", 12}, {"if true + 1 { }", 9},
		{"while", 6}, {"while {", 7}, {"while true", 11}, {"while true;", 11}, {"while true {", 13}, {"while true { skip; ", 20}, {"while true { } else { }", 16}, {"while x < { }", 11}, {"while true { } }", 16}, {"while ; { }", 7},
		{"assert", 7}, {"assert ;", 8}, {"assert true", 12}, {"assert true }", 13}, {"assert 1;", 9}, {"assert x;", 9}, {"assert x < ;", 12}, {"assert true; true;", 14}, {"assert (true);", 9}, {"assert {true};", 8},
		{"assume", 7}, {"assume ;", 8}, {"assume false", 13}, {"assume !;", 9}, {"assume true, false;", 12},
		{"skip", 5}, {"skip skip;", 6}, {"skip = 1;", 6}, {"skip;;", 6}, {"skip 1;", 6},
		{";", 1}, {"}", 1}, {"{", 1}, {"{ }", 1}, {"else { }", 1}, {"1", 1}, {"1 = x;", 1}, {"true;", 1}, {"input = 1;", 1}, {"-x = 1;", 1}, {"(x) = 1;", 1}, {"[x] = 1;", 1}, {"= 1;", 1}, {"skip; }", 7}, {"== 1", 1},
	} {
		wants(t, program, c.s, c.col)
		fault(t, program, "# x = ;\n\n "+c.s, 3, c.col+1, api.ErrParseWant)
	}
}

func TestFaultsOfExpressions(t *testing.T) {
	for _, c := range []struct {
		s   string
		col int
	}{
		{"-", 2}, {"1 +", 4}, {"1 -", 4}, {"1 *", 4}, {"1 /", 4}, {"1 %", 4}, {"+1", 1}, {"*1", 1}, {"1 + + 2", 5}, {"1 * * 2", 5}, {"1 */ 2", 4}, {"1 - - - ", 9}, {"1 + )", 5}, {"1 2", 3}, {"x y", 3}, {"x 1", 3}, {"1 x", 3}, {"x input", 3}, {"input x", 7}, {"input[1]", 6}, {"input(1)", 6}, {"1[2]", 2}, {"(x)[1]", 4}, {"a[1][2]", 5},
		{"(", 2}, {"()", 2}, {"(1", 3}, {"(1]", 3}, {"(1;", 3}, {"(1 2)", 4}, {"(1,2)", 3}, {"((1)", 5}, {"(1))", 4}, {")", 1}, {"(1 < 2)", 4}, {"(true)", 2},
		{"a[", 3}, {"a[]", 3}, {"a[1", 4}, {"a[1)", 4}, {"a[1;]", 4}, {"a[1 2]", 5}, {"a[[1]]", 3}, {"a[true]", 3}, {"a(1)", 2},
		{"true", 1}, {"1 + true", 5}, {"-true", 2}, {"!1", 1}, {"if", 1}, {"[1]", 1}, {"1;", 2}, {"1 = 1", 3}, {"x < 1", 3}, {"1 == 1", 3}, {"1 && 2", 3}, {"x = 1;", 3}, {"skip;", 1}, {"var x;", 1}, {"1}", 2}, {"else", 1},
	} {
		wants(t, expr, c.s, c.col)
		wants(t, expr, "-"+c.s, c.col+1)
		wants(t, expr, "x + ( a["+c.s, c.col+8)
	}
	for _, s := range []string{"", ")", "]", ";", "}", "*", "=", "true", "<", "&&", "{", "[", "!", "while", ","} {
		wants(t, program, "x = "+s, 5)
		wants(t, program, "a["+s, 3)
		wants(t, condition, "1 < "+s, 5)
		wants(t, expr, "1 * "+s, 5)
		wants(t, expr, "- "+s, 3)
		wants(t, expr, "( "+s, 3)
		wants(t, expr, "a["+s, 3)
	}
}

func TestFaultsOfConditions(t *testing.T) {
	for _, c := range []struct {
		s   string
		col int
	}{
		{"!", 2}, {"!!", 3}, {"true &&", 8}, {"true ||", 8}, {"&& true", 1}, {"|| true", 1}, {"true && && true", 9}, {"true || && true", 9}, {"true true", 6}, {"true !true", 6}, {"true < false", 6}, {"true == true", 6}, {"x < true", 5}, {"true + 1", 6}, {"true [true]", 6},
		{"x", 2}, {"1", 2}, {"(x)", 4}, {"x + 1", 6}, {"x && y", 3}, {"x || true", 3}, {"x < 1 && y", 11}, {"!x", 3}, {"!x && true", 4}, {"a[1]", 5}, {"input", 6}, {"-x", 3},
		{"x <", 4}, {"x < < 1", 5}, {"x < 1 < 2", 7}, {"x == 1 == 2", 8}, {"x = 1", 3}, {"< 1", 1}, {"x < 1 +", 8}, {"x ! 1", 3}, {"x <= = 1", 6}, {"x < !y", 5}, {"x < [1]", 5},
		{"[", 2}, {"[]", 2}, {"[true", 6}, {"[true)", 6}, {"[true;", 6}, {"[true true]", 7}, {"[x]", 3}, {"[x < 1", 7}, {"[1 + 2]", 7}, {"[[true]", 8}, {"]", 1}, {"[true] < 1", 8}, {"[x] < 1", 3}, {"[true][true]", 7},
		{"(true)", 2}, {"(x < 1)", 4}, {"(1 < 2) && true", 4}, {"!(x < 1)", 5}, {"([true])", 2}, {"{true}", 1}, {"true;", 5}, {"x < 1;", 6}, {"true {", 6}, {"if true", 1}, {"not", 4}, {"1 < 2 }", 7}, {"else", 1}, {"true else", 6},
	} {
		wants(t, condition, c.s, c.col)
		wants(t, condition, "!"+c.s, c.col+1)
		wants(t, condition, "true && false || ["+c.s, c.col+18)
	}
	wants(t, condition, "[true]]", 7)
	for _, s := range []string{"", ")", "]", ";", "}", "*", "=", "<", "&&", "||", "{", "while", ","} {
		wants(t, program, "if "+s, 4)
		wants(t, program, "while "+s, 7)
		wants(t, program, "assert "+s, 8)
		wants(t, program, "assume "+s, 8)
		wants(t, condition, "true && "+s, 9)
		wants(t, condition, "true || "+s, 9)
		wants(t, condition, "! "+s, 3)
		wants(t, condition, "[ "+s, 3)
	}
}

// TestFirstFault: the first one from the left is told, whatever follows it.
func TestFirstFault(t *testing.T) {
	for _, tail := range []string{"", ";", " ; x = ;", " = = }", "\n}\n{", strings.Repeat("(", 50), " var var"} {
		wants(t, program, "x < 1;"+tail, 3)
		wants(t, program, "array a[0];"+tail, 9)
		wants(t, expr, "1 + < 1"+tail, 5)
		wants(t, condition, "true || && 1"+tail, 9)
	}
}

// TestFaultsOfTokens: lex.Tokens' own error and place, wherever it finds it, also behind a fault of the grammar's.
func TestFaultsOfTokens(t *testing.T) {
	long := strings.Repeat("a", api.MaxName+1)
	many := strings.Repeat(";", api.MaxTokens+1)
	for _, head := range []string{"", "x = ", "x = ;\n", "1 + ", "true && ", "} } }\n\t", strings.Repeat("(", 60) + "\n "} {
		for _, c := range []struct {
			s string
			e api.Errno
		}{
			{"\"", api.ErrLexRune}, {"x & 2;", api.ErrLexRune}, {"1 | 2", api.ErrLexRune}, {"é × 1", api.ErrLexRune}, {"007", api.ErrLexNumber}, {"9223372036854775808", api.ErrLexNumber}, {"1x", api.ErrLexNumber}, {long, api.ErrLexName},
			{"\xff", api.ErrTextBad}, {"x; # \xc3", api.ErrTextBad}, {strings.Repeat(" ", api.MaxText+1), api.ErrTextLong}, {many, api.ErrLexMany},
		} {
			l, at, e := lex.Tokens(head + c.s)
			if e != c.e || len(l) > 0 {
				t.Fatalf("%q, %.20q: %d, %d tokens", head, c.s, e, len(l))
			}
			for _, sort := range []string{program, expr, condition} {
				fault(t, sort, head+c.s, at.Line, at.Col, e)
			}
		}
	}
}

// TestFullOfTokens: as many tokens as may be, which are read to the last one.
func TestFullOfTokens(t *testing.T) {
	sum := strings.Repeat("1+", api.MaxTokens/2)
	wants(t, expr, sum, api.MaxTokens+1)
	wants(t, program, strings.Repeat("x=1;", api.MaxTokens/4-1)+"x=1}", api.MaxTokens)
	wants(t, program, "x=1;"+strings.Repeat("x=1;", api.MaxTokens/4-1)[:api.MaxTokens-5], api.MaxTokens)
	fault(t, program, strings.Repeat("x=1;", api.MaxTokens/4), 1, api.MaxTokens+1, api.ErrParseMany)
	fault(t, expr, sum+"1", 1, api.MaxTokens+1, api.ErrLexMany)
	fault(t, expr, sum[:api.MaxTokens-1], 1, api.MaxTokens, api.ErrParseDeep)
	fault(t, condition, strings.Repeat("[", api.MaxTokens), 1, 41, api.ErrParseDeep)
}

// TestBehindTheEnd: Expr and Cond want nothing behind what they read.
func TestBehindTheEnd(t *testing.T) {
	for _, k := range alphabet() {
		if !slices.Contains(strings.Fields("+ - * / % ["), k) {
			wants(t, expr, "x "+k, 3)
			wants(t, expr, "x "+k+" 1", 3)
		}
		if !slices.Contains(strings.Fields("+ - * / %"), k) {
			wants(t, expr, "a[1] "+k, 6)
			wants(t, expr, "(1) "+k+" 1", 5)
		}
		if !slices.Contains(strings.Fields("&& ||"), k) {
			wants(t, condition, "true "+k, 6)
			wants(t, condition, "[x < 1] "+k+" true", 9)
		}
		if !slices.Contains(strings.Fields("var array if while assert assume skip x a"), k) {
			wants(t, program, k, 1)
		}
		if !slices.Contains(strings.Fields("if while assert assume skip x a"), k) {
			wants(t, program, "skip; "+k, 7)
		}
	}
}
