package well

import (
	"slices"
	"strings"
	"testing"

	"gnomon/api"
	"gnomon/tree"
)

// exprPlaces: statements with an expression where @ stands, in each place where one can stand.
func exprPlaces() []string {
	l := []string{"x = @;", "a[@] = 1;", "a[1] = @;", "x = a[@];", "x = -@;", "x = a[a[-@]];", "a[a[@]] = 1;"}
	for _, op := range strings.Fields("+ - * / %") {
		l = append(l, "x = @ "+op+" 1;", "x = 1 "+op+" @;", "x = input "+op+" (2 * -(1 + @));")
	}
	for _, c := range condPlaces() {
		for _, op := range strings.Fields("< <= == != > >=") {
			l = append(l, in(c, "@ "+op+" 1"), in(c, "1 "+op+" @"), in(c, "x - 1 "+op+" a[@ + 1]"))
		}
	}
	return l
}

// condPlaces: statements with a condition where @ stands, in each place where one can stand.
func condPlaces() []string {
	var l []string
	for _, s := range []string{"assert @;", "assume @;", "if @ { }", "if @ { skip; } else { skip; }", "while @ { }"} {
		for _, c := range []string{"@", "![@]", "[@] && true", "false && [@]", "[@] || true", "false || [@]", "[true || ![@]] && [false && true]"} {
			l = append(l, in(s, c))
		}
	}
	return l
}

// stmtPlaces: programs' statements with one of them where @ stands, in each place where one can stand.
func stmtPlaces() []string {
	return []string{
		"@", "skip; @", "@ skip;", "x = 1; a[x] = x; @ assert x < a[0];",
		"if true { @ }", "if true { skip; @ skip; } else { skip; }", "if true { } else { @ }", "if x < 1 { x = 1; } else { x = 2; @ }",
		"while true { @ }", "while a[x] < 1 { x = 1; @ }", "if true { if true { } else { while true { skip; if true { @ } } } }",
		"while true { while true { } if true { } @ } skip;", "if true { } skip; while true { } @",
	}
}

// in: s where @ stands in shape.
func in(shape, s string) string { return strings.ReplaceAll(shape, "@", s) }

// said: what is told of a source in which what stands at a place names n.
func said(t *testing.T, place, with, n string, want api.Errno) {
	t.Helper()
	name := n
	if want == api.OK {
		name = ""
	}
	says(t, "var x; array a[4]; var x2; array a2[2]; "+in(place, with), name, want)
}

// TestNamesInEachPlace: names that aren't declared, variables and arrays, in each place of each statement in each place.
func TestNamesInEachPlace(t *testing.T) {
	for _, s := range stmtPlaces() {
		for _, target := range []string{in(s, "@ = 1;"), in(s, "@ = input;")} {
			said(t, target, "n", "n", api.ErrWellNone)
			said(t, target, "x2", "x2", api.OK)
			said(t, target, "a2", "a2", api.ErrWellKind)
		}
		for _, target := range []string{in(s, "@[0] = 1;"), in(s, "@[x] = x;")} {
			said(t, target, "n", "n", api.ErrWellNone)
			said(t, target, "x2", "x2", api.ErrWellKind)
			said(t, target, "a2", "a2", api.OK)
		}
		for _, e := range exprPlaces() {
			place := in(s, e)
			said(t, place, "n", "n", api.ErrWellNone)
			said(t, place, "x2", "x2", api.OK)
			said(t, place, "a2", "a2", api.ErrWellKind)
			said(t, place, "n[1]", "n", api.ErrWellNone)
			said(t, place, "x2[1]", "x2", api.ErrWellKind)
			said(t, place, "a2[1]", "a2", api.OK)
		}
	}
}

func TestOnlyAsDeclared(t *testing.T) {
	saysAll(t, []row{
		{"var x; X = 1;", "X", api.ErrWellNone}, {"var x; x1 = 1;", "x1", api.ErrWellNone}, {"var x1; x = 1;", "x", api.ErrWellNone},
		{"var é; e = 1;", "e", api.ErrWellNone}, {"array п[1]; π[0] = 1;", "π", api.ErrWellNone},
		{"var x; x = x[x];", "x", api.ErrWellKind}, {"array a[1]; a[a] = 1;", "a", api.ErrWellKind}, {"array a[1]; a[a[0]] = a;", "a", api.ErrWellKind},
		{"array a[1]; a[a[a[0]]] = a[0];", "", api.OK}, {"var x; x = x;", "", api.OK},
		// One that was used as it is declared may still be used otherwise behind that.
		{"var x; var y; y = x; y = x[0];", "x", api.ErrWellKind}, {"array a[1]; a[0] = 1; a = 1;", "a", api.ErrWellKind},
		{"var x; if true { x = 1; } else { x[0] = 1; }", "x", api.ErrWellKind},
	})
}

// manyNames: statements with several names, all of them different, each taken for a variable, but those that begin with a.
func manyNames() []string {
	return []string{
		"v1 = v2;", "v1 = v2 + v3 * v4;", "v1 = (v2 - v3) * -(v4 / (a5[v6] % v7));", "a1[v2] = v3;", "a1[a2[a3[v4 + v5]] - v6] = a7[v8] + a9[v0];",
		"assert v1 < v2;", "assume a1[v2] == a3[v4];", "assert v1 < v2 && v3 < v4 || ![v5 < v6 && [v7 != v8 || a9[a0[v_]] > 1]];",
		"if v1 < v2 { v3 = v4; a5[v6] = v7; } else { v8 = 1; if v9 < 1 { } v0 = 1; }",
		"while a1[v2] < v3 { while v4 < 1 { v5 = v6; } a7[v8] = v9; } v0 = v_;",
		"v1 = 1; v2 = 1; if true { skip; } else { v3 = 1; while true { v4 = 1; } v5 = 1; } v6 = 1; a7[0] = v8;",
		"if true { if v1 < 1 { v2 = 1; } else { v3 = 1; } v4 = 1; } else { v5 = 1; if v6 < 1 { v7 = 1; } else { v8 = 1; } } v9 = 1;",
	}
}

func declaration(name string, array bool) string {
	if array {
		return "array " + name + "[1];"
	}
	return "var " + name + ";"
}

// TestFirstName: of several names the first one is told, in the order in which tree.Names meets names.
func TestFirstName(t *testing.T) {
	for _, s := range manyNames() {
		all, e := tree.Names(read(t, s))
		if e != api.OK || len(all) < 2 {
			t.Fatalf("%s: %v, %d", s, all, e)
		}
		ahead := ""
		for _, n := range all {
			array := n[0] == 'a'
			says(t, ahead+s, n, api.ErrWellNone)
			says(t, ahead+declaration(n, !array)+s, n, api.ErrWellKind)
			ahead += declaration(n, array)
		}
		isWell(t, ahead+s)
		// All are declared, and each but the first k is what it isn't taken for, or isn't declared at all.
		for k, n := range all {
			otherwise, without := "", ""
			for i, n := range slices.Backward(all) {
				array := n[0] == 'a'
				otherwise += declaration(n, array == (i < k))
				if i < k || i > k+1 {
					without += declaration(n, array == (i < k))
				}
			}
			says(t, otherwise+s, n, api.ErrWellKind)
			says(t, without+s, n, api.ErrWellNone)
		}
	}
}

// TestOrderOfTwo: of a name that isn't declared and one that is taken for what it isn't the one that stands first.
func TestOrderOfTwo(t *testing.T) {
	wrong := []row{{"n", "n", api.ErrWellNone}, {"n[1]", "n", api.ErrWellNone}, {"a", "a", api.ErrWellKind}, {"x[1]", "x", api.ErrWellKind}, {"a[n]", "n", api.ErrWellNone}, {"x[n]", "x", api.ErrWellKind}, {"n[a]", "n", api.ErrWellNone}, {"a[a]", "a", api.ErrWellKind}}
	for _, shape := range []string{
		"y = 1st + 2nd;", "b[1st] = 2nd;", "y = b[1st] * 2nd;", "y = 1st; y = 2nd;", "assert 1st < 2nd;", "assume true && [1st < 1 || 1 < 2nd];", "assert b[1st] < 1 && ![2nd < 1];",
		"if 1st < 1 { y = 2nd; }", "if 1st < 1 { } else { y = 2nd; }", "if true { y = 1st; } else { y = 2nd; }", "if true { y = 1st; } y = 2nd;", "if true { } else { y = 1st; } y = 2nd;",
		"while 1st < 1 { y = 2nd; }", "while true { y = 1st; } y = 2nd;", "while true { if true { y = 1st; } } if 2nd < 1 { }", "if 1st < 2nd { }",
	} {
		for _, first := range wrong {
			for _, second := range wrong {
				s := strings.NewReplacer("1st", first.source, "2nd", second.source).Replace(shape)
				says(t, "var y; array b[2]; var x; array a[3];"+s, first.name, first.want)
			}
		}
	}
}
