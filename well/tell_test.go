package well

import (
	"fmt"
	"slices"
	"strings"
	"testing"

	"gnomon/api"
	"gnomon/tree"
)

// lists holds what is told of a source that is a well program against names of variables and declarations of arrays, as text.
func lists(t *testing.T, source, vars, arrays string) {
	t.Helper()
	p := read(t, source)
	v, e := Vars(p)
	a, f := Arrays(p)
	var got []string
	for _, d := range a {
		got = append(got, fmt.Sprint(d.Name, d.Size))
	}
	if e != api.OK || f != api.OK || !slices.Equal(v, strings.Fields(vars)) || !slices.Equal(got, strings.Fields(arrays)) {
		t.Errorf("P6.2: %.300q: %q, %q, %d, %d; want %q, %q", source, v, got, e, f, vars, arrays)
	}
}

func TestLists(t *testing.T) {
	for _, r := range []struct{ source, vars, arrays string }{
		{"", "", ""}, {"skip;", "", ""}, {"var x;", "x", ""}, {"array a[7];", "", "a7"},
		{"var z; var y; var a; var b;", "z y a b", ""}, {"array z[1]; array a[1024]; array é[3];", "", "z1 a1024 é3"},
		{"var x; array a[3]; var y; array b[4];", "x y", "a3 b4"}, {"array b[4]; var y; array a[3]; var x;", "y x", "b4 a3"},
		{"array a[2]; array c[2]; var x; var b; array B[1]; var y; b = a[c[x]] + B[y];", "x b y", "a2 c2 B1"},
		// The order is that of the declarations, not that in which names are used.
		{"var x; var y; array a[1]; array b[2]; b[y] = a[x]; y = x;", "x y", "a1 b2"},
		{numbered(16, "var x#; array a#[1#]; var y#;"), numbered(16, "x# y# "), numbered(16, "a#1# ")},
		{numbered(16, "array a#[1024];") + numbered(32, "var x#;"), numbered(32, "x# "), numbered(16, "a#1024 ")},
	} {
		lists(t, r.source, r.vars, r.arrays)
	}
}

// TestNoLists: beside an error both lists are empty, also where one of them would be so or not without it.
func TestNoLists(t *testing.T) {
	saysAll(t, []row{
		{"x = 1;", "x", api.ErrWellNone}, {"var x; y = 1;", "y", api.ErrWellNone}, {"array a[1]; x = 1;", "x", api.ErrWellNone},
		{"var x; array a[1]; a = x;", "a", api.ErrWellKind}, {"var x; array a[1]; var x;", "x", api.ErrWellTwice},
		{"var x; array a[1]; array b[1025];", "b", api.ErrWellSize}, {numbered(33, "var x#; ") + "array a[1];", "x32", api.ErrWellMany},
	})
	tells(t, "no tree", api.Prog{Decls: []api.Decl{{Name: "x"}, {Name: "a", Size: 1}}, Body: []api.Stmt{{}}}, "", api.ErrTreeForm)
}

// TestAllDeclared: P6.3's first sentence; and that the two lists are the declarations, told apart.
func TestAllDeclared(t *testing.T) {
	g := newGrower(1)
	count := [3]int{}
	for range 3000 {
		p := read(t, g.prog(g.wellDecls()))
		if _, e := Check(p); e != api.OK {
			continue
		}
		vars, _ := Vars(p)
		arrays, _ := Arrays(p)
		count[0], count[1], count[2] = count[0]+1, count[1]+len(vars), count[2]+len(arrays)
		if len(vars)+len(arrays) != len(p.Decls) {
			t.Errorf("P6.3: %q and %v of %v", vars, arrays, p.Decls)
		}
		for _, d := range p.Decls {
			if d.Size == 0 && vars[0] == d.Name {
				vars = vars[1:]
			} else if d.Size > 0 && arrays[0] == d {
				arrays = arrays[1:]
			} else {
				t.Fatalf("P6.2: %v: %q and %v are left", d, vars, arrays)
			}
		}
	}
	if count[0] < 1000 || count[1] < 1000 || count[2] < 1000 {
		t.Errorf("unlike what was meant: %v", count)
	}
}

// TestPartsStayWell: P6.3's second sentence.
func TestPartsStayWell(t *testing.T) {
	g := newGrower(2)
	parts := 0
	for range 2000 {
		p := read(t, g.prog(g.wellDecls()))
		if _, e := Check(p); e != api.OK {
			continue
		}
		for range 4 {
			part := api.Prog{Decls: p.Decls, Body: g.part(p.Body)}
			if !tree.Equal(part, p) {
				parts++
			}
			tells(t, "a part", part, "", api.OK)
		}
		tells(t, "no part", api.Prog{Decls: p.Decls}, "", api.OK)
	}
	if parts < 2000 {
		t.Errorf("only %d parts", parts)
	}
}

// part: some of the statements of l, in their order, some of them replaced by what is in their blocks.
func (g *grower) part(l []api.Stmt) []api.Stmt {
	var some []api.Stmt
	for _, s := range l {
		switch g.IntN(5) {
		case 0:
		case 1:
			some = append(some, g.part(s.Then)...)
		case 2:
			some = append(some, g.part(s.Else)...)
		default:
			s.Then, s.Else = g.part(s.Then), g.part(s.Else)
			some = append(some, s)
		}
	}
	return some
}
