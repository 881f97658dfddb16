package well

import (
	"math"
	"strconv"
	"testing"

	"gnomon/api"
)

func TestExamples(t *testing.T) {
	saysAll(t, []row{
		{"var x; var x;", "x", api.ErrWellTwice},
		{"x = y;", "x", api.ErrWellNone},
		{"array a[2000];", "a", api.ErrWellSize},
		{"array a[4]; a = 1;", "a", api.ErrWellKind},
	})
}

// TestNumbers: the errors' numbers are those of the chapter.
func TestNumbers(t *testing.T) {
	for i, e := range []api.Errno{api.ErrWellTwice, api.ErrWellSize, api.ErrWellMany, api.ErrWellNone, api.ErrWellKind} {
		if int(e) != 60+i {
			t.Errorf("P6.1: error %d is %d", 60+i, e)
		}
	}
}

func TestDeclared(t *testing.T) {
	for _, s := range []string{
		"", "skip;", "var x;", "array a[1];", "var x; array a[1];", "array a[1]; var x;",
		"var x; array a[1]; var y; array b[1024]; x = a[y]; b[x] = y;", "var unused; array never[3]; skip;",
		"var x; var X; var x1; var x10; var xx; array _x[1]; array x_[1]; x = X + x1 + x10 + xx + _x[x_[0]];",
		"var é; var e; var É; array π[2]; array п[2]; é = e + É + π[п[0]];",
	} {
		isWell(t, s)
	}
	tells(t, "no lists", api.Prog{Decls: []api.Decl{}, Body: []api.Stmt{}}, "", api.OK)
}

func TestDeclaredTwice(t *testing.T) {
	saysAll(t, []row{
		{"var x; var x;", "x", api.ErrWellTwice},
		{"array x[1]; array x[1];", "x", api.ErrWellTwice},
		{"array x[1]; array x[2];", "x", api.ErrWellTwice},
		{"var x; array x[1];", "x", api.ErrWellTwice},
		{"array x[1]; var x;", "x", api.ErrWellTwice},
		{"var x; var y; array z[1]; var x;", "x", api.ErrWellTwice},
		{"var a; var x; var x; var x;", "x", api.ErrWellTwice},
		// The one that is met again first is told, wherever the first ones stand.
		{"var x; var y; var y; var x;", "y", api.ErrWellTwice},
		{"array x[1]; var y; var x; array y[1];", "x", api.ErrWellTwice},
		{"var é; var e; var É; var é;", "é", api.ErrWellTwice},
	})
}

func TestSizes(t *testing.T) {
	saysAll(t, []row{
		{"array a[1];", "", api.OK}, {"array a[2];", "", api.OK}, {"array a[1023];", "", api.OK}, {"array a[1024];", "", api.OK},
		{"array a[1025];", "a", api.ErrWellSize}, {"array a[2048];", "a", api.ErrWellSize},
		{"array a[65536];", "a", api.ErrWellSize}, {"array a[2147483647];", "a", api.ErrWellSize},
		{"array a[1024]; array b[1024]; var x; array c[1025]; array d[1];", "c", api.ErrWellSize},
		{numbered(16, "array a#[1024];"), "", api.OK},
		{numbered(15, "array a#[1024];") + "array b[1025];", "b", api.ErrWellSize},
	})
	for size := range 1100 {
		name, want := "", api.OK
		if size > 1024 {
			name, want = "a", api.ErrWellSize
		}
		tells(t, "each size", decls(api.Decl{Name: "x"}, api.Decl{Name: "a", Size: size}), name, want)
	}
	tells(t, "the greatest size", decls(api.Decl{Name: "a", Size: math.MaxInt32}), "a", api.ErrWellSize)
}

// TestSizeZero: a declaration of size 0 is a variable's.
func TestSizeZero(t *testing.T) {
	p := decls(api.Decl{Name: "x", Size: 0})
	p.Body = []api.Stmt{assign("x", vari("x"))}
	tells(t, "size 0", p, "", api.OK)
	p.Decls[0].Size = 1
	tells(t, "size 1", p, "x", api.ErrWellKind)
}

func TestMany(t *testing.T) {
	vars, arrays := numbered(32, "var x#;"), numbered(16, "array a#[1];")
	saysAll(t, []row{
		{numbered(31, "var x#;"), "", api.OK}, {vars, "", api.OK}, {numbered(33, "var x#;"), "x32", api.ErrWellMany}, {numbered(40, "var x#;"), "x32", api.ErrWellMany},
		{numbered(15, "array a#[1];"), "", api.OK}, {arrays, "", api.OK}, {numbered(17, "array a#[1];"), "a16", api.ErrWellMany}, {numbered(40, "array a#[1];"), "a16", api.ErrWellMany},
		{vars + arrays, "", api.OK}, {arrays + vars, "", api.OK},
		{vars + arrays + "var y;", "y", api.ErrWellMany}, {arrays + vars + "array b[1];", "b", api.ErrWellMany},
		{vars + "var y;" + arrays + "array b[1];", "y", api.ErrWellMany}, {arrays + "array b[1];" + vars + "var y;", "b", api.ErrWellMany},
		{numbered(16, "var x#; array a#[1]; var y#;"), "", api.OK},
		{numbered(17, "array a#[1]; var x#; var y#;"), "a16", api.ErrWellMany},
		{numbered(17, "var x#; array a#[1]; var y#;"), "x16", api.ErrWellMany},
	})
	// Whatever stands between, it is the variable 33 and the array 17.
	for at := range 34 {
		source := numbered(at, "var x#;") + arrays + numbered(33-at, "var y#;")
		name := "y" + strconv.Itoa(32-at)
		if at == 33 {
			name = "x32"
		}
		says(t, source, name, api.ErrWellMany)
	}
	for at := range 18 {
		source := numbered(at, "array a#[1024];") + vars + numbered(17-at, "array b#[1];")
		name := "b" + strconv.Itoa(16-at)
		if at == 17 {
			name = "a16"
		}
		says(t, source, name, api.ErrWellMany)
	}
}

// TestWhichOfOneDeclaration: of several errors that one declaration has.
func TestWhichOfOneDeclaration(t *testing.T) {
	vars, arrays := numbered(32, "var x#;"), numbered(16, "array a#[1];")
	saysAll(t, []row{
		{"var a; array a[1025];", "a", api.ErrWellTwice},
		{"array a[1]; array a[1025];", "a", api.ErrWellTwice},
		{vars + "var x5;", "x5", api.ErrWellTwice},
		{vars + "array a[1]; var a;", "a", api.ErrWellTwice},
		{arrays + "array a15[1];", "a15", api.ErrWellTwice},
		{arrays + "array a0[1025];", "a0", api.ErrWellTwice},
		{arrays + "var x; array x[1025];", "x", api.ErrWellTwice},
		{arrays + "array b[1025];", "b", api.ErrWellSize},
		{arrays + "array b[2147483647];", "b", api.ErrWellSize},
		{vars + arrays + "array b[1024];", "b", api.ErrWellMany},
	})
}

// TestWhichDeclaration: of any two faults the first one is told, and faults of declarations ahead of those of statements.
func TestWhichDeclaration(t *testing.T) {
	full := numbered(32, "var x#;") + numbered(16, "array a#[1];")
	faults := []row{
		{"var x0;", "x0", api.ErrWellTwice}, {"var a0;", "a0", api.ErrWellTwice}, {"array x1[1];", "x1", api.ErrWellTwice}, {"array a1[9000];", "a1", api.ErrWellTwice},
		{"array b[1025];", "b", api.ErrWellSize}, {"array c[9000];", "c", api.ErrWellSize},
		{"var y;", "y", api.ErrWellMany}, {"array d[1024];", "d", api.ErrWellMany},
		{"none = 1;", "none", api.ErrWellNone}, {"x2 = none[0];", "none", api.ErrWellNone},
		{"a2 = 1;", "a2", api.ErrWellKind}, {"x4 = x3[0];", "x3", api.ErrWellKind},
	}
	declared := 8 // of them
	for i, first := range faults {
		for j, second := range faults {
			if i < declared || j >= declared {
				says(t, full+first.source+second.source, first.name, first.want)
			} else {
				says(t, full+second.source+first.source, second.name, second.want)
			}
		}
	}
}
