package tree

import (
	"reflect"
	"slices"
	"strings"
	"testing"
	"unsafe"

	"gnomon/api"
)

// both holds Equal of p and q, both ways, against what is wanted.
func both(t *testing.T, what string, p, q api.Prog, want bool) {
	t.Helper()
	if a, b := Equal(p, q), Equal(q, p); a != want || b != want {
		t.Errorf("P3.3: %s: %v, the other way round %v; want %v", what, a, b, want)
	}
}

// double makes p again by the library's own means, with room behind each list.
func double[T any](p T) T {
	return doubled(reflect.ValueOf(p)).Interface().(T)
}

func doubled(v reflect.Value) reflect.Value {
	out := reflect.New(v.Type()).Elem()
	out.Set(v)
	switch v.Kind() {
	case reflect.Struct:
		for i := range v.NumField() {
			out.Field(i).Set(doubled(v.Field(i)))
		}
	case reflect.Slice:
		out.Set(reflect.MakeSlice(v.Type(), v.Len(), v.Len()+2))
		for i := range v.Len() {
			out.Index(i).Set(doubled(v.Index(i)))
		}
	}
	return out
}

// eachField shows each number, text and list of what v holds.
func eachField(v reflect.Value, visit func(reflect.Value)) {
	switch v.Kind() {
	case reflect.Struct:
		for i := range v.NumField() {
			eachField(v.Field(i), visit)
		}
		return
	case reflect.Slice:
		for i := range v.Len() {
			eachField(v.Index(i), visit)
		}
	}
	visit(v)
}

// changes: what may be done with a field so that it is another one.
func changes(v reflect.Value) []func() {
	switch v.Kind() {
	case reflect.Int, reflect.Int64:
		n := v.Int()
		return []func(){func() { v.SetInt(n + 1) }, func() { v.SetInt(-n - 1) }, func() { v.SetInt(n + 256) }, func() { v.SetInt(n + 1<<32) }}
	case reflect.String:
		s := v.String()
		return []func(){func() { v.SetString(s + "x") }, func() { v.SetString(s + "\x00") }, func() { v.SetString("if" + s) }}
	}
	l := doubled(v)
	item := reflect.New(v.Type().Elem()).Elem()
	out := []func(){func() { v.Set(reflect.Append(doubled(l), item)) }}
	if n := l.Len(); n > 0 {
		out = append(out, func() { v.Set(l.Slice(0, n-1)) }, func() { v.Set(l.Slice(1, n)) }, func() { v.Set(reflect.Append(doubled(l), l.Index(0))) }, func() { v.SetZero() })
	}
	return out
}

func TestEqualOfEachField(t *testing.T) {
	p := rich()
	// A program without its form has fields that no other one has.
	p.Body = append(p.Body, api.Stmt{Kind: 99, Name: "q", Exprs: []api.Expr{{Num: -1, Name: "r"}}, Conds: []api.Cond{{Op: 9}}, Then: []api.Stmt{{}}, Else: []api.Stmt{{}, {}}})
	q := double(p)
	both(t, "the same twice", p, q, true)
	tried := 0
	eachField(reflect.ValueOf(&q).Elem(), func(v reflect.Value) {
		was := doubled(v)
		for i, change := range changes(v) {
			change()
			both(t, v.Type().String()+", change "+string(rune('0'+i)), p, q, false)
			v.Set(was)
			tried++
		}
	})
	both(t, "put back", p, q, true)
	if tried < 500 {
		t.Errorf("only %d changes were tried", tried)
	}
}

func TestEqualOfNilAndEmpty(t *testing.T) {
	both(t, "no lists", api.Prog{}, api.Prog{Decls: []api.Decl{}, Body: []api.Stmt{}}, true)
	both(t, "room behind none", api.Prog{}, api.Prog{Decls: make([]api.Decl, 0, 9), Body: make([]api.Stmt, 0, 9)}, true)
	p := rich()
	q := double(p) // its empty lists aren't nil
	if q.Body[0].Then == nil || p.Body[0].Then != nil {
		t.Fatal("the two have no unlike lists")
	}
	both(t, "empty lists everywhere", p, q, true)
	both(t, "an empty list beside one of an item", body(branch(yes(), []api.Stmt{}, nil)), body(branch(yes(), make([]api.Stmt, 1), nil)), false)
	both(t, "nil beside a list of an item", api.Prog{}, api.Prog{Decls: make([]api.Decl, 1)}, false)
}

// TestEqualOfUnlikeShapes: trees whose nodes are alike one by one, but which have them elsewhere.
func TestEqualOfUnlikeShapes(t *testing.T) {
	neg := func(args ...api.Expr) api.Expr { return op(api.ENeg, args...) }
	a, b := skip(), asked(api.SWhile, yes())
	for i, l := range [][]api.Prog{
		{body(a, a), body(a), body(a, a, a), {}},
		{body(branch(yes(), []api.Stmt{a, a}, nil)), body(branch(yes(), []api.Stmt{a}, []api.Stmt{a})), body(branch(yes(), nil, []api.Stmt{a, a})), body(branch(yes(), []api.Stmt{a}, nil), a), body(branch(yes(), nil, nil), a, a)},
		{body(asked(api.SWhile, yes(), b, a)), body(asked(api.SWhile, yes(), asked(api.SWhile, yes(), a))), body(asked(api.SWhile, yes(), b), a), body(b, asked(api.SWhile, yes(), a)), body(b, b, a)},
		{body(set("x", neg(neg(), neg()))), body(set("x", neg(neg(neg())))), body(api.Stmt{Kind: api.SAssign, Name: "x", Exprs: []api.Expr{neg(), neg(), neg()}})},
		{body(asked(api.SAssert, join(api.CAnd, join(api.CAnd, yes(), yes()), yes()))), body(asked(api.SAssert, join(api.CAnd, yes(), join(api.CAnd, yes(), yes()))))},
		{{Decls: make([]api.Decl, 2)}, {Decls: make([]api.Decl, 1), Body: make([]api.Stmt, 1)}, {Body: make([]api.Stmt, 2)}},
		{body(api.Stmt{Exprs: make([]api.Expr, 1)}), body(api.Stmt{Conds: make([]api.Cond, 1)}), body(api.Stmt{Then: make([]api.Stmt, 1)}), body(api.Stmt{Else: make([]api.Stmt, 1)})},
		{body(asked(1, api.Cond{Exprs: make([]api.Expr, 1)})), body(asked(1, api.Cond{Parts: make([]api.Cond, 1)}))},
	} {
		for j, p := range l {
			for k, q := range l {
				both(t, "row "+string(rune('0'+i)), p, double(q), j == k)
			}
		}
	}
}

func TestEqualWithoutForm(t *testing.T) {
	for want, p := range faulty() {
		whole := want == api.ErrTreeForm || want == api.ErrTreeName
		both(t, "a faulty one and itself", p, p, whole)
		both(t, "a faulty one and its like", p, double(p), whole)
		both(t, "a faulty one and a right one", p, rich(), false)
		both(t, "a faulty one and none", p, api.Prog{}, false)
		for other, q := range faulty() {
			both(t, "two faulty ones", p, q, whole && want == other)
		}
	}
	both(t, "4096 nodes without form", body(make([]api.Stmt, 4096)...), body(make([]api.Stmt, 4096)...), true)
	both(t, "4096 nodes and one more", body(make([]api.Stmt, 4096)...), body(make([]api.Stmt, 4097)...), false)
	both(t, "depth 64 and 65", body(set("x", negated(62, num(1)))), body(set("x", negated(63, num(1)))), false)
	both(t, "depth 64", body(set("x", negated(62, num(1)))), body(set("x", negated(62, num(1)))), true)
	both(t, "a limit met behind all that is like", body(skips(4096)...), body(skips(4097)...), false)
}

// plain: p with each empty list nil, by which reflect.DeepEqual has Equal's meaning.
func plain(p api.Prog) api.Prog {
	p = double(p)
	eachField(reflect.ValueOf(&p).Elem(), func(v reflect.Value) {
		if v.Kind() == reflect.Slice && v.Len() == 0 {
			v.SetZero()
		}
	})
	return p
}

func TestEqualAgainstLibrary(t *testing.T) {
	l := grown(160)
	for i, p := range l {
		_, e := modelCheck(model(p))
		whole := e != api.ErrTreeDeep && e != api.ErrTreeMany
		both(t, "a grown one and its like", p, double(p), whole)
		for _, q := range l[i+1 : min(i+5, len(l))] {
			_, f := modelCheck(model(q))
			both(t, "two grown ones", p, q, whole && f != api.ErrTreeDeep && f != api.ErrTreeMany && reflect.DeepEqual(plain(p), plain(q)))
		}
	}
}

// copied holds P3.4 of p, which Check takes.
func copied(t *testing.T, p api.Prog) api.Prog {
	t.Helper()
	q, e := Copy(p)
	if e != api.OK || !Equal(p, q) || !Equal(q, p) || !Equal(p, p) || !reflect.DeepEqual(plain(p), plain(q)) {
		t.Errorf("P3.4: a copy that isn't like it, or %d", e)
	}
	d, _ := Depth(p)
	n, _ := Nodes(p)
	l, _ := Names(p)
	tells(t, q, n, d, l...)
	return q
}

func TestCopy(t *testing.T) {
	copied(t, api.Prog{})
	copied(t, api.Prog{Decls: []api.Decl{}, Body: []api.Stmt{}})
	copied(t, rich())
	copied(t, double(rich()))
	copied(t, body(skips(4096)...))
	copied(t, body(set("x", negated(62, num(1)))))
	copied(t, body(blocks(63, true, skip())))
	taken := 0
	for _, p := range grown(400) {
		if _, e := modelCheck(model(p)); e == api.OK {
			copied(t, p)
			taken++
		}
	}
	if taken < 50 {
		t.Errorf("only %d grown programs could be copied", taken)
	}
}

// wreck writes over all that hangs on p, the room behind its lists too.
func wreck(p api.Prog) {
	eachField(reflect.ValueOf(&p).Elem(), func(v reflect.Value) {
		if v.Kind() == reflect.Slice {
			l := v.Slice(0, v.Cap())
			for i := range l.Len() {
				l.Index(i).SetZero()
			}
		}
	})
}

func TestCopyIsWrittenOver(t *testing.T) {
	p := rich()
	a, b := copied(t, p), copied(t, p)
	wreck(a)
	if !Equal(p, rich()) || !Equal(b, rich()) {
		t.Error("P3.3: what is written into a copy is seen in the program, or in another copy")
	}
	wreck(p)
	if !Equal(b, rich()) {
		t.Error("P3.3: what is written into the program is seen in its copy")
	}
}

// span: the memory of a list, the room behind it included.
type span struct{ from, to uintptr }

func spans(p api.Prog) []span {
	var l []span
	eachField(reflect.ValueOf(&p).Elem(), func(v reflect.Value) {
		if v.Kind() == reflect.Slice && v.Cap() > 0 {
			l = append(l, span{v.Pointer(), v.Pointer() + uintptr(v.Cap())*v.Type().Elem().Size()})
		}
	})
	return l
}

func TestListsOfACopyShareNothing(t *testing.T) {
	e, c := op(api.EAdd, variable("x"), num(1)), held(variable("x"), api.OpLt, num(1))
	s := []api.Stmt{set("x", e), asked(api.SAssert, c)}
	shared := body(set("x", op(api.EMul, e, e)), branch(join(api.COr, c, c), s, s), asked(api.SWhile, c, s...), asked(api.SWhile, c, s...))
	shared.Decls = []api.Decl{{Name: "x"}}
	for _, p := range []api.Prog{rich(), double(rich()), shared} {
		q := copied(t, p)
		all := append(spans(q), spans(copied(t, p))...)
		for i, a := range all {
			for _, b := range append(slices.Clone(all[i+1:]), spans(p)...) {
				if a.from < b.to && b.from < a.to {
					t.Fatal("P3.3: two lists share memory")
				}
			}
		}
	}
}

func TestCopyKeepsNoText(t *testing.T) {
	source := strings.Repeat("x", 100)
	p := api.Prog{Decls: []api.Decl{{Name: source[:1]}}, Body: []api.Stmt{set(source[:1], item(source[:1], variable(source[:1])))}}
	q := copied(t, p)
	eachField(reflect.ValueOf(&q).Elem(), func(v reflect.Value) {
		if v.Kind() == reflect.String && v.Len() > 0 && unsafe.StringData(v.String()) == unsafe.StringData(source) {
			t.Error("P3.3: a copy keeps the text that was handed in")
		}
	})
}

func TestNothingHandedInIsChanged(t *testing.T) {
	for _, p := range append(grown(8), rich()) {
		p = double(p)
		eachField(reflect.ValueOf(&p).Elem(), func(v reflect.Value) {
			if v.Kind() != reflect.Slice {
				return
			}
			if f := v.Slice(v.Len(), v.Cap()).Index(0).FieldByName("Kind"); f.IsValid() {
				f.SetInt(77)
			}
		})
		before := rooms(p)
		Check(p)
		Depth(p)
		Nodes(p)
		Equal(p, p)
		Copy(p)
		Names(p)
		for _, s := range p.Body {
			for _, e := range s.Exprs {
				Expr(e)
			}
			for _, c := range s.Conds {
				Cond(c)
			}
		}
		if !reflect.DeepEqual(before, rooms(p)) {
			t.Fatal("what was handed in was changed")
		}
	}
}

// rooms: all lists of p with the room behind them, of memory of their own.
func rooms(p api.Prog) []any {
	var l []any
	eachField(reflect.ValueOf(&p).Elem(), func(v reflect.Value) {
		if v.Kind() == reflect.Slice {
			l = append(l, doubled(v.Slice(0, v.Cap())).Interface())
		}
	})
	return l
}

func TestAnswersHangOnArgumentsOnly(t *testing.T) {
	for i, p := range grown(64) {
		q := double(p)
		a, e := Names(p)
		c, d := Copy(p)
		wreck(p)
		b, f := Names(q)
		if !slices.Equal(a, b) || e != f || d != f || f == api.OK && !Equal(c, q) {
			t.Errorf("program %d: one program in two places is answered in two ways", i)
		}
	}
}
