package well

import (
	"reflect"
	"slices"
	"strings"
	"sync"
	"testing"
	"unsafe"

	"gnomon/api"
)

// span: where the memory of something lies, the spare room of a list included.
type span struct{ from, to uintptr }

func (a span) apart(b span) bool { return a.to <= b.from || b.to <= a.from }

func textSpan(s string) span {
	from := uintptr(unsafe.Pointer(unsafe.StringData(s)))
	return span{from, from + uintptr(len(s))}
}

func listSpan[T any](l []T) span {
	from := uintptr(unsafe.Pointer(unsafe.SliceData(l)))
	var v T
	return span{from, from + uintptr(cap(l))*unsafe.Sizeof(v)}
}

// TestAnswersAreNewMemory: no list and no text of an answer lies in what is handed in, or in another answer.
func TestAnswersAreNewMemory(t *testing.T) {
	p := read(t, strings.Clone("var x12345; array a12345[7]; var y12345; array b12345[9]; z12345 = 1;"))
	source := p.Body[0].Name
	wrong, well := p, p
	well.Body = nil
	old := []span{listSpan(p.Decls), textSpan(source)}
	for _, d := range p.Decls {
		old = append(old, textSpan(d.Name))
	}
	var told []span
	for range 2 {
		name, _ := Check(wrong)
		vars, _ := Vars(well)
		arrays, _ := Arrays(well)
		told = append(told, textSpan(name), listSpan(vars), listSpan(arrays))
		for i := range 2 {
			told = append(told, textSpan(vars[i]), textSpan(arrays[i].Name))
		}
		twice, _ := Check(api.Prog{Decls: append(slices.Clone(p.Decls), p.Decls[0])})
		told = append(told, textSpan(twice))
	}
	for i, s := range told {
		if s.to == s.from {
			t.Errorf("answer %d is empty", i)
		}
		for _, other := range append(told[:i:i], old...) {
			if !s.apart(other) {
				t.Errorf("answer %d lies in other memory", i)
			}
		}
	}
}

// roomy: l with spare room behind it.
func roomy[T any](l []T, spare T) []T { return append(slices.Clone(l), spare, spare)[:len(l)] }

// TestNothingHandedInIsChanged: nor the spare room behind a list.
func TestNothingHandedInIsChanged(t *testing.T) {
	build := func(n string) (api.Prog, []any) {
		args := roomy([]api.Expr{vari("x"), num(1)}, num(7))
		exprs := roomy([]api.Expr{{Kind: api.EMul, Args: args}, {Kind: api.ESub, Args: args}}, num(8))
		parts := roomy([]api.Cond{{Kind: api.CCmp, Op: api.OpLt, Exprs: exprs}, {Kind: api.CTrue}}, api.Cond{})
		conds := roomy([]api.Cond{{Kind: api.COr, Parts: parts}}, api.Cond{})
		then := roomy([]api.Stmt{{Kind: api.SStore, Name: "a", Exprs: exprs}}, skip())
		other := roomy([]api.Stmt{{Kind: api.SAssert, Conds: conds}}, skip())
		list := roomy([]api.Stmt{{Kind: api.SIf, Conds: conds, Then: then, Else: other}, assign(n, num(1))}, skip())
		decls := roomy([]api.Decl{{Name: "x"}, {Name: "a", Size: 2}, {Name: "y"}}, api.Decl{Name: "z"})
		return api.Prog{Decls: decls, Body: list}, []any{args[:4], exprs[:4], parts[:4], conds[:3], then[:3], other[:3], list[:4], decls[:5]}
	}
	for _, n := range []string{"x", "y", "z", "a"} {
		p, rooms := build(n)
		_, want := build(n)
		Check(p)
		vars, _ := Vars(p)
		arrays, _ := Arrays(p)
		if !reflect.DeepEqual(rooms, want) {
			t.Errorf("%s: something was changed", n)
		}
		// What is done with one of them behind a call changes nothing of the other.
		clear(p.Decls)
		if n < "x" || n == "z" {
			if vars != nil || arrays != nil {
				t.Errorf("%s: %q, %v", n, vars, arrays)
			}
			continue
		}
		if !slices.Equal(vars, []string{"x", "y"}) || !slices.Equal(arrays, []api.Decl{{Name: "a", Size: 2}}) {
			t.Errorf("%s: %q, %v", n, vars, arrays)
		}
		p, _ = build(n)
		clear(vars[:cap(vars)])
		clear(arrays[:cap(arrays)])
		tells(t, "lists that were answered are cleared", p, "", api.OK)
	}
}

// TestAnswersHangOnArgumentsOnly: not on what was asked before, or is asked at the same time, nor on a list's nil.
func TestAnswersHangOnArgumentsOnly(t *testing.T) {
	type answer struct {
		name   string
		why    api.Errno
		vars   []string
		arrays []api.Decl
	}
	ask := func(p api.Prog) answer {
		var a answer
		a.name, a.why = Check(p)
		a.vars, _ = Vars(p)
		a.arrays, _ = Arrays(p)
		return a
	}
	g := newGrower(4)
	var progs []api.Prog
	var answers []answer
	for range 300 {
		p := read(t, g.prog(g.anyDecls()))
		progs, answers = append(progs, p), append(answers, ask(p))
	}
	var all sync.WaitGroup
	for range 4 {
		all.Go(func() {
			for i, p := range slices.Backward(progs) {
				if a := ask(p); !reflect.DeepEqual(a, answers[i]) {
					t.Errorf("%v, then %v", answers[i], a)
				}
			}
		})
	}
	all.Wait()
	empty := api.Stmt{Kind: api.SSkip, Exprs: []api.Expr{}, Conds: []api.Cond{}, Then: []api.Stmt{}, Else: []api.Stmt{}}
	tells(t, "empty lists", api.Prog{Decls: []api.Decl{}, Body: []api.Stmt{empty}}, "", api.OK)
}
