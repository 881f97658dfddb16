package dbm

import (
	"fmt"
	"slices"
	"sync"
	"testing"

	"gnomon/api"
)

// roomy: l with spare room behind it.
func roomy[T any](l []T, spare T) []T { return append(slices.Clone(l), spare, spare)[:len(l)] }

// scribble writes over a list and its spare room.
func scribble[T any](l []T, v T) {
	l = l[:cap(l)]
	for i := range l {
		l[i] = v
	}
}

// said: all that the calls say of an octagon and two points of as many numbers, as text.
func said(o api.Oct, l [][]int64) string {
	s := fmt.Sprint(int(Check(o)), Equal(o, o), gathered(o))
	for i := -1; i <= 2*max(o.N, 0) && i < 9; i++ {
		for j := -1; j <= 2*max(o.N, 0) && j < 9; j++ {
			c, e := Get(o, i, j)
			p, f := With(o, i, j, -2)
			s += fmt.Sprint(" ", c, int(e), told(p), int(f))
		}
	}
	for _, x := range l {
		s += fmt.Sprint(" ", Has(o, x))
	}
	p, e := Points(o.N, l)
	top, f := Top(o.N)
	empty, g := Empty(o.N)
	return s + fmt.Sprint(told(p), int(e), told(top), int(f), told(empty), int(g))
}

// TestNothingHandedInIsChanged: nor the spare room behind a list.
func TestNothingHandedInIsChanged(t *testing.T) {
	for _, o := range []api.Oct{full(2), open(3), {N: 2, Empty: true}, {}, {N: 1, M: []int64{1, 2, 3, 4}}, {N: 2, M: []int64{5}}} {
		l := [][]int64{make([]int64, max(o.N, 0)), make([]int64, max(o.N, 0))}
		for k := range l {
			for i := range l[k] {
				l[k][i] = int64(3*k + i)
			}
			l[k] = roomy(l[k], 77)
		}
		l = roomy(l, []int64{66})
		o.M = roomy(o.M, 55)
		rooms := func() string {
			return fmt.Sprint(told(o), o.M[:cap(o.M)][:len(o.M)+2], l[:cap(l)][:len(l)+2], l[0][:len(l[0])+2], l[1][:len(l[1])+2])
		}
		before := rooms()
		first := said(o, l)
		if rooms() != before {
			t.Errorf("%s became %s", before, rooms())
		}
		if again := said(o, l); again != first {
			t.Errorf("%s, then %s", first, again)
		}
	}
}

// TestRoomIsNothing: what stands in the spare room behind a list is no part of it.
func TestRoomIsNothing(t *testing.T) {
	o := open(1)
	short := api.Oct{N: 1, M: o.M[:3]}
	if e := Check(short); e != api.ErrDbmSize {
		t.Errorf("P12.1: three cells: %d", e)
	}
	if e := Check(api.Oct{N: 1, Empty: true, M: o.M[:0]}); e != api.OK {
		t.Errorf("P12.1: no cells: %d", e)
	}
	if Has(o, []int64{1, 2}[:0]) || !Has(o, []int64{1, 2}[:1]) {
		t.Error("P12.3: a point's spare room counts")
	}
	if p, e := Points(1, [][]int64{{3}, {1, 2}}[:1]); told(p) != told(api.Oct{N: 1, M: []int64{0, 6, -6, 0}}) || e != api.OK {
		t.Errorf("P12.3: %s, %d", told(p), e)
	}
}

// TestAnswersAreNewMemory: each list that is answered is written over, its spare room too, and no other one changes, nor what was handed in.
func TestAnswersAreNewMemory(t *testing.T) {
	o := full(2)
	x := [][]int64{{1, 2}, {3, 4}}
	empty := api.Oct{N: 2, Empty: true, M: roomy([]int64{}, 9)}
	answers := map[string]func() api.Oct{
		"Top":            func() api.Oct { r, _ := Top(2); return r },
		"Top of none":    func() api.Oct { r, _ := Top(0); return r },
		"Empty":          func() api.Oct { r, _ := Empty(2); return r },
		"With":           func() api.Oct { r, _ := With(o, 0, 1, -5); return r },
		"With the same":  func() api.Oct { r, _ := With(o, 0, 1, inf); return r },
		"With one side":  func() api.Oct { r, _ := With(o, 3, 3, 0); return r },
		"With to Empty":  func() api.Oct { r, _ := With(o, 3, 3, -1); return r },
		"With of Empty":  func() api.Oct { r, _ := With(empty, 0, 1, 5); return r },
		"Points":         func() api.Oct { r, _ := Points(2, x); return r },
		"Points of one":  func() api.Oct { r, _ := Points(2, x[:1]); return r },
		"Points of none": func() api.Oct { r, _ := Points(2, nil); return r },
	}
	all := func() string {
		s := ""
		for _, name := range []string{"Top", "Top of none", "Empty", "With", "With the same", "With one side", "With to Empty", "With of Empty", "Points", "Points of one", "Points of none"} {
			s += told(answers[name]()) + ";"
		}
		return s + fmt.Sprint(told(o), x, empty.M[:2])
	}
	want := all()
	for name, answer := range answers {
		r, other := answer(), answer()
		before := told(other)
		scribble(r.M, 7)
		if told(other) != before || all() != want {
			t.Errorf("%s: %s, %s; want %s", name, told(other), all(), want)
		}
	}
	r, _ := With(o, 0, 1, -5)
	p, _ := Points(2, x[:1])
	before := told(r) + told(p)
	scribble(o.M, 8)
	scribble(x[0], 8)
	if told(r)+told(p) != before {
		t.Errorf("%s became %s%s", before, told(r), told(p))
	}
}

// TestNilAndEmpty: they are the same, wherever a list is empty.
func TestNilAndEmpty(t *testing.T) {
	for _, o := range []api.Oct{{}, {N: 3, Empty: true}, {N: 1}, {N: -1}, {N: 65}} {
		p := o
		p.M = []int64{}
		if a, b := said(o, nil), said(p, [][]int64{}); a != b {
			t.Errorf("%s, %s", a, b)
		}
		if Equal(o, p) != (modelledCheck(o) == api.OK) {
			t.Errorf("P12.4: %s, with nil or an empty list", told(o))
		}
	}
	a, e := Points(0, [][]int64{nil})
	b, f := Points(0, [][]int64{{}})
	if told(a) != told(b) || e != f || !Equal(a, b) {
		t.Errorf("P12.3: %s, %d; %s, %d", told(a), e, told(b), f)
	}
}

// TestAnswersHangOnArgumentsOnly: not on what was asked before, or is asked at the same time.
func TestAnswersHangOnArgumentsOnly(t *testing.T) {
	g := newGrower(13)
	type asked struct {
		o api.Oct
		l [][]int64
	}
	var all []asked
	var answers []string
	for range 200 {
		o := g.bent()
		n := min(max(o.N, 0), 9)
		a := asked{o, [][]int64{g.near(n), g.point(n)}}
		all, answers = append(all, a), append(answers, said(a.o, a.l))
	}
	var group sync.WaitGroup
	for range 4 {
		group.Go(func() {
			for i, a := range slices.Backward(all) {
				if s := said(a.o, a.l); s != answers[i] {
					t.Errorf("%s, then %s", answers[i], s)
				}
			}
		})
	}
	group.Wait()
}
