package close

import (
	"fmt"
	"slices"
	"sync"
	"testing"

	"gnomon/api"
)

// said: all that the calls say of an octagon, as text.
func said(o api.Oct) string {
	c, saturated, e := Close(o)
	is, f := Closed(o)
	return fmt.Sprint(told(c), saturated, int(e), is, int(f), Cost(o.N))
}

// roomy: l with spare room behind it.
func roomy(l []int64) []int64 { return append(slices.Clone(l), 55, 55)[:len(l)] }

// sorts: octagons by which each way of ending is taken, errors among them.
func sorts() []api.Oct {
	return []api.Oct{
		{}, of(2), none(2), of(1, 0, 1, 3), of(2, 0, 2, 1, 2, 3, 5), of(2, 0, 1, 3, 2, 3, 5), of(3, 0, 2, far, 2, 4, 1), of(3, 0, 2, -far/4-1, 0, 4, far, 1, 0, 3),
		of(2, 0, 2, 1, 2, 0, -2), of(1, 0, 1, 3, 1, 0, -3), chained(3), {N: 1}, raw(1, 1, 2, 3, 4), {N: 1, Empty: true, M: []int64{0, 1, 2, 0}}, {N: 65},
	}
}

// TestNothingHandedInIsChanged: nor the spare room behind a list; and that is no part of it.
func TestNothingHandedInIsChanged(t *testing.T) {
	for _, o := range sorts() {
		first := said(o)
		o.M = roomy(o.M)
		rooms := func() string { return fmt.Sprint(told(o), o.M[:len(o.M)+2]) }
		before := rooms()
		again := said(o)
		if rooms() != before {
			t.Errorf("%s became %s", before, rooms())
		}
		if again != first {
			t.Errorf("of %s: %s, then %s", before, first, again)
		}
	}
}

// TestAnswersAreNewMemory: an answer is written over, its spare room too, and no other one changes, nor what was handed in.
func TestAnswersAreNewMemory(t *testing.T) {
	for _, o := range sorts() {
		o.M = roomy(o.M)
		before := fmt.Sprint(told(o), o.M[:len(o.M)+2])
		r, _, _ := Close(o)
		other, _, _ := Close(o)
		want := told(other)
		for k := range r.M[:cap(r.M)] {
			r.M[:cap(r.M)][k] = 7
		}
		if later, _, _ := Close(o); told(other) != want || told(later) != want {
			t.Errorf("of %s: %s became %s; later %s", told(o), want, told(other), told(later))
		}
		if now := fmt.Sprint(told(o), o.M[:len(o.M)+2]); now != before {
			t.Errorf("%s became %s", before, now)
		}
		for k := range o.M {
			o.M[k] = 8
		}
		if told(other) != want {
			t.Errorf("%s became %s", want, told(other))
		}
	}
}

// TestNilAndEmpty: they are the same.
func TestNilAndEmpty(t *testing.T) {
	for _, o := range []api.Oct{{}, {Empty: true}, {N: 3, Empty: true}, {N: 1}, {N: -1}, {N: 65}} {
		p := o
		p.M = []int64{}
		if a, b := said(o), said(p); a != b {
			t.Errorf("of %s with nil: %s, with an empty list: %s", told(o), a, b)
		}
	}
}

// TestAnswersHangOnArgumentsOnly: not on what was asked before, or is asked at the same time.
func TestAnswersHangOnArgumentsOnly(t *testing.T) {
	g := newGrower(10)
	all := sorts()
	for range 300 {
		all = append(all, g.any(g.IntN(5)))
	}
	var answers []string
	for _, o := range all {
		answers = append(answers, said(o))
	}
	var group sync.WaitGroup
	for range 4 {
		group.Go(func() {
			for i, o := range slices.Backward(all) {
				if s := said(o); s != answers[i] {
					t.Errorf("%s, then %s", answers[i], s)
				}
			}
		})
	}
	group.Wait()
}
