package num

import (
	"slices"
	"sync"
	"testing"
)

// said: all that the calls say of two numbers.
type said struct {
	neg, add, sub, mul, div, rem reckoned
	cmp, not                     string
}

func say(a, b int64) said {
	s := said{got(Neg(a)), got(Add(a, b)), got(Sub(a, b)), got(Mul(a, b)), got(Div(a, b)), got(Rem(a, b)), "", ""}
	for op := range 9 {
		if Cmp(op-1, a, b) {
			s.cmp += string(rune('1' + op))
		}
		s.not += string(rune('0' + Not(op-1)))
	}
	return s
}

func sayAll(list []int64) []said {
	var all []said
	for _, a := range list {
		for _, b := range list {
			all = append(all, say(a, b))
		}
	}
	return all
}

// What is answered hangs on the arguments alone: said again, in another order, and by several at once.
func TestAnswersHangOnArguments(t *testing.T) {
	list := append(ends(), drawn(4, 90)...)
	first := sayAll(list)
	turned := slices.Clone(list)
	slices.Reverse(turned)
	back := sayAll(turned)
	slices.Reverse(back)
	if !slices.Equal(first, back) {
		t.Error("said otherwise in another order")
	}
	var group sync.WaitGroup
	again := make([][]said, 8)
	for i := range again {
		group.Go(func() { again[i] = sayAll(list) })
	}
	group.Wait()
	for i, s := range again {
		if !slices.Equal(first, s) {
			t.Errorf("said otherwise by the one of number %d", i)
		}
	}
}

func TestNothingIsAllocated(t *testing.T) {
	n := testing.AllocsPerRun(100, func() {
		for _, a := range [...]int64{least, -7, 0, 7, most} {
			for op := range 9 {
				Cmp(op-1, a, 3)
				Not(op - 1)
			}
			Neg(a)
			Add(a, a)
			Sub(a, 1)
			Mul(a, a)
			Div(a, -1)
			Rem(a, 0)
		}
	})
	if n != 0 {
		t.Errorf("%v allocations", n)
	}
}
