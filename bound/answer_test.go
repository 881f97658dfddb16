package bound

import (
	"slices"
	"sync"
	"testing"
)

// said: all that the calls say of two numbers.
type said struct {
	is, saturates bool
	plus, less    int64
	parts         parted
}

func sayAll(list []int64) []said {
	var all []said
	for _, a := range list {
		for _, b := range list {
			all = append(all, said{Is(a), Saturates(a, b), Plus(a, b), Less(a, b), parted{a, Half(a), Twice(a), Even(a)}})
		}
	}
	return all
}

// What is answered hangs on the arguments alone: said again, in another order, and by several at once.
func TestAnswersHangOnArguments(t *testing.T) {
	list := append(few(), drawn(4, 90)...)
	first := sayAll(list)
	turned := slices.Clone(list)
	slices.Reverse(turned)
	back := sayAll(turned)
	slices.Reverse(back)
	if !slices.Equal(first, back) {
		t.Error("said otherwise in another order")
	}
	var group sync.WaitGroup
	again := make([][]said, 8)
	for i := range again {
		group.Go(func() { again[i] = sayAll(list) })
	}
	group.Wait()
	for i, s := range again {
		if !slices.Equal(first, s) {
			t.Errorf("said otherwise by the one of number %d", i)
		}
	}
}

func TestNothingIsAllocated(t *testing.T) {
	list := few()
	n := testing.AllocsPerRun(100, func() {
		for _, a := range list {
			Is(a)
			Plus(a, 3)
			Saturates(a, -3)
			Half(a)
			Twice(a)
			Even(a)
			Less(a, 3)
		}
	})
	if n != 0 {
		t.Errorf("%v allocations", n)
	}
}
