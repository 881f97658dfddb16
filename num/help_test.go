package num

import (
	"fmt"
	"math"
	"math/rand/v2"
	"slices"
	"testing"

	"gnomon/api"
)

const (
	least = math.MinInt64
	most  = math.MaxInt64
)

// reckoned: what one of the operations tells.
type reckoned struct {
	num   int64
	wrong int
}

func (r reckoned) String() string {
	switch {
	case r == over():
		return "over"
	case r == zero():
		return "zero"
	case r.wrong == api.WrongNone:
		return fmt.Sprint(r.num)
	}
	return fmt.Sprintf("%d with wrong %d", r.num, r.wrong)
}

func over() reckoned { return reckoned{0, api.WrongOver} }

func zero() reckoned { return reckoned{0, api.WrongZero} }

func exact(n int64) reckoned { return reckoned{n, api.WrongNone} }

func got(n int64, wrong int) reckoned { return reckoned{n, wrong} }

// operation: one of the five that take two numbers.
type operation struct {
	name string
	of   func(a, b int64) (int64, int)
}

func operations() []operation {
	return []operation{{"Add", Add}, {"Sub", Sub}, {"Mul", Mul}, {"Div", Div}, {"Rem", Rem}}
}

// row: two numbers, and what is told of them.
type row struct {
	a, b int64
	want reckoned
}

// tells holds an operation against rows.
func tells(t *testing.T, name string, of func(a, b int64) (int64, int), rows []row) {
	t.Helper()
	for _, r := range rows {
		if g := got(of(r.a, r.b)); g != r.want {
			t.Errorf("P7.1: %s(%d, %d): %v, want %v", name, r.a, r.b, g, r.want)
		}
	}
}

// ends: the numbers at the ends and around 0.
func ends() []int64 { return []int64{least, least + 1, -1, 0, 1, most - 1, most} }

// edges: the ends, what lies within two of each power of two and of the roots of 2^63, and of each power of ten, on either side of 0; sorted, each once.
func edges() []int64 {
	list := ends()
	around := func(n int64) {
		for d := int64(-2); d <= 2; d++ {
			list = append(list, n+d, -n+d) // what wraps round is a number at the other end
		}
	}
	for k := range 64 {
		around(1 << k)
	}
	around(3037000499) // the root of 2^63, rounded down
	for ten := int64(1); ten <= most/10; ten *= 10 {
		around(ten)
	}
	slices.Sort(list)
	return slices.Compact(list)
}

// drawn: numbers of all sizes, n of them, the same ones for one seed.
func drawn(seed uint64, n int) []int64 {
	r := rand.New(rand.NewPCG(seed, 7))
	list := make([]int64, n)
	for i := range list {
		list[i] = int64(r.Uint64()) >> r.IntN(64)
	}
	return list
}

// pairs gives each pair of edges, of numbers near 0, and drawn ones.
func pairs(yield func(a, b int64) bool) {
	all := edges()
	for _, a := range all {
		for _, b := range all {
			if !yield(a, b) {
				return
			}
		}
	}
	for a := int64(-40); a <= 40; a++ {
		for b := int64(-40); b <= 40; b++ {
			if !yield(a, b) {
				return
			}
		}
	}
	l, m := drawn(1, 50000), drawn(2, 50000)
	for i, a := range l {
		if !yield(a, m[i]) {
			return
		}
	}
}

// ops: all ops, and numbers that are none: next to them, at the ends, and those that a narrower number would take for one.
func ops() []int {
	list := []int{least, least + 1, -256, -2, -1, 0, api.OpGe + 1, api.OpGe + 2, 100, most - 1, most}
	for op := api.OpLt; op <= api.OpGe; op++ {
		list = append(list, op, -op, op+8, op+16, op+1<<8, op+1<<16, op+1<<32, op+least, ^op)
	}
	return list
}

// isOp: whether there is such an op.
func isOp(op int) bool { return op >= api.OpLt && op <= api.OpGe }
