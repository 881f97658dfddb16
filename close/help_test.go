package close

import (
	"fmt"
	"math"
	"math/rand/v2"
	"slices"

	"gnomon/api"
	"gnomon/dbm"
)

const (
	far   = 1 << 62 // the greatest bound but Inf
	inf   = api.Inf
	least = math.MinInt64
	most  = math.MaxInt64
)

// of: an octagon of n variables, by cells that are laid on Top: i, j, bound, and so on.
func of(n int, l ...int64) api.Oct {
	o, _ := dbm.Top(n)
	for k := 0; k < len(l); k += 3 {
		o, _ = dbm.With(o, int(l[k]), int(l[k+1]), l[k+2])
	}
	return o
}

// none: the Empty one.
func none(n int) api.Oct { return api.Oct{N: n, Empty: true} }

// raw: its cells as they stand, be they what they may.
func raw(n int, m ...int64) api.Oct { return api.Oct{N: n, M: m} }

// told: an octagon as text: all that it holds.
func told(o api.Oct) string { return fmt.Sprint(o.N, o.Empty, o.M) }

// over: the side across, in the words of chapter 12.
func over(i int) int {
	if i%2 == 0 {
		return i + 1
	}
	return i - 1
}

// cell: the cell (i, j).
func cell(o api.Oct, i, j int) int64 { return o.M[2*o.N*i+j] }

// matrix: an octagon of n variables, each cell what tell says of its place.
func matrix(n int, tell func(i, j int) int64) api.Oct {
	o := api.Oct{N: n}
	for i := range 2 * n {
		for j := range 2 * n {
			o.M = append(o.M, tell(i, j))
		}
	}
	return o
}

// grid: all points of n numbers of which each is one of l.
func grid(n int, l []int64) [][]int64 {
	all := [][]int64{{}}
	for range n {
		var more [][]int64
		for _, x := range all {
			for _, a := range l {
				more = append(more, append(slices.Clone(x), a))
			}
		}
		all = more
	}
	return all
}

// upTo: the whole numbers from -b to b.
func upTo(b int64) []int64 {
	var l []int64
	for a := -b; a <= b; a++ {
		l = append(l, a)
	}
	return l
}

// few: what lies about the limits, their halves and quarters, and 0.
func few() []int64 {
	var l []int64
	for _, n := range []int64{0, far / 4, far / 2, far} {
		for d := int64(-2); d <= 2; d++ {
			l = append(l, n+d, -(n + d))
		}
	}
	slices.Sort(l)
	return slices.Compact(l)
}

// grower makes octagons and points, the same ones in each run.
type grower struct{ *rand.Rand }

func newGrower(seed uint64) grower { return grower{rand.New(rand.NewPCG(seed, 13))} }

// near: a number that is small, and more often above 0.
func (g grower) near() int64 { return g.Int64N(12) - 3 }

// away: a number of any size.
func (g grower) away() int64 {
	if l := few(); g.IntN(2) == 0 {
		return l[g.IntN(len(l))]
	}
	return int64(g.Uint64()) >> g.IntN(64)
}

// mixed: of both sorts.
func (g grower) mixed() int64 {
	if g.IntN(3) == 0 {
		return g.away()
	}
	return g.near()
}

// sparse: an octagon of n variables on which some cells are laid.
func (g grower) sparse(n int, number func() int64) api.Oct {
	o := of(n)
	for range g.IntN(2*n*n + 2) {
		if i, j := g.IntN(2*n+1), g.IntN(2*n+1); max(i, j) < 2*n && i != j {
			o, _ = dbm.With(o, i, j, number())
		}
	}
	return o
}

// around: one that has some points, which are told too; many of its cells are more than the points need.
func (g grower) around(n int, number func() int64) (api.Oct, [][]int64) {
	l := make([][]int64, 1+g.IntN(3))
	for k := range l {
		for range n {
			l[k] = append(l[k], number())
		}
	}
	p, _ := dbm.Points(n, l)
	o := of(n)
	for at, c := range dbm.Cells(p) {
		if more := c + g.Int64N(4); g.IntN(3) > 0 && more <= far {
			o, _ = dbm.With(o, at[0], at[1], more)
		}
	}
	return o, l
}

// any: an octagon of n variables of whatever sort, an Empty one among them.
func (g grower) any(n int) api.Oct {
	numbers := []func() int64{g.near, g.mixed, g.away}
	switch number := numbers[g.IntN(3)]; g.IntN(8) {
	case 0:
		o, _ := g.around(n, number)
		return o
	case 1:
		return none(n)
	default:
		return g.sparse(n, number)
	}
}
