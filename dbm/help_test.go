package dbm

import (
	"fmt"
	"math"
	"math/rand/v2"
	"slices"
	"strconv"
	"strings"
	"testing"

	"gnomon/api"
)

const (
	far   = 1 << 62 // the greatest bound but Inf
	inf   = api.Inf
	least = math.MinInt64
	most  = math.MaxInt64
)

// over: the side across, in the chapter's words.
func over(i int) int {
	if i%2 == 0 {
		return i + 1
	}
	return i - 1
}

// matrix: an octagon of n variables, each cell what tell says of its place.
func matrix(n int, tell func(i, j int) int64) api.Oct {
	o := api.Oct{N: n}
	for i := range 2 * n {
		for j := range 2 * n {
			o.M = append(o.M, tell(i, j))
		}
	}
	return o
}

// open: of n variables, all cells Inf, but 0 at (i, i).
func open(n int) api.Oct {
	return matrix(n, func(i, j int) int64 {
		if i == j {
			return 0
		}
		return inf
	})
}

// full: of n variables, each cell of its own, but that of two places that say the same.
func full(n int) api.Oct {
	return matrix(n, func(i, j int) int64 {
		k, l := over(j), over(i)
		switch {
		case i == j:
			return 0
		case i < k || i == k && j <= l:
			return int64(1000*i + j + 1)
		}
		return int64(1000*k + l + 1)
	})
}

// number: one that is written, in digits or as one of the edges, with a number put to it.
func number(t *testing.T, s string) int64 {
	t.Helper()
	for _, e := range []struct {
		name string
		n    int64
	}{{"-FAR", -far}, {"FAR", far}, {"INF", inf}, {"MIN", least}, {"MAX", most}} {
		if rest, ok := strings.CutPrefix(s, e.name); ok {
			if rest == "" {
				return e.n
			}
			return e.n + number(t, rest)
		}
	}
	n, err := strconv.ParseInt(s, 10, 64)
	if err != nil {
		t.Fatal(err)
	}
	return n
}

// oct: an octagon by its variables and some of its cells, each laid at both its places: "2: 0,2<=1 0,1<=FAR"; or "2 empty".
func oct(t *testing.T, s string) api.Oct {
	t.Helper()
	if n, ok := strings.CutSuffix(s, " empty"); ok {
		return api.Oct{N: int(number(t, n)), Empty: true}
	}
	n, all, _ := strings.Cut(s, ":")
	o := open(int(number(t, n)))
	for _, f := range strings.Fields(all) {
		at, c, _ := strings.Cut(f, "<=")
		l, r, _ := strings.Cut(at, ",")
		i, j := int(number(t, l)), int(number(t, r))
		o.M[2*o.N*i+j] = number(t, c)
		o.M[2*o.N*over(j)+over(i)] = number(t, c)
	}
	return o
}

// told: an octagon as text: all that it holds.
func told(o api.Oct) string { return fmt.Sprint(o.N, o.Empty, o.M) }

// cellOf: a cell as Cells gives it.
type cellOf struct {
	at [2]int
	c  int64
}

// gathered: all that Cells gives.
func gathered(o api.Oct) []cellOf {
	var all []cellOf
	for at, c := range Cells(o) {
		all = append(all, cellOf{at, c})
	}
	return all
}

// few: what lies within two of the limits, of their halves, of 0 and of the ends of int64; sorted, each once.
func few() []int64 {
	var list []int64
	for _, n := range []int64{0, far / 2, far, most} {
		for d := int64(-2); d <= 2; d++ {
			list = append(list, n+d, -(n + d))
		}
	}
	slices.Sort(list)
	return slices.Compact(list)
}

// grower makes octagons and points, the same ones in each run.
type grower struct{ *rand.Rand }

func newGrower(seed uint64) grower { return grower{rand.New(rand.NewPCG(seed, 12))} }

// number: often a small one, else of any size, or an edge.
func (g grower) number() int64 {
	switch g.IntN(4) {
	case 0:
		return int64(g.Uint64()) >> g.IntN(64)
	case 1:
		list := few()
		return list[g.IntN(len(list))]
	}
	return g.Int64N(9) - 4
}

// bound: a number that is a bound; Inf is often one.
func (g grower) bound() int64 {
	if c := g.number(); g.IntN(3) > 0 && -far <= c && c <= far {
		return c
	}
	return inf
}

// oct: one that may be, of n variables.
func (g grower) oct(n int) api.Oct {
	if g.IntN(12) == 0 {
		return api.Oct{N: n, Empty: true}
	}
	o := open(n)
	for i := range 2 * n {
		for j := range 2 * n {
			if c := g.bound(); i != j {
				o.M[2*n*i+j], o.M[2*n*over(j)+over(i)] = c, c
			}
		}
	}
	return o
}

// bent: often one that may be, else one with a thing that can't be.
func (g grower) bent() api.Oct {
	o := g.oct(g.IntN(4))
	if len(o.M) == 0 {
		o.N += g.IntN(2) * (g.IntN(140) - 70)
	}
	switch g.IntN(8) {
	case 0:
		o.M = append(o.M, g.bound())
	case 1:
		o.Empty = !o.Empty
	case 2:
		o.M = o.M[:max(0, len(o.M)-1)]
	case 3, 4:
		if len(o.M) > 0 {
			o.M[g.IntN(len(o.M))] = g.number()
		}
	}
	return o
}

func (g grower) point(n int) []int64 {
	x := make([]int64, n)
	for i := range x {
		x[i] = g.number()
	}
	return x
}

// near: a point of small numbers.
func (g grower) near(n int) []int64 {
	x := make([]int64, n)
	for i := range x {
		x[i] = g.Int64N(9) - 4
	}
	return x
}
