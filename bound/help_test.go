package bound

import (
	"math"
	"math/rand/v2"
	"slices"

	"gnomon/api"
)

const (
	top   = 1 << 62
	inf   = api.Inf
	least = math.MinInt64
)

// edges: what lies within two of each power of two on either side of 0, of 0 and of the ends of int64; sorted, each once.
func edges() []int64 {
	list := []int64{0}
	for k := range 64 {
		for d := int64(-2); d <= 2; d++ {
			list = append(list, 1<<k+d, -(1<<k + d)) // what wraps round is a number at the other end
		}
	}
	slices.Sort(list)
	return slices.Compact(list)
}

// few: the edges that lie about the limits, their halves and quarters, 0 and the ends.
func few() []int64 {
	var list []int64
	for _, n := range []int64{0, top / 4, top / 2, top / 4 * 3, top, inf} {
		for d := int64(-2); d <= 2; d++ {
			list = append(list, n+d, -(n + d))
		}
	}
	slices.Sort(list)
	return slices.Compact(list)
}

// drawn: numbers of all sizes, n of them, the same ones for one seed.
func drawn(seed uint64, n int) []int64 {
	r := rand.New(rand.NewPCG(seed, 11))
	list := make([]int64, n)
	for i := range list {
		list[i] = int64(r.Uint64()) >> r.IntN(64)
	}
	return list
}

// numbers: edges, numbers near 0, and drawn ones.
func numbers() []int64 {
	list := append(edges(), drawn(1, 50000)...)
	for a := int64(-200); a <= 200; a++ {
		list = append(list, a)
	}
	return list
}

// pairs gives each pair of edges, of numbers near 0, drawn ones, and of each edge those numbers with which it makes a sum about a limit.
func pairs(yield func(a, b int64) bool) {
	var list [][2]int64
	all := edges()
	for _, a := range all {
		for d := int64(-2); d <= 2; d++ {
			list = append(list, [2]int64{a, top - a + d}, [2]int64{a, -top - a + d}, [2]int64{top - a + d, a}, [2]int64{-top - a + d, a})
		}
		for _, b := range all {
			list = append(list, [2]int64{a, b})
		}
	}
	for a := int64(-40); a <= 40; a++ {
		for b := int64(-40); b <= 40; b++ {
			list = append(list, [2]int64{a, b})
		}
	}
	l, m := drawn(2, 50000), drawn(3, 50000)
	for i, a := range l {
		list = append(list, [2]int64{a, m[i]})
	}
	for _, p := range list {
		if !yield(p[0], p[1]) {
			return
		}
	}
}
