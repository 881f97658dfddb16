package cfg

import (
	"fmt"
	"math/rand/v2"
	"slices"
	"testing"

	"gnomon/api"
)

// TestRoads: graphs written out, and what is told of them.
func TestRoads(t *testing.T) {
	for _, r := range []struct {
		points, exit               int
		pairs                      string
		out, reached, heads, order string
	}{
		// One point; points without edges.
		{1, 0, "", "[[]]", "[true]", "[]", "[0]"},
		{3, 2, "", "[[] [] []]", "[true false false]", "[]", "[0 1 2]"},
		{3, 0, "", "[[] [] []]", "[true false false]", "[]", "[0 1 2]"},
		// A row, forward and in other orders.
		{3, 2, "0>1 1>2", "[[0] [1] []]", "[true true true]", "[]", "[0 1 2]"},
		{3, 1, "2>1 0>2", "[[1] [] [0]]", "[true true true]", "[]", "[0 2 1]"},
		// What isn't reached stands behind all, rising, and what goes to it from there is a head.
		{4, 3, "0>3", "[[0] [] [] []]", "[true false false true]", "[]", "[0 3 1 2]"},
		{4, 3, "0>3 1>3 2>1", "[[0] [1] [2] []]", "[true false false true]", "[1 3]", "[0 3 1 2]"},
		{4, 3, "0>3 1>2 2>3", "[[0] [1] [2] []]", "[true false false true]", "[3]", "[0 3 1 2]"},
		{4, 3, "0>3 1>2 2>1", "[[0] [1] [2] []]", "[true false false true]", "[1]", "[0 3 1 2]"},
		{4, 3, "0>3 1>0 2>2", "[[0] [1] [2] []]", "[true false false true]", "[0 2]", "[0 3 1 2]"},
		// An edge from a point to itself.
		{2, 1, "0>0", "[[0] []]", "[true false]", "[0]", "[0 1]"},
		{2, 1, "0>0 0>1", "[[0 1] []]", "[true true]", "[0]", "[0 1]"},
		{3, 2, "0>1 1>1 1>2", "[[0] [1 2] []]", "[true true true]", "[1]", "[0 1 2]"},
		{2, 1, "0>0 0>0", "[[0 1] []]", "[true false]", "[0]", "[0 1]"},
		// Both edges to one point.
		{2, 1, "0>1 0>1", "[[0 1] []]", "[true true]", "[]", "[0 1]"},
		// Two ways that meet: the edge that stands first is gone along first, so what it leads to is done first, and stands last.
		{4, 3, "0>1 0>2 1>3 2>3", "[[0 1] [2] [3] []]", "[true true true true]", "[]", "[0 2 1 3]"},
		{4, 3, "0>2 0>1 1>3 2>3", "[[0 1] [2] [3] []]", "[true true true true]", "[]", "[0 1 2 3]"},
		{4, 3, "2>3 1>3 0>1 0>2", "[[2 3] [1] [0] []]", "[true true true true]", "[]", "[0 2 1 3]"},
		{4, 3, "0>3 0>1 1>2 2>3", "[[0 1] [2] [3] []]", "[true true true true]", "[]", "[0 1 2 3]"},
		{4, 3, "0>1 0>3 1>2 2>3", "[[0 1] [2] [3] []]", "[true true true true]", "[]", "[0 1 2 3]"},
		{4, 3, "0>1 1>2 0>2 2>3", "[[0 2] [1] [3] []]", "[true true true true]", "[]", "[0 1 2 3]"},
		// Loops, one behind another and one within another.
		{3, 1, "0>2 0>1 2>0", "[[0 1] [] [2]]", "[true true true]", "[0]", "[0 1 2]"},
		{5, 4, "0>1 0>2 1>0 2>3 2>4 3>2", "[[0 1] [2] [3 4] [5] []]", "[true true true true true]", "[0 2]", "[0 2 4 3 1]"},
		{4, 1, "0>2 0>1 2>3 2>0 3>2", "[[0 1] [] [2 3] [4]]", "[true true true true]", "[0 2]", "[0 1 2 3]"},
		{5, 4, "0>1 1>2 1>4 2>3 2>1 3>3 3>2", "[[0] [1 2] [3 4] [5 6] []]", "[true true true true true]", "[1 2 3]", "[0 1 4 2 3]"},
		// A loop with two ways into it, and one with two ways round it.
		{4, 3, "0>1 0>2 1>2 2>1", "[[0 1] [2] [3] []]", "[true true true false]", "[1]", "[0 1 2 3]"},
		{4, 3, "0>2 0>1 1>2 2>1", "[[0 1] [2] [3] []]", "[true true true false]", "[2]", "[0 2 1 3]"},
		{4, 3, "0>1 0>2 1>0 2>0", "[[0 1] [2] [3] []]", "[true true true false]", "[0]", "[0 2 1 3]"},
		// Edges to points whose visits have begun, and to those that are done.
		{5, 4, "0>1 1>2 1>3 2>0 2>3 3>1 3>4", "[[0] [1 2] [3 4] [5 6] []]", "[true true true true true]", "[0 1]", "[0 1 2 3 4]"},
		{5, 4, "0>3 0>1 1>3 1>2 2>4 3>2 3>4", "[[0 1] [2 3] [4] [5 6] []]", "[true true true true true]", "[]", "[0 1 3 2 4]"},
	} {
		c := roads(r.points, r.exit, r.pairs)
		a := takes(t, r.pairs, c)
		got := fmt.Sprint(a.out, a.reached, a.heads, a.order)
		if want := r.out + " " + r.reached + " " + r.heads + " " + r.order; got != want {
			t.Errorf("P9.3: %d points, %s: %s; want %s", r.points, r.pairs, got, want)
		}
	}
}

// TestOut: the edges of each point, with many others among them, and of points that there aren't.
func TestOut(t *testing.T) {
	c := circle()
	r := rand.New(rand.NewPCG(1, 9))
	for point := range c.Exit { // each pair keeps its places, so that its edges stay in order
		other := r.IntN(c.Exit)
		for i := range 2 {
			a, b := 2*point+i, 2*other+i
			c.Edges[a], c.Edges[b] = c.Edges[b], c.Edges[a]
		}
	}
	at := make([][]int, c.Points)
	for i, e := range c.Edges {
		at[e.From] = append(at[e.From], i)
	}
	for point := 0; point < c.Points; point += 7 {
		if l, e := Out(c, point); e != api.OK || !slices.Equal(l, at[point]) {
			t.Errorf("P9.3: %d: %v, %d; want %v", point, l, e, at[point])
		}
	}
	for _, point := range []int{-1 << 63, -1 << 32, -4096, -2, -1, 4096, 4097, 1 << 32, 1<<63 - 1} {
		if l, e := Out(c, point); e != api.ErrCfgForm || len(l) != 0 {
			t.Errorf("P9.3: %d: %v, %d", point, l, e)
		}
	}
	if l, e := Out(c, 4095); e != api.OK || len(l) != 0 {
		t.Errorf("P9.3: Exit: %v, %d", l, e)
	}
}

// wanted: what is to be told of a graph, by the chapter's words.
func wanted(c api.Cfg) answers {
	a := answers{out: make([][]int, c.Points), reached: make([]bool, c.Points)}
	for i, e := range c.Edges {
		a.out[e.From] = append(a.out[e.From], i)
	}
	a.reached[0] = true
	for range c.Points {
		for _, e := range c.Edges {
			a.reached[e.To] = a.reached[e.To] || a.reached[e.From]
		}
	}
	a.order = ordered(c, a.out)
	for point := range c.Points {
		if slices.ContainsFunc(c.Edges, func(e api.Edge) bool {
			return e.To == point && !slices.Contains(a.order[:slices.Index(a.order, point)], e.From)
		}) {
			a.heads = append(a.heads, point)
		}
	}
	return a
}

// ordered: Order by a list of the points whose visits aren't done, with what is left to do at each.
func ordered(c api.Cfg, out [][]int) []int {
	left := slices.Clone(out)
	begun := map[int]bool{0: true}
	open := []int{0}
	var order []int
	for len(open) > 0 {
		point := open[len(open)-1]
		if len(left[point]) == 0 {
			open = open[:len(open)-1]
			order = slices.Insert(order, 0, point)
			continue
		}
		to := c.Edges[left[point][0]].To
		left[point] = left[point][1:]
		if !begun[to] {
			begun[to] = true
			open = append(open, to)
		}
	}
	for point := range c.Points {
		if !begun[point] {
			order = append(order, point)
		}
	}
	return order
}

// likeRoads holds what is told of a graph against that, and P9.4's second sentence.
func likeRoads(t *testing.T, c api.Cfg) answers {
	t.Helper()
	a, w := takes(t, "roads", c), wanted(c)
	if got, want := fmt.Sprint(a.out, a.reached, a.heads, a.order), fmt.Sprint(w.out[:len(a.out)], w.reached, w.heads, w.order); got != want {
		t.Fatalf("P9.3: %s: %s; want %s", drawn(c), got, want)
	}
	if comesBack(c, a.heads) {
		t.Fatalf("P9.4: %s: heads %v", drawn(c), a.heads)
	}
	return a
}

// comesBack: whether there is a way of edges that comes back to where it began without going through one of those points.
func comesBack(c api.Cfg, without []int) bool {
	gone := make([]bool, c.Points)
	for _, point := range without {
		gone[point] = true
	}
	for range c.Points { // a point from which no edge goes to one that is left is on no such way
		last := make([]bool, c.Points)
		for point := range last {
			last[point] = true
		}
		for _, e := range c.Edges {
			last[e.From] = last[e.From] && gone[e.To]
		}
		for point := range last {
			gone[point] = gone[point] || last[point]
		}
	}
	return slices.Contains(gone, false)
}

// TestAllSmall: all graphs of up to four points.
func TestAllSmall(t *testing.T) {
	loops := 0
	for points := 1; points <= 4; points++ {
		ways := [][]int{{}} // from each point
		for to := range points {
			ways = append(ways, []int{to})
			for other := range points {
				ways = append(ways, []int{to, other})
			}
		}
		all := 1
		for range points - 1 {
			all *= len(ways)
		}
		for n := range all * points {
			exit, rest := n/all, n%all
			var pairs string
			for point := range points {
				if point == exit {
					continue
				}
				for _, to := range ways[rest%len(ways)] {
					if n%2 == 0 {
						pairs += fmt.Sprint(" ", point, ">", to)
					} else if at := len(pairs) / 4; at == 0 || n%3 == 0 {
						pairs += fmt.Sprint(" ", point, ">", to)
					} else { // those of the points in another order
						pairs = pairs[:4*(at-1)] + fmt.Sprint(" ", point, ">", to) + pairs[4*(at-1):]
					}
				}
				rest /= len(ways)
			}
			if a := likeRoads(t, roads(points, exit, pairs)); len(a.heads) > 0 {
				loops++
			}
		}
	}
	if loops < 1000 {
		t.Errorf("only %d", loops)
	}
}

// drawnRoads: a graph of all sorts, with edges in any order.
func drawnRoads(r *rand.Rand) api.Cfg {
	points := 1 + r.IntN(12)
	if r.IntN(20) == 0 {
		points = 40
	}
	exit := r.IntN(points)
	var pairs []string
	for point := range points {
		if point == exit {
			continue
		}
		for range []int{0, 1, 1, 1, 2, 2, 2}[r.IntN(7)] {
			to := r.IntN(points)
			if r.IntN(3) > 0 { // near by, so that many are reached
				to = max(0, min(points-1, point+r.IntN(4)-1))
			}
			pairs = append(pairs, fmt.Sprint(point, ">", to))
		}
	}
	r.Shuffle(len(pairs), func(i, j int) { pairs[i], pairs[j] = pairs[j], pairs[i] })
	s := ""
	for _, pair := range pairs {
		s += " " + pair
	}
	return roads(points, exit, s)
}

// TestDrawn: greater graphs.
func TestDrawn(t *testing.T) {
	r := rand.New(rand.NewPCG(2, 9))
	reached, heads := 0, 0
	for range 6000 {
		a := likeRoads(t, drawnRoads(r))
		heads += len(a.heads)
		for _, b := range a.reached {
			if b {
				reached++
			}
		}
	}
	if reached < 10000 || heads < 3000 {
		t.Errorf("only %d are reached, and %d heads", reached, heads)
	}
}

// TestGrownRoads: graphs that Lower tells.
func TestGrownRoads(t *testing.T) {
	g := newGrower(3)
	heads := 0
	for range 1500 {
		heads += len(likeRoads(t, lowered(t, read(t, g.prog()))).heads)
	}
	if heads < 1000 {
		t.Errorf("only %d heads", heads)
	}
}

// TestFarRoads: a way through as many points as there may be, there and back.
func TestFarRoads(t *testing.T) {
	c := api.Cfg{Points: api.MaxPoints, Exit: api.MaxPoints - 1}
	for point := range c.Exit {
		c.Edges = append(c.Edges, edgeOf(point, (point+c.Exit-1)%c.Exit, api.KNop)) // 0 to the last but Exit, and down from there
	}
	a := takes(t, "a ring", c)
	if !slices.Equal(a.heads, []int{0}) || a.reached[c.Exit] || !a.reached[c.Exit-1] || a.order[0] != 0 || a.order[1] != c.Exit-1 || a.order[c.Exit-1] != 1 || a.order[c.Exit] != c.Exit {
		t.Errorf("P9.3: heads %v, %v", a.heads, a.order[:9])
	}
	c.Edges = slices.Delete(c.Edges, 0, 1)
	if a = takes(t, "a row", c); len(a.heads) != api.MaxPoints-2 || a.reached[1] || a.order[1] != 1 {
		t.Errorf("P9.3: %d heads, %v", len(a.heads), a.order[:9])
	}
}
