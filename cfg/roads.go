package cfg

import "gnomon/api"

// edgesFrom: of each point the numbers of the edges from it.
func edgesFrom(c api.Cfg) [][]int {
	list := make([][]int, c.Points)
	for i, e := range c.Edges {
		list[e.From] = append(list[e.From], i)
	}
	return list
}

// visits: of each point whether its visit was begun, when 0 was visited; and those that were done then, as they were.
func visits(c api.Cfg) (begun []bool, done []int) {
	begun = make([]bool, c.Points)
	from := edgesFrom(c)
	var visit func(point int)
	visit = func(point int) {
		begun[point] = true
		for _, i := range from[point] {
			if to := c.Edges[i].To; !begun[to] {
				visit(to)
			}
		}
		done = append(done, point)
	}
	visit(0)
	return begun, done
}

// targets: the points to which an edge goes that doesn't go forward in an order, rising.
func targets(edges []api.Edge, order []int) []int {
	at := make([]int, len(order))
	for i, point := range order {
		at[point] = i
	}
	back := make([]bool, len(order))
	for _, e := range edges {
		back[e.To] = back[e.To] || at[e.From] >= at[e.To]
	}
	var list []int
	for point := range len(back) {
		if back[point] {
			list = append(list, point)
		}
	}
	return list
}
