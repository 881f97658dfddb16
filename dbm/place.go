package dbm

import "iter"

// across: the side across from i.
func across(i int) int { return i ^ 1 }

// first: the one of the places (i, j) and (j', i'), which say the same, that isn't behind the other.
func first(i, j int) [2]int {
	if across(j) < i { // of one i they are one place
		return [2]int{across(j), across(i)}
	}
	return [2]int{i, j}
}

// within: whether n variables have a cell (i, j).
func within(n, i, j int) bool { return min(i, j) >= 0 && max(i, j) < 2*n }

// cells: how many cells n variables have.
func cells(n int) int { return 4 * n * n }

// index: where the cell (i, j) stands in the list of those of n variables.
func index(n, i, j int) int { return 2*n*i + j }

// places gives all i and j of n variables, by i, then by j.
func places(n int) iter.Seq2[int, int] {
	return func(yield func(i, j int) bool) {
		for i := range 2 * n {
			for j := range 2 * n {
				if !yield(i, j) {
					return
				}
			}
		}
	}
}
