package close

import (
	"math/big"
	"slices"
	"testing"

	"gnomon/api"
)

// model: an octagon's cells, and of which steps of P13.1 a sum saturated.
type model struct {
	m     [][]int64
	steps [7]bool
}

// plus: the sum by whole numbers of any size, taken in a step.
func (d *model) plus(step int, a, b int64) int64 {
	if a == inf || b == inf {
		return inf
	}
	s := new(big.Int).Add(big.NewInt(a), big.NewInt(b))
	switch {
	case s.Cmp(big.NewInt(far)) > 0:
		d.steps[step] = true
		return inf
	case s.Cmp(big.NewInt(-far)) < 0:
		d.steps[step] = true
		return -far
	}
	return s.Int64()
}

// halved: a / 2, rounded down. (big.Int's Div does so by a divisor above 0.)
func halved(a int64) int64 {
	if a == inf {
		return inf
	}
	return new(big.Int).Div(big.NewInt(a), big.NewInt(2)).Int64()
}

func evened(a int64) int64 {
	if a == inf {
		return inf
	}
	return 2 * halved(a)
}

// modelled: what Close is to answer of an o that may be, and of which steps a sum saturated.
func modelled(o api.Oct) (api.Oct, [7]bool) {
	if o.Empty {
		return none(o.N), [7]bool{}
	}
	n := 2 * o.N
	d := &model{}
	for row := range slices.Chunk(o.M, max(n, 1)) {
		d.m = append(d.m, slices.Clone(row))
	}
	m := d.m
	for k := 0; k < n; k++ {
		for i := 0; i < n; i++ {
			for j := 0; j < n; j++ {
				m[i][j] = min(m[i][j], d.plus(1, m[i][k], m[k][j]))
			}
		}
	}
	for i := 0; i < n; i++ {
		for j := 0; j < n; j++ {
			c := min(m[i][j], m[over(j)][over(i)])
			m[i][j], m[over(j)][over(i)] = c, c
		}
	}
	below := false
	for i := 0; i < n; i++ {
		below = below || m[i][i] < 0
	}
	if below {
		return none(o.N), d.steps
	}
	for i := 0; i < n; i++ {
		m[i][over(i)] = evened(m[i][over(i)])
	}
	for i := 0; i < n; i++ {
		s := d.plus(5, m[i][over(i)], m[over(i)][i])
		below = below || s < 0
	}
	if below {
		return none(o.N), d.steps
	}
	for i := 0; i < n; i++ {
		for j := 0; j < n; j++ {
			if i != j {
				m[i][j] = min(m[i][j], halved(d.plus(6, m[i][over(i)], m[over(j)][j])))
			}
		}
	}
	return api.Oct{N: o.N, M: slices.Concat(m...)}, d.steps
}

// holdModel holds Close and Closed of o against the model, and answers what the model tells.
func holdModel(t *testing.T, o api.Oct) (api.Oct, [7]bool) {
	t.Helper()
	want, steps := modelled(o)
	got, saturated, err := Close(o)
	if told(got) != told(want) || saturated != slices.Contains(steps[:], true) || err != api.OK {
		t.Fatalf("P13.1: of %s: %s, %v, %d; want %s, by steps %v", told(o), told(got), saturated, err, told(want), steps)
	}
	closed, err := Closed(o)
	if closed != (told(want) == told(o)) || err != api.OK {
		t.Fatalf("P13.2: whether %s is closed: %v, %d; its Close is %s", told(o), closed, err, told(want))
	}
	return want, steps
}

// TestGrownAgainstTheModel: octagons of all sorts, and each way of coming to an end.
func TestGrownAgainstTheModelP131(t *testing.T) {
	g := newGrower(1)
	type end struct {
		empty          bool
		one, five, six bool
	}
	seen := map[end]int{}
	for range 60000 {
		o := g.any(g.IntN(5))
		want, steps := holdModel(t, o)
		seen[end{want.Empty, steps[1], steps[5], steps[6]}]++
	}
	for _, e := range []end{{}, {empty: true}, {one: true}, {empty: true, one: true}, {one: true, six: true}, {six: true}, {one: true, five: true, six: true}} {
		if seen[e] < 300 {
			t.Errorf("few of one sort: %v", seen)
		}
	}
}
