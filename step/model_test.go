package step

import (
	"fmt"
	"math/big"
	"slices"
	"strings"

	"gnomon/api"
)

// model: a run of a graph by whole numbers of any size. Its arrays are maps by the texts of their places.
type model struct {
	c      api.Cfg
	point  int
	vars   []*big.Int
	arrays []map[string]*big.Int
	inputs []int64
	events string
	steps  int
}

func newModel(c api.Cfg, inputs []int64) *model {
	m := &model{c: c, inputs: inputs, vars: slices.Repeat([]*big.Int{new(big.Int)}, len(c.Vars)+c.Temps)}
	for _, d := range c.Arrays {
		a := map[string]*big.Int{}
		for i := range d.Size {
			a[fmt.Sprint(i)] = new(big.Int)
		}
		m.arrays = append(m.arrays, a)
	}
	return m
}

func (m *model) value(o api.Operand) *big.Int {
	if o.Var == -1 {
		return big.NewInt(o.Num)
	}
	return m.vars[o.Var]
}

// holds: whether an edge may be taken.
func (m *model) holds(e api.Edge) bool {
	if e.Kind != api.KAssume {
		return true
	}
	sign := m.value(e.A).Cmp(m.value(e.B))
	return strings.ContainsRune([]string{"", "-", "-0", "0", "-+", "+", "0+"}[e.Op], []rune("-0+")[sign+1])
}

// next: the numbers of the edges that may be taken. There is to be one at most.
func (m *model) next() []int {
	var l []int
	for i, e := range m.c.Edges {
		if e.From == m.point && m.holds(e) {
			l = append(l, i)
		}
	}
	return l
}

// reckoned: what an edge gives its Dst, by numbers of any size; nil, if there is no such number.
func (m *model) reckoned(e api.Edge) *big.Int {
	a, b, n := m.value(e.A), m.value(e.B), new(big.Int)
	switch e.Kind {
	case api.KCopy:
		return a
	case api.KNeg:
		return n.Neg(a)
	case api.KAdd:
		return n.Add(a, b)
	case api.KSub:
		return n.Sub(a, b)
	case api.KMul:
		return n.Mul(a, b)
	}
	if b.Sign() == 0 {
		return nil
	}
	rest := new(big.Int)
	n.QuoRem(a, b, rest)
	if e.Kind == api.KRem && n.IsInt64() {
		return rest
	}
	return n
}

// step takes an edge, and tells what goes wrong.
func (m *model) step(e api.Edge) int {
	m.steps++
	switch e.Kind {
	case api.KInput:
		m.vars[e.Dst] = big.NewInt(m.inputs[0])
		m.events += fmt.Sprint(" i", m.inputs[0])
		m.inputs = m.inputs[1:]
	case api.KLoad, api.KStore:
		item, ok := m.arrays[e.Arr][m.value(e.A).String()]
		if !ok {
			return api.WrongBounds
		}
		if e.Kind == api.KLoad {
			m.vars[e.Dst] = item
		} else {
			m.arrays[e.Arr][m.value(e.A).String()] = m.value(e.B)
		}
	case api.KPass:
		m.events += " +"
	case api.KFail:
		m.events += " -"
		return api.WrongAssert
	case api.KNop, api.KAssume:
	default:
		n := m.reckoned(e)
		if n == nil {
			return api.WrongZero
		} else if !n.IsInt64() {
			return api.WrongOver
		}
		m.vars[e.Dst] = n
	}
	m.point = e.To
	return api.WrongNone
}

// told: how the run stands, as text.
func (m *model) told(how string) string {
	s := fmt.Sprint(how, m.steps, "@", m.point, m.events, " |")
	for i := range m.c.Vars {
		s += " " + m.vars[i].String()
	}
	for _, l := range m.lists() {
		s += fmt.Sprint(" ", l)
	}
	return s
}

// lists: what the arrays hold.
func (m *model) lists() [][]int64 {
	var l [][]int64
	for i, d := range m.c.Arrays {
		var a []int64
		for place := range d.Size {
			a = append(a, m.arrays[i][fmt.Sprint(place)].Int64())
		}
		l = append(l, a)
	}
	return l
}

// numbers: what the variables hold, the temporaries too.
func (m *model) numbers() []int64 {
	var l []int64
	for _, n := range m.vars {
		l = append(l, n.Int64())
	}
	return l
}

// outcomes: those of 0 steps, of 1, of 2 .. as text, up to the one with which the run ends, or that of so many. Ahead of each step look is asked, with the edge and what goes wrong by it (-1: there is none).
func (m *model) outcomes(most int, look func(vars []int64, arrays [][]int64, point, edge, wrong int)) []string {
	var l []string
	for {
		vars, arrays, point, next := m.numbers(), m.lists(), m.point, m.next()
		if len(next) == 0 {
			look(vars, arrays, point, -1, 0)
			return append(l, m.told("H"))
		}
		e := m.c.Edges[next[0]]
		if len(next) > 1 {
			return append(l, "two edges")
		} else if e.Kind == api.KInput && len(m.inputs) == 0 {
			look(vars, arrays, point, next[0], 0)
			return append(l, m.told("H"))
		}
		if l = append(l, m.told("R")); len(l) > most {
			return l
		}
		wrong := m.step(e)
		look(vars, arrays, point, next[0], wrong)
		if wrong != api.WrongNone {
			return append(l, m.told([]string{"", "O", "Z", "B", "A"}[wrong]))
		}
	}
}
