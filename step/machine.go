package step

import (
	"slices"

	"gnomon/api"
)

// machine: a run as it stands.
type machine struct {
	values
	graph api.Cfg
	from  [][]int // of each point the numbers of the edges from it
	deeds tellers
	point int
	out   api.Outcome // its Vars and Arrays aren't known as long as the run goes on
}

func newMachine(c api.Cfg, script []int64) *machine {
	m := &machine{graph: c, from: make([][]int, c.Points), deeds: deeds()}
	for i, e := range c.Edges {
		m.from[e.From] = append(m.from[e.From], i)
	}
	m.vars = make([]int64, len(c.Vars)+c.Temps)
	for _, d := range c.Arrays {
		m.arrays = append(m.arrays, make([]int64, d.Size))
	}
	m.inputs = script
	return m
}

// run takes edges until the run has ended, or as many as may be are taken.
func (m *machine) run(most int) {
	m.out.Status = api.Running
	for m.out.Status == api.Running {
		i := m.taken(m.graph.Edges, m.from[m.point])
		switch {
		case i == none || m.starved(m.graph.Edges[i]):
			m.out.Status = api.Halted // also where no step may be done any more
		case m.out.Steps == most:
			return
		default:
			m.step(m.graph.Edges[i])
		}
	}
}

// starved: whether an edge is to take an input, and there is none left.
func (m *machine) starved(e api.Edge) bool { return e.Kind == api.KInput && len(m.inputs) == 0 }

// step does what an edge does, and goes where it goes.
func (m *machine) step(e api.Edge) {
	d := m.deeds[e.Kind](m.values, e)
	m.out.Steps++
	if d.tells {
		m.out.Events = append(m.out.Events, d.event)
	}
	if d.wrong != api.WrongNone {
		m.out.Status, m.out.Wrong = api.Wrong, d.wrong
		return
	}
	if d.event.Input {
		m.inputs = m.inputs[1:]
	}
	if d.place != nil {
		*d.place = d.number
	}
	m.point = e.To
}

// outcome: how the run stands. What the temporaries hold isn't told.
func (m *machine) outcome() api.Outcome {
	o := m.out
	o.Vars, o.Arrays = slices.Clone(m.vars[:len(m.graph.Vars)]), m.arrays
	return o
}
