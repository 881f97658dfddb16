package run

import "gnomon/api"

// machine: a run as it stands.
type machine struct {
	places map[string]int // of a variable in out.Vars, of an array in out.Arrays: no name is both
	script []int64        // the inputs that are left
	most   int            // steps
	out    api.Outcome    // its Status and Wrong aren't known as long as the run goes on
}

func newMachine(vars []string, arrays []api.Decl) *machine {
	m := &machine{places: map[string]int{}}
	for i, name := range vars {
		m.places[name] = i
	}
	m.out.Vars = make([]int64, len(vars))
	for i, d := range arrays {
		m.places[d.Name] = i
		m.out.Arrays = append(m.out.Arrays, make([]int64, d.Size))
	}
	return m
}

// ended: how a run has ended, or why it goes no further. It is what the package panics with, as a run may end deep within blocks and expressions.
type ended struct{ status, wrong int }

// run: the outcome of the statements of a program.
func (m *machine) run(body []api.Stmt) api.Outcome {
	how := m.endOf(body)
	m.out.Status, m.out.Wrong = how.status, how.wrong
	return m.out
}

// endOf runs the statements of a program, and tells how that ended.
func (m *machine) endOf(body []api.Stmt) (how ended) {
	defer func() {
		told := recover()
		if e, ok := told.(ended); ok {
			how = e
		} else if told != nil {
			panic(told)
		}
	}()
	m.block(body)
	return ended{status: api.Halted}
}

// halt ends the run where it stands.
func (m *machine) halt() { panic(ended{status: api.Halted}) }

// step counts the step that is to be done, or ends the run ahead of it, if as many as may be are done.
func (m *machine) step() {
	if m.out.Steps == m.most {
		panic(ended{status: api.Running})
	}
	m.out.Steps++
}

// fail ends the run, as the step that was counted goes wrong.
func (m *machine) fail(wrong int) { panic(ended{api.Wrong, wrong}) }

// note: an event of the step that was counted.
func (m *machine) note(e api.Event) { m.out.Events = append(m.out.Events, e) }

// variable: where the value of a variable lies.
func (m *machine) variable(name string) *int64 { return &m.out.Vars[m.places[name]] }

// item does the step by which a place of an array is reached, and tells where its value lies.
func (m *machine) item(name string, place int64) *int64 {
	m.step()
	array := m.out.Arrays[m.places[name]]
	if place < 0 || place >= int64(len(array)) {
		m.fail(api.WrongBounds)
	}
	return &array[place]
}

// input takes the next input of the script.
func (m *machine) input() int64 {
	// Ahead of counting: where there is none left, the run is halted also when no step may be done any more.
	if len(m.script) == 0 {
		m.halt()
	}
	m.step()
	n := m.script[0]
	m.script = m.script[1:]
	m.note(api.Event{Input: true, Num: n})
	return n
}
