package run

import "gnomon/api"

// block runs statements, one after another.
func (m *machine) block(l []api.Stmt) {
	for _, s := range l {
		m.stmt(s)
	}
}

func (m *machine) stmt(s api.Stmt) {
	switch s.Kind {
	case api.SAssign:
		m.assign(s.Name, s.Exprs[0])
	case api.SStore:
		place, n := m.value(s.Exprs[0]), m.value(s.Exprs[1])
		*m.item(s.Name, place) = n
	case api.SIf:
		if m.holds(s.Conds[0]) {
			m.block(s.Then)
		} else {
			m.block(s.Else)
		}
	case api.SWhile:
		for m.holds(s.Conds[0]) {
			m.block(s.Then)
		}
	case api.SAssert:
		m.assert(s.Conds[0])
	case api.SAssume:
		if !m.holds(s.Conds[0]) {
			m.halt()
		}
	case api.SSkip:
		m.step()
	}
}

// assign gives a variable the value of e. It is a step only where e has none: else e's last step gives the variable.
func (m *machine) assign(name string, e api.Expr) {
	n := m.value(e)
	if stepless(e) {
		m.step()
	}
	*m.variable(name) = n
}

func (m *machine) assert(c api.Cond) {
	held := m.holds(c)
	m.step()
	m.note(api.Event{Held: held})
	if !held {
		m.fail(api.WrongAssert)
	}
}
