package run

import (
	"math/big"
	"slices"

	"gnomon/api"
)

// instr: one of the model's instructions. Where step is true it is a step of the run.
type instr struct {
	do   string
	kind int // of an operation, or op of a comparison
	num  *big.Int
	name string
	to   int // where a jump goes
	step bool
}

// code: a program as one list of instructions for a stack of numbers, put together from its tree. That list is run by one loop, so nothing of it goes into one another.
type code struct{ list []instr }

func (c *code) add(i instr) int {
	c.list = append(c.list, i)
	return len(c.list) - 1
}

// land lets the jump at i go to what comes next.
func (c *code) land(i int) { c.list[i].to = len(c.list) }

func (c *code) expr(e api.Expr) {
	switch {
	case e.Kind == api.ENum:
		c.add(instr{do: "push", num: big.NewInt(e.Num)})
	case e.Kind == api.ENeg && e.Args[0].Kind == api.ENum:
		c.add(instr{do: "push", num: new(big.Int).Neg(big.NewInt(e.Args[0].Num))})
	case e.Kind == api.EVar:
		c.add(instr{do: "load", name: e.Name})
	case e.Kind == api.EInput:
		c.add(instr{do: "input", step: true})
	case e.Kind == api.EItem:
		c.expr(e.Args[0])
		c.add(instr{do: "item", name: e.Name, step: true})
	default:
		for _, a := range e.Args {
			c.expr(a)
		}
		c.add(instr{do: "reckon", kind: e.Kind, step: true})
	}
}

// cond leaves 1 or 0 on the stack.
func (c *code) cond(d api.Cond) {
	switch d.Kind {
	case api.CTrue:
		c.add(instr{do: "push", num: big.NewInt(1), step: true})
	case api.CFalse:
		c.add(instr{do: "push", num: big.NewInt(0), step: true})
	case api.CCmp:
		c.expr(d.Exprs[0])
		c.expr(d.Exprs[1])
		c.add(instr{do: "compare", kind: d.Op, step: true})
	case api.CNot:
		c.cond(d.Parts[0])
		c.add(instr{do: "not"})
	default:
		c.cond(d.Parts[0])
		c.add(instr{do: "twice"})
		if d.Kind == api.COr {
			c.add(instr{do: "not"})
		}
		over := c.add(instr{do: "unless"})
		c.add(instr{do: "drop"})
		c.cond(d.Parts[1])
		c.land(over)
	}
}

func (c *code) stmts(l []api.Stmt) {
	for _, s := range l {
		c.stmt(s)
	}
}

func (c *code) stmt(s api.Stmt) {
	switch s.Kind {
	case api.SAssign:
		from := len(c.list)
		c.expr(s.Exprs[0])
		own := !slices.ContainsFunc(c.list[from:], func(i instr) bool { return i.step })
		c.add(instr{do: "set", name: s.Name, step: own})
	case api.SStore:
		c.expr(s.Exprs[0])
		c.expr(s.Exprs[1])
		c.add(instr{do: "store", name: s.Name, step: true})
	case api.SIf:
		c.cond(s.Conds[0])
		other := c.add(instr{do: "unless"})
		c.stmts(s.Then)
		end := c.add(instr{do: "jump"})
		c.land(other)
		c.stmts(s.Else)
		c.land(end)
	case api.SWhile:
		again := len(c.list)
		c.cond(s.Conds[0])
		out := c.add(instr{do: "unless"})
		c.stmts(s.Then)
		c.add(instr{do: "jump", to: again})
		c.land(out)
	case api.SAssert:
		c.cond(s.Conds[0])
		c.add(instr{do: "assert", step: true})
	case api.SAssume:
		c.cond(s.Conds[0])
		c.add(instr{do: "halt unless"})
	case api.SSkip:
		c.add(instr{do: "skip", step: true})
	}
}

// model: a run of such a list, by whole numbers of any size.
type model struct {
	at     int
	stack  []*big.Int
	script []int64
	vars   map[string]*big.Int
	arrays map[string][]*big.Int
	steps  int
	events []api.Event
}

func (m *model) push(n *big.Int) { m.stack = append(m.stack, n) }

func (m *model) truth(b bool) {
	m.push(map[bool]*big.Int{true: big.NewInt(1), false: big.NewInt(0)}[b])
}

func (m *model) pop() *big.Int {
	n := m.stack[len(m.stack)-1]
	m.stack = m.stack[:len(m.stack)-1]
	return n
}

// place: the place of an array that a number tells, and whether there is one.
func (m *model) place(name string, n *big.Int) (**big.Int, bool) {
	l := m.arrays[name]
	for i := range l {
		if big.NewInt(int64(i)).Cmp(n) == 0 {
			return &l[i], true
		}
	}
	return nil, false
}

// reckon: what an operation makes of what lies on the stack, and what goes wrong.
func (m *model) reckon(kind int) int {
	n, b := new(big.Int), m.pop()
	if kind == api.ENeg {
		n.Neg(b)
	} else {
		a := m.pop()
		if kind >= api.EDiv && b.Sign() == 0 {
			return api.WrongZero
		}
		switch kind {
		case api.EAdd:
			n.Add(a, b)
		case api.ESub:
			n.Sub(a, b)
		case api.EMul:
			n.Mul(a, b)
		default:
			rest := new(big.Int)
			n.QuoRem(a, b, rest)
			if kind == api.ERem && n.IsInt64() {
				n = rest
			}
		}
	}
	if !n.IsInt64() {
		return api.WrongOver
	}
	m.push(n)
	return api.WrongNone
}

func (m *model) compare(op int) {
	b, a := m.pop(), m.pop()
	m.truth(slices.Contains([][]int{api.OpLt: {-1}, api.OpLe: {-1, 0}, api.OpEq: {0}, api.OpNe: {-1, 1}, api.OpGt: {1}, api.OpGe: {0, 1}}[op], a.Cmp(b)))
}

// do: what goes wrong by an instruction, or -1, where the run is halted by it.
func (m *model) do(i instr) int {
	m.at++
	switch i.do {
	case "push":
		m.push(i.num)
	case "load":
		m.push(m.vars[i.name])
	case "set":
		m.vars[i.name] = m.pop()
	case "input":
		m.push(big.NewInt(m.script[0]))
		m.events = append(m.events, api.Event{Input: true, Num: m.script[0]})
		m.script = m.script[1:]
	case "item":
		v, ok := m.place(i.name, m.pop())
		if !ok {
			return api.WrongBounds
		}
		m.push(*v)
	case "store":
		n := m.pop()
		v, ok := m.place(i.name, m.pop())
		if !ok {
			return api.WrongBounds
		}
		*v = n
	case "reckon":
		return m.reckon(i.kind)
	case "compare":
		m.compare(i.kind)
	default:
		return m.turn(i)
	}
	return api.WrongNone
}

// turn: likewise, of those that conditions and statements have.
func (m *model) turn(i instr) int {
	switch i.do {
	case "not":
		m.truth(m.pop().Sign() == 0)
	case "twice":
		m.push(m.stack[len(m.stack)-1])
	case "drop":
		m.pop()
	case "jump":
		m.at = i.to
	case "unless":
		if m.pop().Sign() == 0 {
			m.at = i.to
		}
	case "halt unless":
		if m.pop().Sign() == 0 {
			return -1
		}
	case "assert":
		held := m.pop().Sign() != 0
		m.events = append(m.events, api.Event{Held: held})
		if !held {
			return api.WrongAssert
		}
	}
	return api.WrongNone
}

// outcome: as the run stands.
func (m *model) outcome(p api.Prog, status, wrong int) api.Outcome {
	o := api.Outcome{Status: status, Wrong: wrong, Steps: m.steps, Events: m.events}
	for _, d := range p.Decls {
		if d.Size == 0 {
			o.Vars = append(o.Vars, m.vars[d.Name].Int64())
			continue
		}
		var l []int64
		for _, n := range m.arrays[d.Name] {
			l = append(l, n.Int64())
		}
		o.Arrays = append(o.Arrays, l)
	}
	return o
}

func newModel(p api.Prog, script []int64) *model {
	m := &model{script: script, vars: map[string]*big.Int{}, arrays: map[string][]*big.Int{}}
	for _, d := range p.Decls {
		m.vars[d.Name] = new(big.Int)
		m.arrays[d.Name] = slices.Repeat([]*big.Int{new(big.Int)}, d.Size)
	}
	return m
}

// outcomes: those of 0 steps, of 1, of 2 .. as text, up to the one with which the run ends, or that of most steps.
func outcomes(p api.Prog, script []int64, most int) []string {
	var c code
	c.stmts(p.Body)
	var l []string
	m := newModel(p, script)
	for m.at < len(c.list) {
		i := c.list[m.at]
		if i.do == "input" && len(m.script) == 0 {
			break
		}
		if i.step {
			l = append(l, told(m.outcome(p, api.Running, api.WrongNone)))
			if m.steps == most {
				return l
			}
			m.steps++
		}
		if wrong := m.do(i); wrong == -1 {
			break
		} else if wrong != api.WrongNone {
			return append(l, told(m.outcome(p, api.Wrong, wrong)))
		}
	}
	return append(l, told(m.outcome(p, api.Halted, api.WrongNone)))
}
