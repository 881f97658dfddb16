package step

import (
	"gnomon/api"
	"gnomon/num"
)

// deed: what an edge does. It is told ahead of being done, as One asks for it and changes nothing.
type deed struct {
	wrong  int
	place  *int64 // where a number is put; nil: nowhere
	number int64
	tells  bool // whether there is an event
	event  api.Event
}

// tellers: of each kind of edges, how it is told what one of them does.
type tellers [api.KFail + 1]func(v values, e api.Edge) deed

func deeds() tellers {
	return tellers{
		api.KNop:    values.nothing,
		api.KCopy:   values.copy,
		api.KNeg:    values.neg,
		api.KAdd:    values.add,
		api.KSub:    values.sub,
		api.KMul:    values.mul,
		api.KDiv:    values.div,
		api.KRem:    values.rem,
		api.KInput:  values.input,
		api.KLoad:   values.load,
		api.KStore:  values.store,
		api.KAssume: values.nothing, // it was asked whether it holds when it was taken
		api.KPass:   values.pass,
		api.KFail:   values.fail,
	}
}

// give: a number for an edge's Dst, or what goes wrong.
func (v values) give(e api.Edge, number int64, wrong int) deed {
	if wrong != api.WrongNone {
		return deed{wrong: wrong}
	}
	return deed{place: &v.vars[e.Dst], number: number}
}

// reckon: likewise, of two operands.
func (v values) reckon(e api.Edge, by func(a, b int64) (int64, int)) deed {
	number, wrong := by(v.value(e.A), v.value(e.B))
	return v.give(e, number, wrong)
}

func (v values) nothing(api.Edge) deed { return deed{} }

func (v values) copy(e api.Edge) deed { return v.give(e, v.value(e.A), api.WrongNone) }

func (v values) neg(e api.Edge) deed {
	number, wrong := num.Neg(v.value(e.A))
	return v.give(e, number, wrong)
}

func (v values) add(e api.Edge) deed { return v.reckon(e, num.Add) }

func (v values) sub(e api.Edge) deed { return v.reckon(e, num.Sub) }

func (v values) mul(e api.Edge) deed { return v.reckon(e, num.Mul) }

func (v values) div(e api.Edge) deed { return v.reckon(e, num.Div) }

func (v values) rem(e api.Edge) deed { return v.reckon(e, num.Rem) }

func (v values) input(e api.Edge) deed {
	d := v.give(e, v.inputs[0], api.WrongNone)
	d.tells, d.event = true, api.Event{Input: true, Num: d.number}
	return d
}

func (v values) load(e api.Edge) deed {
	item := v.item(e)
	if item == nil {
		return deed{wrong: api.WrongBounds}
	}
	return v.give(e, *item, api.WrongNone)
}

func (v values) store(e api.Edge) deed {
	item := v.item(e)
	if item == nil {
		return deed{wrong: api.WrongBounds}
	}
	return deed{place: item, number: v.value(e.B)}
}

func (v values) pass(api.Edge) deed { return deed{tells: true, event: api.Event{Held: true}} }

func (v values) fail(api.Edge) deed { return deed{wrong: api.WrongAssert, tells: true} }
