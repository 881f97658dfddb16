package run

import (
	"fmt"
	"math"
	"strconv"
	"strings"
	"testing"

	"gnomon/api"
	"gnomon/parse"
)

const (
	least = math.MinInt64
	most  = math.MaxInt64
)

// read: the program of a source. MAX and MIN stand in it for the greatest number and for the reckoning of the least one, which is one step.
func read(t *testing.T, source string) api.Prog {
	t.Helper()
	source = strings.NewReplacer("MAX", "9223372036854775807", "MIN", "(-9223372036854775807 - 1)").Replace(source)
	p, at, e := parse.Parse(source)
	if e != api.OK {
		t.Fatalf("%.300q is no source: %v, %d", source, at, e)
	}
	return p
}

// standing: R of a run that goes on, H of one that is halted, else the letter of what went wrong: O, Z, B, A.
func standing(o api.Outcome) string {
	type pair struct{ status, wrong int }
	switch (pair{o.Status, o.Wrong}) {
	case pair{api.Running, api.WrongNone}:
		return "R"
	case pair{api.Halted, api.WrongNone}:
		return "H"
	case pair{api.Wrong, api.WrongOver}:
		return "O"
	case pair{api.Wrong, api.WrongZero}:
		return "Z"
	case pair{api.Wrong, api.WrongBounds}:
		return "B"
	case pair{api.Wrong, api.WrongAssert}:
		return "A"
	}
	return fmt.Sprintf("status %d, wrong %d, ", o.Status, o.Wrong)
}

// happened: i and the number of an input, + of an assert that held, - of one that didn't.
func happened(e api.Event) string {
	switch e {
	case api.Event{Input: true, Num: e.Num}:
		return "i" + strconv.FormatInt(e.Num, 10)
	case api.Event{Held: true}:
		return "+"
	case api.Event{}:
		return "-"
	}
	return fmt.Sprintf("%+v", e)
}

// told: an outcome as text: how it stands and its steps, its events, and behind a | the variables and each array.
func told(o api.Outcome) string {
	l := []string{standing(o) + strconv.Itoa(o.Steps)}
	for _, e := range o.Events {
		l = append(l, happened(e))
	}
	l = append(l, "|")
	for _, v := range o.Vars {
		l = append(l, strconv.FormatInt(v, 10))
	}
	for _, a := range o.Arrays {
		l = append(l, fmt.Sprint(a))
	}
	return strings.Join(l, " ")
}

// ran: the outcome of a program that Run takes.
func ran(t *testing.T, p api.Prog, script []int64, k int) api.Outcome {
	t.Helper()
	o, e := Run(p, script, k)
	if e != api.OK {
		t.Fatalf("P8.2: %d", e)
	}
	return o
}

// row: a source, a script, and what is told of its run.
type row struct {
	source string
	script []int64
	want   string
}

// tells holds the outcome of a run to its end, or of MaxSteps, against its text.
func tells(t *testing.T, rows []row) {
	t.Helper()
	for _, r := range rows {
		if got := told(ran(t, read(t, r.source), r.script, api.MaxSteps)); got != r.want {
			t.Errorf("P8.1: %.300q on %v: %s; want %s", r.source, r.script, got, r.want)
		}
	}
}

// cut holds the outcomes of 0 steps, of 1, of 2 .. against texts with / between them, of which the last one is that of all that are more, too.
func cut(t *testing.T, rows []row) {
	t.Helper()
	for _, r := range rows {
		p, want := read(t, r.source), strings.Split(r.want, " / ")
		for _, k := range append(upTo(len(want)+2), 1000, api.MaxSteps) {
			w := want[min(k, len(want)-1)]
			if got := told(ran(t, p, r.script, k)); got != w {
				t.Errorf("P8.1, P8.2: %.300q on %v, %d steps: %s; want %s", r.source, r.script, k, got, w)
			}
		}
	}
}

// upTo: 0, 1 .. n.
func upTo(n int) []int {
	var l []int
	for i := range n + 1 {
		l = append(l, i)
	}
	return l
}

// refuses holds Run against an error, with a zero outcome.
func refuses(t *testing.T, what string, p api.Prog, script []int64, k int, want api.Errno) {
	t.Helper()
	o, e := Run(p, script, k)
	if e != want || o.Status != 0 || o.Wrong != 0 || o.Steps != 0 || len(o.Events)+len(o.Vars)+len(o.Arrays) != 0 {
		t.Errorf("P8.2: %.300q, %d inputs, %d steps: %+v, %d; want %d", what, len(script), k, o, e, want)
	}
}

func script(l ...int64) []int64 { return l }

func body(l ...api.Stmt) api.Prog { return api.Prog{Body: l} }

func number(n int64) api.Expr { return api.Expr{Kind: api.ENum, Num: n} }

func neg(e api.Expr) api.Expr { return api.Expr{Kind: api.ENeg, Args: []api.Expr{e}} }

func assign(name string, e api.Expr) api.Stmt {
	return api.Stmt{Kind: api.SAssign, Name: name, Exprs: []api.Expr{e}}
}

func skip() api.Stmt { return api.Stmt{Kind: api.SSkip} }

// numbered: n texts like form, with their numbers, from 0 on, where # stands.
func numbered(n int, form string) string {
	var b strings.Builder
	for i := range n {
		b.WriteString(strings.ReplaceAll(form, "#", strconv.Itoa(i)))
	}
	return b.String()
}
