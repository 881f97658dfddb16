package step

import (
	"fmt"
	"math"
	"regexp"
	"slices"
	"strconv"
	"strings"
	"testing"

	"gnomon/api"
	"gnomon/cfg"
	"gnomon/parse"
)

const (
	least = math.MinInt64
	most  = math.MaxInt64
)

// ends: MAX and MIN stand in graphs for the greatest and the least number.
var ends = strings.NewReplacer("MAX", "9223372036854775807", "MIN", "-9223372036854775808")

// forms: edges as text, by patterns in which D, R, A, B stand for the fields that they begin (R: Arr), and the kind of what is so.
var forms = []struct {
	form string
	kind int
}{
	{"nop", api.KNop}, {"pass", api.KPass}, {"fail", api.KFail}, {"D=input", api.KInput}, {"D=R[A]", api.KLoad}, {"R[A]=B", api.KStore}, {"D=A", api.KCopy}, {"D=-(A)", api.KNeg},
	{"D=A+B", api.KAdd}, {"D=A-B", api.KSub}, {"D=A*B", api.KMul}, {"D=A/B", api.KDiv}, {"D=A%B", api.KRem},
	{"A<B", api.KAssume}, {"A<=B", api.KAssume}, {"A==B", api.KAssume}, {"A!=B", api.KAssume}, {"A>B", api.KAssume}, {"A>=B", api.KAssume},
}

// ops: in the order of the last of these.
var ops = []string{"<", "<=", "==", "!=", ">", ">="}

// pattern: of a form.
func pattern(form string) *regexp.Regexp {
	s := regexp.QuoteMeta(form)
	for _, r := range [][2]string{{"D", `v(?<dst>\d+)`}, {"R", `a(?<arr>\d+)`}, {"A", `(?<a>v\d+|-?\d+)`}, {"B", `(?<b>v\d+|-?\d+)`}} {
		s = strings.Replace(s, r[0], r[1], 1)
	}
	return regexp.MustCompile("^" + s + "$")
}

// patterns: of all forms.
var patterns = func() []*regexp.Regexp {
	var l []*regexp.Regexp
	for _, f := range forms {
		l = append(l, pattern(f.form))
	}
	return l
}()

// edge: one of a text like "0>1 v0=v1+3".
func edge(t *testing.T, text string) api.Edge {
	t.Helper()
	none := api.Operand{Var: -1}
	e := api.Edge{Dst: -1, Arr: -1, A: none, B: none}
	way, what, _ := strings.Cut(strings.TrimSpace(ends.Replace(text)), " ")
	if n, _ := fmt.Sscanf(way, "%d>%d", &e.From, &e.To); n != 2 {
		t.Fatalf("%q goes nowhere", text)
	}
	for i, p := range patterns {
		found := p.FindStringSubmatch(what)
		if found == nil {
			continue
		}
		e.Kind = forms[i].kind
		if e.Kind == api.KAssume {
			e.Op = 1 + slices.Index(ops, strings.Trim(forms[i].form, "AB"))
		}
		for j, name := range p.SubexpNames() {
			fill(&e, name, found[j])
		}
		return e
	}
	t.Fatalf("%q is no edge", text)
	return e
}

// fill gives an edge's field of a name what a text says.
func fill(e *api.Edge, name, text string) {
	n, _ := strconv.ParseInt(strings.TrimPrefix(text, "v"), 10, 64)
	o := api.Operand{Var: -1, Num: n}
	if strings.HasPrefix(text, "v") {
		o = api.Operand{Var: int(n)}
	}
	switch name {
	case "dst":
		e.Dst = int(n)
	case "arr":
		e.Arr = int(n)
	case "a":
		e.A = o
	case "b":
		e.B = o
	}
}

// graph: one of a text like "v1 t2 a3 a1 p4 x1 | 0>2 nop; 2>1 v1=v0": v declared variables, t temporaries, arrays of the sizes a, p points, the point x as Exit. If they aren't told, Exit is 1, and the points are those of the edges.
func graph(t *testing.T, text string) api.Cfg {
	t.Helper()
	head, edges, _ := strings.Cut(text, "|")
	c := api.Cfg{Points: 2, Exit: 1}
	for _, s := range strings.Split(edges, ";") {
		if strings.TrimSpace(s) != "" {
			e := edge(t, s)
			c.Edges = append(c.Edges, e)
			c.Points = max(c.Points, e.From+1, e.To+1)
		}
	}
	for _, s := range strings.Fields(head) {
		n, err := strconv.Atoi(s[1:])
		if err != nil {
			t.Fatalf("%q: %v", text, err)
		}
		switch s[0] {
		case 'v':
			c.Vars = strings.Fields(strings.Repeat("x ", n)) // names aren't looked at
		case 't':
			c.Temps = n
		case 'a':
			c.Arrays = append(c.Arrays, api.Decl{Name: "a", Size: n})
		case 'p':
			c.Points = n
		case 'x':
			c.Exit = n
		}
	}
	if e := cfg.Check(c); e != api.OK {
		t.Fatalf("%q is no graph: %d", text, e)
	}
	return c
}

// standing: R of a run that goes on, H of one that is halted, else the letter of what went wrong: O, Z, B, A.
func standing(o api.Outcome) string {
	names := map[[2]int]string{
		{api.Running, api.WrongNone}: "R", {api.Halted, api.WrongNone}: "H",
		{api.Wrong, api.WrongOver}: "O", {api.Wrong, api.WrongZero}: "Z", {api.Wrong, api.WrongBounds}: "B", {api.Wrong, api.WrongAssert}: "A",
	}
	if s := names[[2]int{o.Status, o.Wrong}]; s != "" {
		return s
	}
	return fmt.Sprintf("status %d, wrong %d, ", o.Status, o.Wrong)
}

// told: an outcome and a point as text: how it stands, its steps, the point, its events (i of an input, + of an assert that held, - of one that didn't), and behind a | the variables and each array.
func told(o api.Outcome, point int) string {
	l := []string{fmt.Sprintf("%s%d@%d", standing(o), o.Steps, point)}
	for _, e := range o.Events {
		switch e {
		case api.Event{Input: true, Num: e.Num}:
			l = append(l, fmt.Sprint("i", e.Num))
		case api.Event{Held: true}:
			l = append(l, "+")
		case api.Event{}:
			l = append(l, "-")
		default:
			l = append(l, fmt.Sprintf("%+v", e))
		}
	}
	l = append(l, "|")
	for _, v := range o.Vars {
		l = append(l, fmt.Sprint(v))
	}
	for _, a := range o.Arrays {
		l = append(l, fmt.Sprint(a))
	}
	return strings.Join(l, " ")
}

// ran: the outcome of a graph that Run takes, as text.
func ran(t *testing.T, c api.Cfg, script []int64, k int) string {
	t.Helper()
	o, point, e := Run(c, script, k)
	if e != api.OK {
		t.Fatalf("P10.2: %d", e)
	}
	return told(o, point)
}

// row: a graph, a script, and what is told of its run, with / between that of 0 steps, of 1, of 2 ..
type row struct {
	graph  string
	script []int64
	want   string
}

// runs holds the outcomes of each number of steps against texts; the last one is that of all that are more, too.
func runs(t *testing.T, rows []row) {
	t.Helper()
	for _, r := range rows {
		c, want := graph(t, r.graph), strings.Split(ends.Replace(r.want), " / ")
		for k := range len(want) + 3 {
			w := want[min(k, len(want)-1)]
			if got := ran(t, c, r.script, k); got != w {
				t.Errorf("P10.1, P10.2: %q on %v, %d steps: %s; want %s", r.graph, r.script, k, got, w)
			}
		}
		if got, w := ran(t, c, r.script, api.MaxSteps), want[len(want)-1]; got != w {
			t.Errorf("P10.1, P10.2: %q on %v, all steps: %s; want %s", r.graph, r.script, got, w)
		}
	}
}

// refuses holds Run against an error, with nothing beside it.
func refuses(t *testing.T, what string, c api.Cfg, script []int64, k int, want api.Errno) {
	t.Helper()
	o, point, e := Run(c, script, k)
	if e != want || o.Status != 0 || o.Wrong != 0 || o.Steps != 0 || len(o.Events)+len(o.Vars)+len(o.Arrays) != 0 || point != 0 {
		t.Errorf("P10.2: %s, %d inputs, %d steps: %+v, %d, %d; want %d", what, len(script), k, o, point, e, want)
	}
}

// bars holds One against an error, likewise.
func bars(t *testing.T, what string, c api.Cfg, vars []int64, arrays [][]int64, point int, want api.Errno) {
	t.Helper()
	for _, input := range []int64{0, 7} {
		if i, wrong, e := One(c, vars, arrays, input, point); e != want || i != 0 || wrong != 0 {
			t.Errorf("P10.3: %s, %v, %v, point %d: %d, %d, %d; want %d", what, vars, arrays, point, i, wrong, e, want)
		}
	}
}

// source: the program of one.
func source(t *testing.T, text string) api.Prog {
	t.Helper()
	p, at, e := parse.Parse(ends.Replace(text))
	if e != api.OK {
		t.Fatalf("%.300q is no source: %v, %d", text, at, e)
	}
	return p
}

// lowered: the graph of a program.
func lowered(t *testing.T, p api.Prog) api.Cfg {
	t.Helper()
	c, e := cfg.Lower(p)
	if e != api.OK {
		t.Fatalf("it has no graph: %d", e)
	}
	return c
}

func script(l ...int64) []int64 { return l }
