package run

import (
	"slices"
	"testing"

	"gnomon/api"
)

// grownRuns gives programs and scripts, with many inputs and few.
func grownRuns(t *testing.T, seed uint64, n int, yield func(source string, p api.Prog, script []int64)) {
	g := newGrower(seed)
	for range n {
		s := g.prog()
		if g.IntN(3) == 0 {
			s += "while input != 7 { x = input - y; y = y + 1; assert input < 3; }"
		}
		yield(s, read(t, s), g.script())
	}
}

// TestGoesOn: a run of k + 1 steps goes on from one of k.
func TestGoesOn(t *testing.T) {
	more := 0
	grownRuns(t, 3, 800, func(source string, p api.Prog, script []int64) {
		last := ran(t, p, script, 0)
		for k := range 50 {
			o := ran(t, p, script, k+1)
			began := len(o.Events) >= len(last.Events) && slices.Equal(o.Events[:len(last.Events)], last.Events)
			if !began || o.Steps-last.Steps != 0 && o.Steps-last.Steps != 1 {
				t.Fatalf("P8.3: %q on %v: %s, then %s", source, script, told(last), told(o))
			}
			if last.Status != api.Running && told(o) != told(last) {
				t.Fatalf("P8.3: %q on %v: %s, then %s", source, script, told(last), told(o))
			}
			if last.Status == api.Running && (last.Steps != k || o.Steps != k+1) {
				t.Fatalf("P8.2: %q on %v, %d steps and one more: %s, then %s", source, script, k, told(last), told(o))
			}
			more += o.Steps - last.Steps
			last = o
		}
	})
	if more < 5000 {
		t.Errorf("only %d steps", more)
	}
}

// taken: the inputs among the events of a run.
func taken(o api.Outcome) []int64 {
	var l []int64
	for _, e := range o.Events {
		if e.Input {
			l = append(l, e.Num)
		}
	}
	return l
}

// asksFor: whether a run goes on from where another one is halted by taking n, or would as its next step.
func asksFor(o, halted api.Outcome, n int64) bool {
	if len(o.Events) == len(halted.Events) {
		return o.Status == api.Running && o.Steps == halted.Steps
	}
	return o.Events[len(halted.Events)] == api.Event{Input: true, Num: n}
}

// TestInputsThatAreTaken: they are the script's, from the first one on, and the others don't matter, but for how many there are when one is asked for.
func TestInputsThatAreTaken(t *testing.T) {
	count := [3]int{}
	grownRuns(t, 4, 1500, func(source string, p api.Prog, script []int64) {
		for _, k := range []int{0, 1, 5, 17, 40} {
			o := ran(t, p, script, k)
			l := taken(o)
			if len(l) > len(script) || !slices.Equal(l, script[:len(l)]) {
				t.Fatalf("P8.3: %q on %v: %s", source, script, told(o))
			}
			others := slices.Concat(l, slices.Repeat([]int64{-77}, len(script)-len(l)))
			if got := told(ran(t, p, others, k)); got != told(o) {
				t.Fatalf("P8.3: %q on %v: %s; on %v %s", source, script, told(o), others, got)
			}
			// With those alone that are taken the run stands there, or would take one more.
			alone := ran(t, p, l, k)
			halted := o
			halted.Status = api.Halted
			switch told(alone) {
			case told(o):
				count[0]++
			case told(halted):
				count[1]++
			default:
				t.Fatalf("P8.3: %q on %v: %s; on %v %s", source, script, told(o), l, told(alone))
			}
			// More of them matter only where one more is asked for.
			longer := ran(t, p, append(slices.Clone(script), 5, 6), k)
			if told(longer) != told(o) {
				if o.Status != api.Halted || len(l) != len(script) || !asksFor(longer, o, 5) {
					t.Fatalf("P8.3: %q on %v: %s; on two more %s", source, script, told(o), told(longer))
				}
				count[2]++
			}
		}
	})
	if slices.Min(count[:]) < 150 {
		t.Errorf("unlike what was meant: %v", count)
	}
}

// TestStaysEnded: what has ended stays as it is, by any number of steps.
func TestStaysEnded(t *testing.T) {
	for _, r := range []row{
		{"var x; x = 1;", nil, "H1 | 1"}, {"assume false;", nil, "H1 |"}, {"skip; assert false;", nil, "A3 - |"}, {"var x; x = 1; x = 1 / 0;", nil, "Z2 | 1"},
		{"var x; x = input + input;", script(1), "H1 i1 | 0"}, {"", nil, "H0 |"},
	} {
		p := read(t, r.source)
		for k := 3; k <= api.MaxSteps; k = k*2 - 1 {
			if got := told(ran(t, p, r.script, k)); got != r.want {
				t.Errorf("P8.3: %q, %d steps: %s; want %s", r.source, k, got, r.want)
			}
		}
	}
}
