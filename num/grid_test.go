package num

import (
	"strconv"
	"strings"
	"testing"
)

// worded: what a word of a grid stands for: a number, the least or the greatest one, perhaps with something more or less, or what goes wrong.
func worded(t *testing.T, word string) reckoned {
	t.Helper()
	switch word {
	case "over":
		return over()
	case "zero":
		return zero()
	}
	from := int64(0)
	if rest, ok := strings.CutPrefix(word, "least"); ok {
		from, word = least, rest
	} else if rest, ok := strings.CutPrefix(word, "most"); ok {
		from, word = most, rest
	}
	if word == "" {
		word = "0"
	}
	n, err := strconv.ParseInt(word, 10, 64)
	if err != nil {
		t.Fatal(err)
	}
	return exact(from + n)
}

// grids: what is told of each of the ends (a row each) against each of them (a column each).
func grids() []struct{ name, cells string } {
	return []struct{ name, cells string }{
		{"Add", `
over    over    over    least    least+1 -2     -1
over    over    least   least+1  least+2 -1     0
over    least   -2      -1       0       most-2 most-1
least   least+1 -1      0        1       most-1 most
least+1 least+2 0       1        2       most   over
-2      -1      most-2  most-1   most    over   over
-1      0       most-1  most     over    over   over`},
		{"Sub", `
0       -1      least+1 least    over    over    over
1       0       least+2 least+1  least   over    over
most    most-1  0       -1       -2      least+1 least
over    most    1       0        -1      least+2 least+1
over    over    2       1        0       least+3 least+2
over    over    most    most-1   most-2  0       -1
over    over    over    most     most-1  1       0`},
		{"Mul", `
over    over    over    0        least   over    over
over    over    most    0        least+1 over    over
over    most    1       0        -1      least+2 least+1
0       0       0       0        0       0       0
least   least+1 -1      0        1       most-1  most
over    over    least+2 0        most-1  over    over
over    over    least+1 0        most    over    over`},
		{"Div", `
1       1       over    zero     least   -1      -1
0       1       most    zero     least+1 -1      -1
0       0       1       zero     -1      0       0
0       0       0       zero     0       0       0
0       0       -1      zero     1       0       0
0       0       least+2 zero     most-1  1       0
0       -1      least+1 zero     most    1       1`},
		{"Rem", `
0       -1      over    zero     0       -2      -1
least+1 0       0       zero     0       -1      0
-1      -1      0       zero     0       -1      -1
0       0       0       zero     0       0       0
1       1       0       zero     0       1       1
most-1  most-1  0       zero     0       0       most-1
most    0       0       zero     0       1       0`},
	}
}

func TestEndsAgainstEndsP71(t *testing.T) {
	all := ends()
	for i, g := range grids() {
		words := strings.Fields(g.cells)
		if len(words) != len(all)*len(all) {
			t.Fatalf("%s: %d cells", g.name, len(words))
		}
		var rows []row
		for j, word := range words {
			rows = append(rows, row{all[j/len(all)], all[j%len(all)], worded(t, word)})
		}
		if name := operations()[i].name; name != g.name {
			t.Fatalf("%s is not %s", name, g.name)
		}
		tells(t, g.name, operations()[i].of, rows)
	}
}

func TestNegAtTheEndsP71(t *testing.T) {
	for i, word := range strings.Fields("over most 1 0 -1 least+2 least+1") {
		a := ends()[i]
		if g, want := got(Neg(a)), worded(t, word); g != want {
			t.Errorf("P7.1: Neg(%d): %v, want %v", a, g, want)
		}
	}
}
