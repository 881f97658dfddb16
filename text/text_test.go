package text

import (
	"math"
	"slices"
	"strings"
	"testing"
	"unicode/utf8"

	"gnomon/api"
)

// fill gives n bytes of UTF-8, which end with tail.
func fill(n int, tail string) string {
	return strings.Repeat("a", n-len(tail)) + tail
}

func TestCheckLength(t *testing.T) {
	for i, c := range []struct {
		s    string
		n    int
		want api.Errno
	}{
		{"", 0, api.OK},
		{fill(api.MaxText-1, ""), 0, api.OK},
		{fill(api.MaxText, ""), 0, api.OK},
		{fill(api.MaxText+1, ""), 0, api.ErrTextLong},
		{fill(api.MaxText, "é"), 0, api.OK},
		{fill(api.MaxText+1, "é"), 0, api.ErrTextLong},
		{strings.Repeat("é", api.MaxText/2), 0, api.OK},
		{strings.Repeat("é", api.MaxText/2+1), 0, api.ErrTextLong},
		{strings.Repeat("é", api.MaxText), 0, api.ErrTextLong},
		{fill(api.MaxText, "\xff"), api.MaxText - 1, api.ErrTextBad},
		{fill(api.MaxText, "\xe2\x82"), api.MaxText - 2, api.ErrTextBad},
		{fill(api.MaxText+1, "\xff"), 0, api.ErrTextLong},
		{"\xff" + fill(api.MaxText, ""), 0, api.ErrTextLong},
		{strings.Repeat("\xff", 2*api.MaxText), 0, api.ErrTextLong},
	} {
		if n, e := Check(c.s); n != c.n || e != c.want {
			t.Errorf("P1.1: row %d: %d, %d; want %d, %d", i, n, e, c.n, c.want)
		}
	}
}

func TestCheckBytes(t *testing.T) {
	for _, c := range []struct {
		s    string
		n    int
		want api.Errno
	}{
		{"var x;\nx = 1;", 0, api.OK},
		{"\x00\x7f", 0, api.OK},
		{"é€😀", 0, api.OK},
		{"\u0080\u07ff\u0800\ud7ff\ue000\uffff\U00010000\U0010ffff", 0, api.OK},
		{"\ufffd", 0, api.OK},
		{"a\ufffdb", 0, api.OK},
		{"a\ufffd\ufffd", 0, api.OK},
		{"\ufffd\xff", 3, api.ErrTextBad},
		{"\xff\ufffd", 0, api.ErrTextBad},
		{"\xffab", 0, api.ErrTextBad},
		{"a\xffb", 1, api.ErrTextBad},
		{"ab\xff", 2, api.ErrTextBad},
		{"a\xffb\xff", 1, api.ErrTextBad},
		{"é\xff", 2, api.ErrTextBad},
		{"a\x80", 1, api.ErrTextBad},
		{"a\xbf", 1, api.ErrTextBad},
		{"a\xc3", 1, api.ErrTextBad},
		{"a\xc3b", 1, api.ErrTextBad},
		{"é\xa9", 2, api.ErrTextBad},
		{"\xe2\x82", 0, api.ErrTextBad},
		{"a\xe2\x82b", 1, api.ErrTextBad},
		{"a\xef\xbf", 1, api.ErrTextBad},
		{"\xf0\x9f\x98", 0, api.ErrTextBad},
		{"\xc0\x80", 0, api.ErrTextBad},
		{"\xc1\xbf", 0, api.ErrTextBad},
		{"\xe0\x9f\xbf", 0, api.ErrTextBad},
		{"\xf0\x8f\xbf\xbf", 0, api.ErrTextBad},
		{"\xed\xa0\x80", 0, api.ErrTextBad},
		{"\xed\xbf\xbf", 0, api.ErrTextBad},
		{"\xf4\x90\x80\x80", 0, api.ErrTextBad},
		{"\xf5\x80\x80\x80", 0, api.ErrTextBad},
		{"\n\n\xfe", 2, api.ErrTextBad},
	} {
		if n, e := Check(c.s); n != c.n || e != c.want {
			t.Errorf("P1.1: %q: %d, %d; want %d, %d", c.s, n, e, c.n, c.want)
		}
	}
}

func TestCheckAgainstLibrary(t *testing.T) {
	for s := range shortTexts() {
		n, e := Check(s)
		if (e == api.OK) != utf8.ValidString(s) || e != api.OK && e != api.ErrTextBad {
			t.Fatalf("P1.1: %q: error %d", s, e)
		}
		if e == api.OK && n != 0 {
			t.Fatalf("P1.1: %q: %d beside OK", s, n)
		}
		if e == api.OK {
			continue
		}
		if _, size := utf8.DecodeRuneInString(s[n:]); !utf8.ValidString(s[:n]) || size != 1 || s[n] < utf8.RuneSelf {
			t.Fatalf("P1.1: %q: %d isn't the first bad byte", s, n)
		}
	}
}

// shortTexts gives all texts of at most five bytes out of a few that make runes of one to three bytes, line feeds and what is no UTF-8.
func shortTexts() func(func(string) bool) {
	const letters = "a\n\xc3\xa9\xe2\x82\xff\xbf"
	return func(yield func(string) bool) {
		layer := []string{""}
		for range 6 {
			var next []string
			for _, s := range layer {
				if !yield(s) {
					return
				}
				for i := range len(letters) {
					next = append(next, s+letters[i:i+1])
				}
			}
			layer = next
		}
	}
}

// reckonAt counts as P1.3 says, without walking places.
func reckonAt(s string, n int) api.Place {
	n = min(max(n, 0), len(s))
	last := strings.LastIndexByte(s[:n], '\n')
	p := api.Place{Line: 1 + strings.Count(s[:n], "\n"), Col: 1}
	for i := 0; i < n; {
		if i > last {
			p.Col++
		}
		_, size := utf8.DecodeRuneInString(s[i:])
		i += size
	}
	return p
}

func TestAt(t *testing.T) {
	for _, c := range []struct {
		s         string
		n         int
		line, col int
	}{
		{"", 0, 1, 1}, {"", -1, 1, 1}, {"", 1, 1, 1}, {"", math.MinInt, 1, 1}, {"", math.MaxInt, 1, 1},
		{"aé\nb", math.MinInt, 1, 1}, {"aé\nb", -1, 1, 1}, {"aé\nb", 0, 1, 1}, {"aé\nb", 1, 1, 2},
		{"aé\nb", 2, 1, 3}, {"aé\nb", 3, 1, 3}, {"aé\nb", 4, 2, 1}, {"aé\nb", 5, 2, 2},
		{"aé\nb", 6, 2, 2}, {"aé\nb", math.MaxInt, 2, 2},
		{"€x", 0, 1, 1}, {"€x", 1, 1, 2}, {"€x", 2, 1, 2}, {"€x", 3, 1, 2}, {"€x", 4, 1, 3},
		{"😀x", 1, 1, 2}, {"😀x", 2, 1, 2}, {"😀x", 3, 1, 2}, {"😀x", 4, 1, 2}, {"😀x", 5, 1, 3},
		{"\xe2\x82x", 1, 1, 2}, {"\xe2\x82x", 2, 1, 3}, {"\xe2\x82x", 3, 1, 4},
		{"\xff\xff\n\xff", 2, 1, 3}, {"\xff\xff\n\xff", 3, 2, 1}, {"\xff\xff\n\xff", 4, 2, 2},
		{"\ufffdx", 1, 1, 2}, {"\ufffdx", 3, 1, 2},
		{"\n", 0, 1, 1}, {"\n", 1, 2, 1}, {"\n\n\n", 2, 3, 1}, {"\n\n\n", 3, 4, 1},
		{"a\r\nb", 2, 1, 3}, {"a\r\nb", 3, 2, 1}, {"a\rb", 2, 1, 3}, {"\tb", 1, 1, 2},
		{"a\u2028b\u0085c", 7, 1, 5},
	} {
		if p := At(c.s, c.n); p != (api.Place{Line: c.line, Col: c.col}) {
			t.Errorf("P1.3: %q, %d: %v; want %d, %d", c.s, c.n, p, c.line, c.col)
		}
	}
}

func TestAtOfLongTexts(t *testing.T) {
	for _, c := range []struct {
		s         string
		line, col int
	}{
		{strings.Repeat("é", api.MaxText), 1, api.MaxText + 1},
		{strings.Repeat("\n", api.MaxText+1), api.MaxText + 2, 1},
		{strings.Repeat("\xff", api.MaxText+1), 1, api.MaxText + 2},
	} {
		if p := At(c.s, len(c.s)); p != (api.Place{Line: c.line, Col: c.col}) {
			t.Errorf("P1.3: %q..: %v; want %d, %d", c.s[:4], p, c.line, c.col)
		}
	}
}

func TestAtAgainstCounting(t *testing.T) {
	for s := range shortTexts() {
		for n := -2; n <= len(s)+2; n++ {
			if p, want := At(s, n), reckonAt(s, n); p != want {
				t.Fatalf("P1.3: %q, %d: %v; want %v", s, n, p, want)
			}
		}
	}
}

// given is one thing that Places gives.
type given struct {
	at api.Place
	r  rune
}

func all(s string) []given {
	var l []given
	for p, r := range Places(s) {
		l = append(l, given{p, r})
	}
	return l
}

func TestPlaces(t *testing.T) {
	for _, c := range []struct {
		s    string
		want []given
	}{
		{"", nil},
		{"a", []given{{api.Place{Line: 1, Col: 1}, 'a'}}},
		{"\n", []given{{api.Place{Line: 1, Col: 1}, '\n'}}},
		{"aé\nb", []given{{api.Place{Line: 1, Col: 1}, 'a'}, {api.Place{Line: 1, Col: 2}, 'é'}, {api.Place{Line: 1, Col: 3}, '\n'}, {api.Place{Line: 2, Col: 1}, 'b'}}},
		{"\xe2\x82€\ufffd", []given{{api.Place{Line: 1, Col: 1}, 0xfffd}, {api.Place{Line: 1, Col: 2}, 0xfffd}, {api.Place{Line: 1, Col: 3}, '€'}, {api.Place{Line: 1, Col: 4}, 0xfffd}}},
		{"\n\n😀\xff", []given{{api.Place{Line: 1, Col: 1}, '\n'}, {api.Place{Line: 2, Col: 1}, '\n'}, {api.Place{Line: 3, Col: 1}, '😀'}, {api.Place{Line: 3, Col: 2}, 0xfffd}}},
		{"\r\nx", []given{{api.Place{Line: 1, Col: 1}, '\r'}, {api.Place{Line: 1, Col: 2}, '\n'}, {api.Place{Line: 2, Col: 1}, 'x'}}},
	} {
		if l := all(c.s); !slices.Equal(l, c.want) {
			t.Errorf("P1.4: %q: %v; want %v", c.s, l, c.want)
		}
	}
}

func TestPlacesAgainstAt(t *testing.T) {
	for s := range shortTexts() {
		l := all(s)
		if len(l) != utf8.RuneCountInString(s) {
			t.Fatalf("P1.5: %q: %d runes", s, len(l))
		}
		i := 0
		for n, r := range s {
			if want := (given{reckonAt(s, n), r}); l[i] != want || At(s, n) != want.at {
				t.Fatalf("P1.4: %q, byte %d: %v; want %v", s, n, l[i], want)
			}
			i++
		}
	}
}

func TestPlacesOfLongTexts(t *testing.T) {
	n := 0
	for p, r := range Places(strings.Repeat("é\n", api.MaxText)) {
		if want := (api.Place{Line: n/2 + 1, Col: n%2 + 1}); p != want || r != []rune{'é', '\n'}[n%2] {
			t.Fatalf("P1.4: rune %d: %v, %q", n, p, r)
		}
		n++
	}
	if n != 2*api.MaxText {
		t.Errorf("P1.4: %d runes", n)
	}
}

func TestPlacesLeftAndAgain(t *testing.T) {
	const s = "aé\n\xffb"
	want := all(s)
	seq := Places(s)
	for stop := range len(want) + 1 {
		n := 0
		for p, r := range seq {
			if n == stop {
				break
			}
			if want[n] != (given{p, r}) {
				t.Errorf("P1.4: left at %d: rune %d: %v, %q", stop, n, p, r)
			}
			n++
		}
		if n != stop {
			t.Errorf("P1.4: left at %d, but given %d", stop, n)
		}
	}
	var whole []given
	for p, r := range seq {
		whole = append(whole, given{p, r})
	}
	if !slices.Equal(whole, want) {
		t.Errorf("P1.4: again: %v; want %v", whole, want)
	}
}

func TestPlacesWithinItself(t *testing.T) {
	const s = "é\nb"
	want := all(s)
	seq := Places(s)
	var outer []given
	for p, r := range seq {
		outer = append(outer, given{p, r})
		var inner []given
		for p, r := range seq {
			inner = append(inner, given{p, r})
			if len(inner) > len(outer) {
				break
			}
		}
		if !slices.Equal(inner, want[:min(len(outer)+1, len(want))]) {
			t.Errorf("P1.4: within: %v", inner)
		}
	}
	if !slices.Equal(outer, want) {
		t.Errorf("P1.4: around: %v; want %v", outer, want)
	}
}

func TestPlacesIsNeverNil(t *testing.T) {
	for _, s := range []string{"", "a", "\xff"} {
		if Places(s) == nil {
			t.Errorf("P1.4: %q: no iterator", s)
		}
	}
	for range Places("") {
		t.Error("P1.4: a rune of the empty text")
	}
}

func TestAtGoesOn(t *testing.T) {
	for s := range shortTexts() {
		last := At(s, -1)
		if last != (api.Place{Line: 1, Col: 1}) || At(s, 0) != last {
			t.Fatalf("P1.5: %q begins at %v", s, At(s, 0))
		}
		for n := range len(s) + 2 {
			p := At(s, n)
			if p.Line < last.Line || p.Line == last.Line && p.Col < last.Col {
				t.Fatalf("P1.5: %q, %d: %v behind %v", s, n, p, last)
			}
			last = p
		}
	}
}

func TestAnswersHangOnArgumentsOnly(t *testing.T) {
	const s = "é\n\xffb"
	n, e := Check(s)
	p, l := At(s, 5), all(s)
	Check("\xff" + s)
	At("\n\n"+s, 4)
	all("\n" + s)
	if n2, e2 := Check(strings.Clone(s)); n2 != n || e2 != e {
		t.Errorf("P1.1: %d, %d; then %d, %d", n, e, n2, e2)
	}
	if p2 := At(strings.Clone(s), 5); p2 != p {
		t.Errorf("P1.3: %v; then %v", p, p2)
	}
	if l2 := all(strings.Clone(s)); !slices.Equal(l2, l) {
		t.Errorf("P1.4: %v; then %v", l, l2)
	}
}
