package lex

import (
	"slices"
	"strings"
	"testing"

	"gnomon/api"
)

// words are those of P2.1.
func words() []string {
	return strings.Fields("var array if else while assert assume skip input true false")
}

func TestWord(t *testing.T) {
	for _, w := range words() {
		if !Word(w) {
			t.Errorf("P2.1: %q is a word", w)
		}
		beside := []string{w + " ", " " + w, w + "s", "s" + w, w + "1", w + "_", w + "\n", w + "\x00", w + w, w[1:], w[:len(w)-1], strings.ToUpper(w), strings.ToUpper(w[:1]) + w[1:], w + "\xff", w + "é"}
		for _, s := range beside {
			if Word(s) {
				t.Errorf("P2.1: %q isn't a word", s)
			}
		}
	}
	for _, s := range []string{"", " ", "x", "for", "int", "return", "not", "and", "or", "0", "=", "\xff", "var array", strings.Repeat("var", api.MaxText)} {
		if Word(s) {
			t.Errorf("P2.1: %q isn't a word", s[:min(len(s), 20)])
		}
	}
}

func TestWordsAreNoNames(t *testing.T) {
	for _, w := range words() {
		if Name(w) {
			t.Errorf("P2.1: %q isn't a name", w)
		}
		for _, s := range []string{w + "s", "s" + w, w + "1", "_" + w, w + w, w[1:], w[:len(w)-1], strings.ToUpper(w), w + "é"} {
			if !Name(s) && !Word(s) {
				t.Errorf("P2.1: %q is a name", s)
			}
		}
	}
}

func TestName(t *testing.T) {
	for _, s := range []string{"a", "z", "A", "Z", "_", "__", "_1", "a1", "x9y", "éa", "aé", "é", "αω", "Яя", "ɏ", "If", "iff", "tru", "x" + strings.Repeat("0", api.MaxName-1)} {
		if !Name(s) {
			t.Errorf("P2.1: %q is a name", s)
		}
	}
	for _, s := range []string{
		"", "0", "1", "1a", "0_", " ", " a", "a ", "a b", "\ta", "a\n", "a\r", "a#", "#a", "a;", "a=", "a-b", "-a", "a.b", "a\"", "a\x00",
		"×", "a×", "a÷", "中", "a中", "a😀", "٣", "a٣", "a²", "\u0301", "e\u0301", "\ufffd", "a\ufffd",
		"\xff", "a\xff", "\xffa", "a\xc3", "\xc3a", "a\xe2\x82", "\xc1\xa1", "a\xc1\xa1", "\xed\xa0\x80",
	} {
		if Name(s) {
			t.Errorf("P2.1: %q isn't a name", s)
		}
	}
}

func TestNameLength(t *testing.T) {
	for _, c := range []string{"a", "_", "é", "Ω", "я"} {
		for n := range 3 * api.MaxName {
			if s, want := strings.Repeat(c, n), n >= 1 && n <= api.MaxName; Name(s) != want {
				t.Errorf("P2.1: %d times %q: %v", n, c, !want)
			}
		}
		if Name(strings.Repeat(c, 1<<20)) {
			t.Errorf("P2.1: %q: a name without end", c)
		}
	}
	full := strings.Repeat("é", api.MaxName-1)
	for _, tail := range []string{"\xff", " ", "-", "\xc3"} {
		if Name(full + tail) {
			t.Errorf("P2.1: %q behind %d letters", tail, api.MaxName-1)
		}
	}
	if !Name(full+"1") || Name(full+"11") || Name("1"+full) {
		t.Error("P2.1: digits in a name of full length")
	}
}

// TestNamesAreTokens: what Name takes is what Tokens reads as a name, and nothing else.
func TestNamesAreTokens(t *testing.T) {
	for s := range shortTexts() {
		l, _, e := Tokens(s)
		whole := e == api.OK && len(l) == 2 && l[0].Kind == api.TokName && l[0].Text == s
		if Name(s) != whole {
			t.Fatalf("P2.1: %q: %v", s, !whole)
		}
	}
	for _, w := range slices.Concat(words(), []string{"x", "iff", "é1", "_"}) {
		want := api.TokName
		if Word(w) {
			want = api.TokWord
		}
		if l, _, e := Tokens(w); e != api.OK || len(l) != 2 || l[0].Kind != want || l[0].Text != w || Name(w) == Word(w) {
			t.Errorf("P2.2: %q: %v, %d", w, l, e)
		}
	}
}
