// Package text: sources as texts: see doc/01-text.md.
package text

import (
	"iter"
	"unicode/utf8"

	"gnomon/api"
)

// Check: P1.1.
func Check(s string) (int, api.Errno) {
	if len(s) > api.MaxText {
		return 0, api.ErrTextLong
	}
	for n, r := range s {
		if r == utf8.RuneError && !coded(s[n:]) {
			return n, api.ErrTextBad
		}
	}
	return 0, api.OK
}

// coded tells a U+FFFD that stands in the text from one that ranging puts in place of a bad byte: only the first is longer than a byte.
func coded(s string) bool {
	_, size := utf8.DecodeRuneInString(s)
	return size > 1
}

// At: P1.3.
func At(s string, n int) api.Place {
	p := begin()
	for i, x := range spots(s) {
		if i >= n {
			break
		}
		p = behind(x)
	}
	return p
}

// Places: P1.4.
func Places(s string) iter.Seq2[api.Place, rune] {
	return func(yield func(api.Place, rune) bool) {
		for _, x := range spots(s) {
			if !yield(x.at, x.r) {
				return
			}
		}
	}
}

// spot: a rune where it stands.
type spot struct {
	at api.Place
	r  rune
}

// spots gives each rune with the number of its first byte: At needs that number, which Places doesn't tell.
func spots(s string) iter.Seq2[int, spot] {
	return func(yield func(int, spot) bool) {
		p := begin()
		for n, r := range s {
			x := spot{at: p, r: r}
			if !yield(n, x) {
				return
			}
			p = behind(x)
		}
	}
}

// begin is the place of a text's first byte, also if it has none.
func begin() api.Place { return api.Place{Line: 1, Col: 1} }

// behind is the place at which a rune behind x stands; a line feed itself still belongs to the line that it ends.
func behind(x spot) api.Place {
	if x.r == '\n' {
		return api.Place{Line: x.at.Line + 1, Col: 1}
	}
	return api.Place{Line: x.at.Line, Col: x.at.Col + 1}
}
