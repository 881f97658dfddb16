package text

import (
	"math"
	"strings"
	"testing"

	"gnomon/api"
)

func TestClassOfFewRunes(t *testing.T) {
	for _, c := range []struct {
		runes string
		want  int
	}{
		{" \t\r", api.ClassSpace},
		{"\n", api.ClassLine},
		{"0123456789", api.ClassDigit},
		{";,{}()[]=!<>+-*/%&|", api.ClassSign},
		{"abcdefghijklmnopqrstuvwxyzABCDEFGHIJKLMNOPQRSTUVWXYZ_", api.ClassLetter},
		{"éßÿĀſƀɏΑΩαςωАЯая", api.ClassLetter},
		{"\"#$'.:?@\\^`~\x00\x01\v\f\x1b\x7f", api.ClassOther},
		{"×÷ɐΐϊЏѐё٣０²½Ⅷªºµ中😀\u0085\u00a0\u2028\u200b\ufeff\ufffd", api.ClassOther},
	} {
		for _, r := range c.runes {
			if k := Class(r); k != c.want {
				t.Errorf("P1.2: %q: %d; want %d", r, k, c.want)
			}
		}
	}
}

func TestClassAtEnds(t *testing.T) {
	for _, c := range []struct {
		ahead, first, last, behind rune
		out, in                    int
	}{
		{'/', '0', '9', ':', api.ClassOther, api.ClassDigit},
		{'@', 'A', 'Z', '[', api.ClassOther, api.ClassLetter},
		{'`', 'a', 'z', '{', api.ClassOther, api.ClassLetter},
		{'^', '_', '_', '`', api.ClassOther, api.ClassLetter},
		{0xbf, 0xc0, 0x24f, 0x250, api.ClassOther, api.ClassLetter},
		{0xd6, 0xd7, 0xd7, 0xd8, api.ClassLetter, api.ClassOther},
		{0xf6, 0xf7, 0xf7, 0xf8, api.ClassLetter, api.ClassOther},
		{0x390, 0x391, 0x3c9, 0x3ca, api.ClassOther, api.ClassLetter},
		{0x3a1, 0x3a2, 0x3a2, 0x3a3, api.ClassLetter, api.ClassOther},
		{0x40f, 0x410, 0x44f, 0x450, api.ClassOther, api.ClassLetter},
	} {
		for _, r := range []rune{c.first, c.last} {
			if k := Class(r); k != c.in {
				t.Errorf("P1.2: %U: %d; want %d", r, k, c.in)
			}
		}
		for _, r := range []rune{c.ahead, c.behind} {
			want := c.out
			if strings.ContainsRune("/[{", r) {
				want = api.ClassSign
			}
			if k := Class(r); k != want {
				t.Errorf("P1.2: %U: %d; want %d", r, k, want)
			}
		}
	}
}

func TestClassOfAllRunes(t *testing.T) {
	count := map[int]int{}
	for r := rune(-300); r <= 0x110100; r++ {
		count[Class(r)]++
	}
	all := 0x110100 + 301
	want := map[int]int{
		api.ClassSpace:  3,
		api.ClassLine:   1,
		api.ClassDigit:  10,
		api.ClassSign:   19,
		api.ClassLetter: 26 + 26 + 1 + (0x250 - 0xc0 - 2) + (0x3ca - 0x391 - 1) + (0x450 - 0x410),
	}
	rest := all
	for k, n := range want {
		rest -= n
		if count[k] != n {
			t.Errorf("P1.2: class %d: %d runes; want %d", k, count[k], n)
		}
	}
	if count[api.ClassOther] != rest {
		t.Errorf("P1.2: class %d: %d runes; want %d", api.ClassOther, count[api.ClassOther], rest)
	}
}

func TestClassOfNoRunes(t *testing.T) {
	for _, r := range []rune{math.MinInt32, -1, 0xd800, 0xdfff, 0x10ffff, 0x110000, 0x10000 + 'a', 0x100 - 0x200 + 'a', math.MaxInt32} {
		if k := Class(r); k != api.ClassOther {
			t.Errorf("P1.2: %d: %d; want %d", r, k, api.ClassOther)
		}
	}
}
