package lex

import (
	"math/big"
	"regexp"
	"slices"
	"strings"
	"testing"
	"unicode/utf8"
	"unsafe"

	"gnomon/api"
)

func at(line, col int) api.Place { return api.Place{Line: line, Col: col} }

func name(s string, line, col int) api.Token {
	return api.Token{Kind: api.TokName, Text: s, At: at(line, col)}
}

func word(s string, line, col int) api.Token {
	return api.Token{Kind: api.TokWord, Text: s, At: at(line, col)}
}

func sign(s string, line, col int) api.Token {
	return api.Token{Kind: api.TokSign, Text: s, At: at(line, col)}
}

func number(s string, n int64, line, col int) api.Token {
	return api.Token{Kind: api.TokNum, Text: s, Num: n, At: at(line, col)}
}

func end(line, col int) api.Token {
	return api.Token{Kind: api.TokEnd, At: at(line, col)}
}

// want holds s against tokens, and says that no place of a fault stands beside them.
func want(t *testing.T, s string, tokens ...api.Token) {
	t.Helper()
	l, p, e := Tokens(s)
	if !slices.Equal(l, tokens) || p != (api.Place{}) || e != api.OK {
		t.Errorf("P2.2: %q: %v, %v, %d; want %v", s, l, p, e, tokens)
	}
}

// fault holds s against an error and its place, and says that no token stands beside them.
func fault(t *testing.T, s string, line, col int, want api.Errno) {
	t.Helper()
	l, p, e := Tokens(s)
	if len(l) != 0 || p != at(line, col) || e != want {
		t.Errorf("P2.2: %q..: %d tokens, %v, %d; want %d, %d, %d", s[:min(len(s), 50)], len(l), p, e, line, col, want)
	}
}

func TestExamples(t *testing.T) {
	want(t, "x1<=-5#c", name("x1", 1, 1), sign("<=", 1, 3), sign("-", 1, 5), number("5", 5, 1, 6), end(1, 9))
	fault(t, "007", 1, 1, api.ErrLexNumber)
	fault(t, "1x", 1, 1, api.ErrLexNumber)
	fault(t, "a & b", 1, 3, api.ErrLexRune)
	fault(t, "é\"", 1, 2, api.ErrLexRune)
}

func TestProgram(t *testing.T) {
	want(t, "var é; # a\n\n\twhile é<10 {\r\n  é = é+1;}\n",
		word("var", 1, 1), name("é", 1, 5), sign(";", 1, 6),
		word("while", 3, 2), name("é", 3, 8), sign("<", 3, 9), number("10", 10, 3, 10), sign("{", 3, 13),
		name("é", 4, 3), sign("=", 4, 5), name("é", 4, 7), sign("+", 4, 8), number("1", 1, 4, 9), sign(";", 4, 10), sign("}", 4, 11),
		end(5, 1))
}

func TestNothing(t *testing.T) {
	for _, c := range []struct {
		s         string
		line, col int
	}{
		{"", 1, 1}, {" ", 1, 2}, {"\t\r ", 1, 4}, {"\n", 2, 1}, {"\n\n  ", 3, 3}, {"\r\n", 2, 1},
		{"#", 1, 2}, {"##", 1, 3}, {"#\n", 2, 1}, {"#é\"\n", 2, 1}, {"# & 007 1x $", 1, 13}, {"#é中😀", 1, 5},
		{"#a\n#b\n", 3, 1}, {"#a\n #b", 2, 4}, {"#\r", 1, 3}, {"\n#\ufffd\u2028\u0085", 2, 5},
		{"#" + strings.Repeat("a", 40), 1, 42}, {"#" + strings.Repeat("\"", api.MaxText-1), 1, api.MaxText + 1},
		{strings.Repeat("\n", api.MaxText), api.MaxText + 1, 1}, {strings.Repeat(" ", api.MaxText), 1, api.MaxText + 1},
	} {
		want(t, c.s, end(c.line, c.col))
	}
}

func TestComments(t *testing.T) {
	want(t, "x#y\nz", name("x", 1, 1), name("z", 2, 1), end(2, 2))
	want(t, "x#y", name("x", 1, 1), end(1, 4))
	want(t, "x#é\r\ny", name("x", 1, 1), name("y", 2, 1), end(2, 2))
	want(t, "x#a\ry", name("x", 1, 1), end(1, 6))
	want(t, "1#x\n2", number("1", 1, 1, 1), number("2", 2, 2, 1), end(2, 2))
	want(t, "=#\n=", sign("=", 1, 1), sign("=", 2, 1), end(2, 2))
	want(t, "a##b\n#\nc#", name("a", 1, 1), name("c", 3, 1), end(3, 3))
	want(t, "if#\nx", word("if", 1, 1), name("x", 2, 1), end(2, 2))
	want(t, "#ab\n  x", name("x", 2, 3), end(2, 4))
	fault(t, "#\"\n\"", 2, 1, api.ErrLexRune)
	fault(t, "&#\n&", 1, 1, api.ErrLexRune)
}

func TestNames(t *testing.T) {
	want(t, "a_1é", name("a_1é", 1, 1), end(1, 5))
	want(t, "é1 Ωx яЯ", name("é1", 1, 1), name("Ωx", 1, 4), name("яЯ", 1, 7), end(1, 9))
	want(t, "_ __ _0", name("_", 1, 1), name("__", 1, 3), name("_0", 1, 6), end(1, 8))
	want(t, "x+y", name("x", 1, 1), sign("+", 1, 2), name("y", 1, 3), end(1, 4))
	want(t, "a0001 b1c", name("a0001", 1, 1), name("b1c", 1, 7), end(1, 10))
	for _, c := range []string{"a", "é", "_", "Ω"} {
		full := strings.Repeat(c, api.MaxName)
		want(t, full, name(full, 1, 1), end(1, api.MaxName+1))
		want(t, full+"(", name(full, 1, 1), sign("(", 1, api.MaxName+1), end(1, api.MaxName+2))
		fault(t, full+c, 1, 1, api.ErrLexName)
		fault(t, full+"1", 1, 1, api.ErrLexName)
		fault(t, "\n x "+full+"é", 2, 4, api.ErrLexName)
		fault(t, full+c+"\"", 1, 1, api.ErrLexName)
		fault(t, full+"\"", 1, api.MaxName+1, api.ErrLexRune)
	}
	fault(t, strings.Repeat("a", api.MaxText), 1, 1, api.ErrLexName)
	fault(t, "if"+strings.Repeat("1", api.MaxName), 1, 1, api.ErrLexName)
}

func TestWords(t *testing.T) {
	for _, w := range words() {
		n := len(w)
		want(t, w, word(w, 1, 1), end(1, n+1))
		want(t, "("+w+")", sign("(", 1, 1), word(w, 1, 2), sign(")", 1, n+2), end(1, n+3))
		for _, s := range []string{w + "x", w + "1", "_" + w, w + "é", w + w, strings.ToUpper(w)} {
			want(t, s, name(s, 1, 1), end(1, utf8.RuneCountInString(s)+1))
		}
		fault(t, "1"+w, 1, 1, api.ErrLexNumber)
	}
}

func TestNumbers(t *testing.T) {
	for _, c := range []struct {
		s string
		n int64
	}{
		{"0", 0}, {"1", 1}, {"9", 9}, {"10", 10}, {"100", 100}, {"1234567890", 1234567890}, {"2147483648", 1 << 31}, {"4294967296", 1 << 32},
		{"4611686018427387904", 1 << 62}, {"9223372036854775806", 1<<63 - 2}, {"9223372036854775807", 1<<63 - 1},
	} {
		want(t, c.s, number(c.s, c.n, 1, 1), end(1, len(c.s)+1))
		want(t, c.s+"-"+c.s, number(c.s, c.n, 1, 1), sign("-", 1, len(c.s)+1), number(c.s, c.n, 1, len(c.s)+2), end(1, 2*len(c.s)+2))
	}
	for _, s := range []string{
		"00", "01", "007", "0000000000000000000000000", "09223372036854775807",
		"9223372036854775808", "9223372036854775810", "9999999999999999999", "10000000000000000000", "18446744073709551615", "18446744073709551616", "18446744073709551617", "36893488147419103232",
		"1x", "0x", "0x1", "1_", "1_000", "0_", "1é", "5Ω", "7я", "1e5", "0b1", "12var", "9223372036854775807a", "9223372036854775808a", "00a",
		strings.Repeat("9", api.MaxText), "1" + strings.Repeat("0", api.MaxText-1), strings.Repeat("0", api.MaxText),
	} {
		fault(t, s, 1, 1, api.ErrLexNumber)
	}
	fault(t, "é = 00;", 1, 5, api.ErrLexNumber)
	fault(t, "1\n 2 3a", 2, 4, api.ErrLexNumber)
	want(t, "0 0", number("0", 0, 1, 1), number("0", 0, 1, 3), end(1, 4))
	want(t, "1 x", number("1", 1, 1, 1), name("x", 1, 3), end(1, 4))
	want(t, "1\tx", number("1", 1, 1, 1), name("x", 1, 3), end(1, 4))
	want(t, "-1", sign("-", 1, 1), number("1", 1, 1, 2), end(1, 3))
	fault(t, "1.5", 1, 2, api.ErrLexRune)
	fault(t, "1×", 1, 2, api.ErrLexRune)
	fault(t, "1²", 1, 2, api.ErrLexRune)
	fault(t, "٣", 1, 1, api.ErrLexRune)
}

func TestSigns(t *testing.T) {
	ones := strings.Fields("; , { } ( ) [ ] = ! < > + - * / %")
	twos := strings.Fields("== != <= >= && ||")
	for _, s := range slices.Concat(ones, twos) {
		n := len(s)
		want(t, s, sign(s, 1, 1), end(1, n+1))
		want(t, "é"+s+"é", name("é", 1, 1), sign(s, 1, 2), name("é", 1, n+2), end(1, n+3))
		want(t, s+" "+s, sign(s, 1, 1), sign(s, 1, n+2), end(1, 2*n+2))
		want(t, s+"\n"+s, sign(s, 1, 1), sign(s, 2, 1), end(2, n+1))
		want(t, s+"0", sign(s, 1, 1), number("0", 0, 1, n+1), end(1, n+2))
	}
	for _, a := range ones {
		for _, b := range ones {
			if slices.Contains(twos, a+b) {
				want(t, a+b, sign(a+b, 1, 1), end(1, 3))
			} else {
				want(t, a+b, sign(a, 1, 1), sign(b, 1, 2), end(1, 3))
			}
		}
	}
	want(t, "===", sign("==", 1, 1), sign("=", 1, 3), end(1, 4))
	want(t, "====", sign("==", 1, 1), sign("==", 1, 3), end(1, 5))
	want(t, "=!=", sign("=", 1, 1), sign("!=", 1, 2), end(1, 4))
	want(t, "<=>", sign("<=", 1, 1), sign(">", 1, 3), end(1, 4))
	want(t, "&&||", sign("&&", 1, 1), sign("||", 1, 3), end(1, 5))
	for _, s := range []string{"&", "|"} {
		other := map[string]string{"&": "|", "|": "&"}[s]
		for _, tail := range []string{"", " ", " " + s, "\n" + s, "#" + s, "x", "é", "1", "=", other, other + other, "\""} {
			fault(t, s+tail, 1, 1, api.ErrLexRune)
		}
		fault(t, s+s+s, 1, 3, api.ErrLexRune)
		fault(t, "é\n "+s, 2, 2, api.ErrLexRune)
		fault(t, "="+s, 1, 2, api.ErrLexRune)
	}
}

func TestOtherRunes(t *testing.T) {
	for _, c := range "\"$'.:?@\\^`~\x00\x01\v\f\x1b\x7f×÷ɐΐϊЏѐ٣²中😀\u0085\u00a0\u2028\ufeff\ufffd\U0010ffff" {
		fault(t, string(c), 1, 1, api.ErrLexRune)
		fault(t, "é\n; "+string(c)+" &", 2, 3, api.ErrLexRune)
		fault(t, "é"+string(c), 1, 2, api.ErrLexRune)
		fault(t, "1"+string(c), 1, 2, api.ErrLexRune)
		fault(t, "="+string(c), 1, 2, api.ErrLexRune)
		want(t, "#"+string(c)+"\nx", name("x", 2, 1), end(2, 2))
	}
}

func TestFirstErrorFromTheLeft(t *testing.T) {
	long := strings.Repeat("a", api.MaxName+1)
	faults := []struct {
		s string
		e api.Errno
	}{{"\"", api.ErrLexRune}, {"&", api.ErrLexRune}, {"00", api.ErrLexNumber}, {"1x", api.ErrLexNumber}, {long, api.ErrLexName}}
	for _, a := range faults {
		for _, b := range faults {
			fault(t, "x\n; "+a.s+" "+b.s, 2, 3, a.e)
		}
	}
}

func TestTexts(t *testing.T) {
	fault(t, "a\xff", 1, 2, api.ErrTextBad)
	fault(t, "\xff", 1, 1, api.ErrTextBad)
	fault(t, "é\n\xc3", 2, 1, api.ErrTextBad)
	fault(t, "é\n é\xe2\x82", 2, 3, api.ErrTextBad)
	fault(t, "\" & 00 \xff", 1, 8, api.ErrTextBad)
	fault(t, "# \xff", 1, 3, api.ErrTextBad)
	fault(t, strings.Repeat(";", api.MaxTokens+1)+"\xff", 1, api.MaxTokens+2, api.ErrTextBad)
	blank := strings.Repeat(" ", api.MaxText)
	want(t, blank, end(1, api.MaxText+1))
	want(t, blank[1:]+"x", name("x", 1, api.MaxText), end(1, api.MaxText+1))
	for _, s := range []string{blank + " ", "x" + blank, blank + "\xff", "\xff" + blank, "\n\n" + blank, "\"" + blank, strings.Repeat(";", 2*api.MaxText), strings.Repeat("é", api.MaxText)} {
		fault(t, s, 1, 1, api.ErrTextLong)
	}
}

func TestManyTokens(t *testing.T) {
	full := strings.Repeat(";", api.MaxTokens)
	for _, tail := range []string{"", " ", "\n", "#;;;", " \t\r#\"&\n\n#"} {
		l, p, e := Tokens(full + tail)
		if len(l) != api.MaxTokens+1 || p != (api.Place{}) || e != api.OK {
			t.Fatalf("P2.2: full, then %q: %d tokens, %v, %d", tail, len(l), p, e)
		}
		for i, k := range l[:api.MaxTokens] {
			if k != sign(";", 1, i+1) {
				t.Fatalf("P2.2: token %d: %v", i, k)
			}
		}
		if l[api.MaxTokens].Kind != api.TokEnd {
			t.Errorf("P2.2: full, then %q: it ends with %v", tail, l[api.MaxTokens])
		}
	}
	long := strings.Repeat("é", api.MaxName+1)
	for _, one := range []string{";", "x", "if", "0", "==", "\"", "&", "|", "00", "1x", long, "\ufffd", "×"} {
		fault(t, full+one, 1, api.MaxTokens+1, api.ErrLexMany)
		fault(t, full+" #\"\n\n "+one, 3, 2, api.ErrLexMany)
		fault(t, full+one+" \"", 1, api.MaxTokens+1, api.ErrLexMany)
	}
	for _, c := range []struct {
		s string
		e api.Errno
	}{{"\"", api.ErrLexRune}, {"&", api.ErrLexRune}, {"00", api.ErrLexNumber}, {"1x", api.ErrLexNumber}, {long, api.ErrLexName}} {
		fault(t, full[1:]+c.s+";;;", 1, api.MaxTokens, c.e)
		fault(t, c.s+" "+full+full[:30000], 1, 1, c.e)
	}
}

func TestManyTokensOfAllKinds(t *testing.T) {
	for _, c := range []struct {
		one  string
		last api.Token
	}{
		{"x ", name("x", 1, 2*api.MaxTokens-1)},
		{"7 ", number("7", 7, 1, 2*api.MaxTokens-1)},
		{"==", sign("==", 1, 2*api.MaxTokens-1)},
		{"\n;", sign(";", api.MaxTokens+1, 1)},
		{"<", sign("<", 1, api.MaxTokens)},
	} {
		l, p, e := Tokens(strings.Repeat(c.one, api.MaxTokens))
		if len(l) != api.MaxTokens+1 || l[api.MaxTokens-1] != c.last || p != (api.Place{}) || e != api.OK {
			t.Errorf("P2.2: %q: %d tokens, %v, %d", c.one, len(l), p, e)
		}
	}
}

// shortTexts gives all texts of at most four pieces out of a few at which a reader turns.
func shortTexts() func(func(string) bool) {
	pieces := []string{"a", "é", "0", "7", "if", "=", "!", "&", "|", "-", "#", "\n", " ", "\"", "\xff"}
	return func(yield func(string) bool) {
		layer := []string{""}
		for range 5 {
			var next []string
			for _, s := range layer {
				if !yield(s) {
					return
				}
				for _, p := range pieces {
					next = append(next, s+p)
				}
			}
			layer = next
		}
	}
}

// model reads a text by patterns, and counts each place from the text's beginning.
type model struct{ parts, letters, digits, signs *regexp.Regexp }

func newModel() model {
	const letter = `a-zA-Z_\x{c0}-\x{d6}\x{d8}-\x{f6}\x{f8}-\x{24f}\x{391}-\x{3a1}\x{3a3}-\x{3c9}\x{410}-\x{44f}`
	return model{
		regexp.MustCompile(`^([ \t\r\n]|#[^\n]*)*`),
		regexp.MustCompile(`^[` + letter + `][` + letter + `0-9]*`),
		regexp.MustCompile(`^[0-9]+[` + letter + `]?`),
		regexp.MustCompile(`^([=!<>]=|&&|\|\||[;,{}()\[\]=!<>+*/%-])`),
	}
}

func place(s string, n int) api.Place {
	head := s[:n]
	return at(1+strings.Count(head, "\n"), 1+utf8.RuneCountInString(head[strings.LastIndexByte(head, '\n')+1:]))
}

func (m model) tokens(s string) ([]api.Token, api.Place, api.Errno) {
	for n := range len(s) {
		if c, size := utf8.DecodeRuneInString(s[n:]); utf8.RuneStart(s[n]) && c == utf8.RuneError && size == 1 {
			return nil, place(s, n), api.ErrTextBad
		}
	}
	var l []api.Token
	for n := 0; ; {
		n += len(m.parts.FindString(s[n:]))
		p := place(s, n)
		if n == len(s) {
			return append(l, api.Token{Kind: api.TokEnd, At: p}), api.Place{}, api.OK
		}
		k, e := m.token(s[n:])
		if e != api.OK {
			return nil, p, e
		}
		k.At = p
		l = append(l, k)
		n += len(k.Text)
	}
}

func (m model) token(s string) (api.Token, api.Errno) {
	if x := m.letters.FindString(s); x != "" {
		switch {
		case slices.Contains(words(), x):
			return api.Token{Kind: api.TokWord, Text: x}, api.OK
		case len([]rune(x)) > api.MaxName:
			return api.Token{}, api.ErrLexName
		}
		return api.Token{Kind: api.TokName, Text: x}, api.OK
	}
	if x := m.digits.FindString(s); x != "" {
		n, ok := new(big.Int).SetString(x, 10)
		if !ok || !n.IsInt64() || n.String() != x {
			return api.Token{}, api.ErrLexNumber
		}
		return api.Token{Kind: api.TokNum, Text: x, Num: n.Int64()}, api.OK
	}
	if x := m.signs.FindString(s); x != "" {
		return api.Token{Kind: api.TokSign, Text: x}, api.OK
	}
	return api.Token{}, api.ErrLexRune
}

func TestAgainstModel(t *testing.T) {
	m := newModel()
	for s := range shortTexts() {
		l, p, e := Tokens(s)
		l2, p2, e2 := m.tokens(s)
		if !slices.Equal(l, l2) || p != p2 || e != e2 {
			t.Fatalf("P2.2: %q: %v, %v, %d; want %v, %v, %d", s, l, p, e, l2, p2, e2)
		}
	}
}

// bare are tokens without places.
func bare(l []api.Token) []api.Token {
	l = slices.Clone(l)
	for i := range l {
		l[i].At = api.Place{}
	}
	return l
}

func join(l []api.Token, between string) string {
	var b strings.Builder
	for _, k := range l {
		b.WriteString(k.Text)
		b.WriteString(between)
	}
	return b.String()
}

func TestPartsChangeNothing(t *testing.T) {
	parts := []string{" ", "\t", "\r", "\n", "\r\n", "#\n", " #é\" & 00\n\t", "##\n\n#\n"}
	for s := range shortTexts() {
		l, _, e := Tokens(s)
		if e != api.OK {
			continue
		}
		for _, between := range parts {
			again := between + join(l, between)
			l2, p, e := Tokens(again)
			if !slices.Equal(bare(l2), bare(l)) || p != (api.Place{}) || e != api.OK {
				t.Fatalf("P2.3: %q as %q: %v, %v, %d; want %v", s, again, l2, p, e, l)
			}
		}
	}
}

func TestTextsReadAgain(t *testing.T) {
	for _, s := range []string{
		"", "x", "var x;x=x+1;", "array a[10];#c\na[0]=-1;while x<=3&&!true||[x==y]{skip;}",
		"9223372036854775807 0 " + strings.Repeat("é", api.MaxName), strings.Repeat("==", api.MaxTokens/2), strings.Repeat(";", api.MaxTokens-1),
	} {
		l, _, e := Tokens(s)
		l2, _, e2 := Tokens(join(l, " "))
		if e != api.OK || e2 != api.OK || !slices.Equal(bare(l2), bare(l)) {
			t.Errorf("P2.3: %q: %d, %d; %d tokens, then %d", s[:min(len(s), 50)], e, e2, len(l), len(l2))
		}
	}
}

func TestAnswersAreNewMemory(t *testing.T) {
	s := strings.Clone("var abc; abc = 1 <= é;")
	first, _, _ := Tokens(s)
	keep := slices.Clone(first)
	second, _, _ := Tokens(s)
	for i := range second[:cap(second)] {
		second[:cap(second)][i] = api.Token{Kind: -1}
	}
	third, _, _ := Tokens(s)
	if !slices.Equal(first, keep) || !slices.Equal(third, keep) {
		t.Errorf("P2.2: %v, %v; want %v", first, third, keep)
	}
	from := uintptr(unsafe.Pointer(unsafe.StringData(s)))
	for _, k := range first {
		if p := uintptr(unsafe.Pointer(unsafe.StringData(k.Text))); k.Text != "" && from <= p && p < from+uintptr(len(s)) {
			t.Errorf("P2.2: the text %q is a piece of the source", k.Text)
		}
	}
}
