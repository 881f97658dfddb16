package parse

import (
	"math"
	"slices"
	"strconv"
	"strings"
	"testing"

	"gnomon/api"
	"gnomon/lex"
)

// model: P4.1's grammar as a table; what may be missing or repeated has a rule of its own. A mark ^ is ahead of a thing within another one.
type model map[string][][]string

func newModel() model {
	m := model{}
	for sort, rows := range map[string]string{
		"program": "decls stmts",
		"decls":   " | decl decls",
		"stmts":   " | ^stmt stmts",
		"decl":    "var name ; | array name [ size ] ;",
		"stmt":    "name = expr ; | name [ ^expr ] = expr ; | if cond block other | while cond block | assert cond ; | assume cond ; | skip ;",
		"other":   " | else block",
		"block":   "{ stmts }",
		"cond":    "conj conjs",
		"conjs":   " | || conj conjs",
		"conj":    "lit lits",
		"lits":    " | && lit lits",
		"lit":     "true | false | ! ^lit | [ ^cond ] | expr rel expr",
		"rel":     "< | <= | == | != | > | >=",
		"expr":    "term terms",
		"terms":   " | + term terms | - term terms",
		"term":    "fact facts",
		"facts":   " | * fact facts | / fact facts | % fact facts",
		"fact":    "- ^fact | num | input | name | name [ ^expr ] | ( ^expr )",
	} {
		for row := range strings.SplitSeq(rows, " | ") {
			m[sort] = append(m[sort], strings.Fields(row))
		}
	}
	return m
}

// path: what must still follow, if what was read was read by these rows of the table.
type path struct {
	sort  string
	depth int
	then  *path
}

// start: the paths of a source; its outermost expression or condition is a thing at depth 1.
func start(sort string) []*path {
	if sort != program {
		sort = "^" + sort
	}
	return []*path{{sort: sort}}
}

// step goes all paths on by one token, and says at which error none is left: ErrParseDeep, where only those are that begin a thing too deep.
func (m model) step(l []*path, token string) ([]*path, api.Errno) {
	var within, beyond []*path
	for _, p := range l {
		m.follow(p, false, func(p *path, deep bool) {
			switch {
			case p == nil || !stands(p.sort, token):
			case deep:
				beyond = append(beyond, p.then)
			default:
				within = append(within, p.then)
			}
		})
	}
	switch {
	case len(within) > 0:
		return within, api.OK
	case len(beyond) > 0:
		return nil, api.ErrParseDeep
	}
	return nil, api.ErrParseWant
}

// follow shows all ways in which p goes on with a token, or ends (nil), and whether that token begins a thing at depth 41 or more.
func (m model) follow(p *path, deep bool, show func(*path, bool)) {
	if p == nil {
		show(nil, deep)
		return
	}
	sort, depth := p.sort, p.depth
	if inner, is := strings.CutPrefix(sort, "^"); is {
		sort, depth = inner, depth+1
		deep = deep || depth > 40
	}
	rows, is := m[sort]
	if !is {
		show(p, deep)
		return
	}
	for _, row := range rows {
		q := p.then
		for _, s := range slices.Backward(row) {
			q = &path{s, depth, q}
		}
		m.follow(q, deep, show)
	}
}

// ends: whether the source may end there.
func (m model) ends(l []*path) bool {
	over := false
	for _, p := range l {
		m.follow(p, false, func(p *path, _ bool) { over = over || p == nil })
	}
	return over
}

// stands: whether a token stands where the grammar has sort.
func stands(sort, token string) bool {
	n, err := strconv.ParseInt(token, 10, 64)
	switch sort {
	case "name":
		return lex.Name(token)
	case "num":
		return err == nil
	case "size":
		return err == nil && 1 <= n && n <= math.MaxInt32
	}
	return sort == token
}

// fault: which token of a list is the first one that can't stand there, and its error; behind the last one stands TokEnd.
func (m model) fault(sort string, tokens []string) (int, api.Errno) {
	l := start(sort)
	for i, k := range tokens {
		var e api.Errno
		l, e = m.step(l, k)
		if e != api.OK {
			return i, e
		}
	}
	if !m.ends(l) {
		return len(tokens), api.ErrParseWant
	}
	return 0, api.OK
}

// agree holds what an entry says of tokens, with something between them, against what the model says.
func (m model) agree(t *testing.T, sort string, tokens []string, between string) {
	t.Helper()
	i, e := m.fault(sort, tokens)
	m.same(t, sort, tokens, between, i, e)
}

func (m model) same(t *testing.T, sort string, tokens []string, between string, i int, e api.Errno) {
	t.Helper()
	s := strings.Join(tokens, between)
	got := ask(t, sort, s)
	var want api.Place
	if e != api.OK {
		want = placesOf(s)[i]
	}
	if got.at != want || got.e != e {
		t.Fatalf("P4.2: %s %q: %v, %d; want %v, %d", sort, s, got.at, got.e, want, e)
	}
	if e == api.OK && bare(got.text) != bare(strings.Join(tokens, "")) {
		t.Fatalf("P4.1: %s %q: %s", sort, s, got.text)
	}
}

// grow holds all lists of tokens that begin with some, have at most n more, and have no fault but at their last one, against the model, and tells how many there are.
func (m model) grow(t *testing.T, sort string, tokens []string, n int) int {
	t.Helper()
	l := start(sort)
	for _, k := range tokens {
		var e api.Errno
		if l, e = m.step(l, k); e != api.OK {
			t.Fatalf("%s %q can't begin so: %d", sort, tokens, e)
		}
	}
	return m.growFrom(t, sort, tokens, l, n)
}

func (m model) growFrom(t *testing.T, sort string, tokens []string, l []*path, n int) int {
	t.Helper()
	if m.ends(l) {
		m.same(t, sort, tokens, " ", 0, api.OK)
	} else {
		m.same(t, sort, tokens, " ", len(tokens), api.ErrParseWant)
	}
	count := 1
	if n == 0 {
		return count
	}
	for _, k := range alphabet() {
		more := append(slices.Clip(tokens), k)
		then, e := m.step(l, k)
		if e == api.OK {
			count += m.growFrom(t, sort, more, then, n-1)
			continue
		}
		m.same(t, sort, more, " ", len(tokens), e)
		count++
	}
	return count
}

// TestShortSources: of each short list of tokens, whatever the first fault in it is.
func TestShortSources(t *testing.T) {
	m := newModel()
	for _, c := range []struct {
		sort, head string
		n, least   int
	}{
		{program, "", 4, 20000}, {program, "array a [", 6, 5000}, {program, "if x < 1 { }", 4, 20000}, {program, "while x < 1 { skip ;", 4, 20000}, {program, "a [ x ] =", 3, 2000}, {program, "if true { } else {", 4, 20000},
		{expr, "", 4, 20000}, {expr, "x + a [ 1 ]", 4, 10000}, {expr, "( x", 4, 10000},
		{condition, "", 4, 50000}, {condition, "! [ x == 1", 4, 20000}, {condition, "x * 1 < a", 4, 20000},
	} {
		if n := m.grow(t, c.sort, strings.Fields(c.head), c.n); n < c.least {
			t.Errorf("only %d sources that begin with %q", n, c.head)
		}
	}
}

// TestEachTokenMissingOrAnother: each rule of the grammar whole, with each of its tokens missing, and with each other token ahead of it or in its place.
func TestEachTokenMissingOrAnother(t *testing.T) {
	m := newModel()
	for _, c := range []struct{ sort, s string }{
		{program, "var x ; var a ;"}, {program, "array a [ 1 ] ;"}, {program, "var x ; array a [ 2147483647 ] ; skip ;"},
		{program, "x = 1 ; x = a ;"}, {program, "a [ 0 ] = x ; a [ x ] = a [ 0 ] ;"}, {program, "skip ; skip ;"},
		{program, "if true { }"}, {program, "if false { skip ; } x = 1 ;"}, {program, "if x < 1 { } else { }"}, {program, "if true { x = 0 ; } else { skip ; skip ; } skip ;"},
		{program, "while true { }"}, {program, "while x >= 1 { skip ; x = 0 ; } skip ;"}, {program, "while true { if true { } else { while false { } } }"},
		{program, "assert true ; assert x == 1 ;"}, {program, "assume false ; assume x != 1 ;"},
		{condition, "true || false && true"}, {condition, "! ! x < 1"}, {condition, "[ true || false ] && ! [ x <= 1 ]"}, {condition, "x + 1 == a * 0 && a > x || 0 >= 1"},
		{expr, "x + 1 - a * 0 / x % 1"}, {expr, "- - 1 - - x"}, {expr, "input + a [ input ]"}, {expr, "( x ) * ( ( 1 - x ) )"}, {expr, "a [ a [ x + 1 ] ]"},
	} {
		l := strings.Fields(c.s)
		if i, e := m.fault(c.sort, l); i != 0 || e != api.OK {
			t.Fatalf("the model has %q for none: token %d, %d", c.s, i, e)
		}
		m.agree(t, c.sort, l, " ")
		for i := range l {
			m.agree(t, c.sort, l[:i], "\n")
			m.agree(t, c.sort, without(l, i), " ")
			for _, k := range alphabet() {
				m.agree(t, c.sort, instead(l, i, k), "\n ")
				m.agree(t, c.sort, ahead(l, i, k), " # ;\n")
			}
		}
	}
}
