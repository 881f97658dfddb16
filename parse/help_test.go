package parse

import (
	"reflect"
	"slices"
	"strconv"
	"strings"
	"testing"

	"gnomon/api"
	"gnomon/lex"
	"gnomon/tree"
)

// sources: one that an entry of this package takes, as P4.1's grammar names it.
const (
	program   = "program"
	expr      = "expr"
	condition = "cond"
)

// answer: what one of the three entries told, the tree as a text with parentheses and brackets around all that has parts.
type answer struct {
	text string
	at   api.Place
	e    api.Errno
}

// ask gives s to the entry that reads such a source, and says so if what it told isn't a tree, or stands beside an error.
func ask(t *testing.T, sort, s string) answer {
	t.Helper()
	switch sort {
	case expr:
		v, at, e := Expr(s)
		return told(t, s, v, exprText, tree.Expr(v), at, e)
	case condition:
		v, at, e := Cond(s)
		return told(t, s, v, condText, tree.Cond(v), at, e)
	}
	v, at, e := Parse(s)
	return told(t, s, v, progText, tree.Check(v), at, e)
}

func told[T any](t *testing.T, s string, v T, text func(T) string, form api.Errno, at api.Place, e api.Errno) answer {
	t.Helper()
	if e != api.OK {
		if !reflect.ValueOf(v).IsZero() {
			t.Fatalf("P4.2: %.60q: something beside error %d", s, e)
		}
		return answer{"", at, e}
	}
	if form != api.OK {
		t.Fatalf("P4.5: %.60q: tree.Check: %d", s, form)
	}
	return answer{text(v), at, e}
}

func exprText(e api.Expr) string {
	switch e.Kind {
	case api.ENum:
		return strconv.FormatInt(e.Num, 10)
	case api.EVar:
		return e.Name
	case api.EInput:
		return "input"
	case api.EItem:
		return e.Name + "[" + exprText(e.Args[0]) + "]"
	case api.ENeg:
		return "(-" + exprText(e.Args[0]) + ")"
	}
	sign := map[int]string{api.EAdd: "+", api.ESub: "-", api.EMul: "*", api.EDiv: "/", api.ERem: "%"}[e.Kind]
	return "(" + exprText(e.Args[0]) + sign + exprText(e.Args[1]) + ")"
}

func condText(c api.Cond) string {
	switch c.Kind {
	case api.CTrue:
		return "true"
	case api.CFalse:
		return "false"
	case api.CNot:
		return "[!" + condText(c.Parts[0]) + "]"
	case api.CCmp:
		sign := map[int]string{api.OpLt: "<", api.OpLe: "<=", api.OpEq: "==", api.OpNe: "!=", api.OpGt: ">", api.OpGe: ">="}[c.Op]
		return exprText(c.Exprs[0]) + sign + exprText(c.Exprs[1])
	}
	sign := map[int]string{api.CAnd: "&&", api.COr: "||"}[c.Kind]
	return "[" + condText(c.Parts[0]) + sign + condText(c.Parts[1]) + "]"
}

func blockText(l []api.Stmt) string {
	s := ""
	for _, x := range l {
		s += stmtText(x)
	}
	return "{" + s + "}"
}

func stmtText(s api.Stmt) string {
	switch s.Kind {
	case api.SAssign:
		return s.Name + "=" + exprText(s.Exprs[0]) + ";"
	case api.SStore:
		return s.Name + "[" + exprText(s.Exprs[0]) + "]=" + exprText(s.Exprs[1]) + ";"
	case api.SIf:
		other := ""
		if len(s.Else) > 0 {
			other = "else" + blockText(s.Else)
		}
		return "if " + condText(s.Conds[0]) + blockText(s.Then) + other
	case api.SWhile:
		return "while " + condText(s.Conds[0]) + blockText(s.Then)
	case api.SAssert:
		return "assert " + condText(s.Conds[0]) + ";"
	case api.SAssume:
		return "assume " + condText(s.Conds[0]) + ";"
	}
	return "skip;"
}

func progText(p api.Prog) string {
	s := ""
	for _, d := range p.Decls {
		if d.Size == 0 {
			s += "var " + d.Name + ";"
		} else {
			s += "array " + d.Name + "[" + strconv.Itoa(d.Size) + "];"
		}
	}
	body := blockText(p.Body)
	return s + body[1:len(body)-1]
}

// reads holds a source of a sort against its tree.
func reads(t *testing.T, sort, s, want string) {
	t.Helper()
	if got := ask(t, sort, s); got != (answer{text: want}) {
		t.Errorf("P4.1: %s %.60q: %+v, want %s", sort, s, got, want)
	}
}

// takes: a source of a sort that is one, whatever its tree is.
func takes(t *testing.T, sort, s string) {
	t.Helper()
	if got := ask(t, sort, s); got.at != (api.Place{}) || got.e != api.OK {
		t.Errorf("P4.1: %s %.60q: %v, %d", sort, s, got.at, got.e)
	}
}

// fault holds a source of a sort against its error, and its place.
func fault(t *testing.T, sort, s string, line, col int, want api.Errno) {
	t.Helper()
	if got := ask(t, sort, s); got != (answer{"", api.Place{Line: line, Col: col}, want}) {
		t.Errorf("P4.2: %s %.60q..: %+v, want %d, %d, %d", sort, s, got, line, col, want)
	}
}

// wants: a source of one line at which something else is wanted at a column.
func wants(t *testing.T, sort, s string, col int) {
	t.Helper()
	fault(t, sort, s, 1, col, api.ErrParseWant)
}

// deep: a source of one line that goes too deep at a column.
func deep(t *testing.T, sort, s string, col int) {
	t.Helper()
	fault(t, sort, s, 1, col, api.ErrParseDeep)
}

// placesOf: where the tokens of s stand, TokEnd's place last.
func placesOf(s string) []api.Place {
	tokens, _, _ := lex.Tokens(s)
	var l []api.Place
	for _, k := range tokens {
		l = append(l, k.At)
	}
	return l
}

// alphabet: tokens of all kinds that the grammar tells apart, and the nums at which a declaration's turns.
func alphabet() []string {
	return strings.Fields("var array if else while assert assume skip input true false x a 0 1 2147483647 2147483648 ; { } ( ) [ ] = ! < <= == != > >= + - * / % && || ,")
}

// bare leaves of a text what no grouping has put there.
func bare(s string) string {
	return strings.NewReplacer("(", "", ")", "", "[", "", "]", "", " ", "", "else{}", "").Replace(s)
}

// without, instead and ahead: other lists, of one item less, of another one in its place, of one more ahead of it.
func without(l []string, i int) []string { return slices.Concat(l[:i], l[i+1:]) }

func instead(l []string, i int, s string) []string {
	return slices.Concat(l[:i], []string{s}, l[i+1:])
}

func ahead(l []string, i int, s string) []string {
	return slices.Concat(l[:i], []string{s}, l[i:])
}
