package print

import (
	"math"
	"math/rand/v2"
	"strconv"
	"strings"
	"testing"

	"gnomon/api"
	"gnomon/parse"
	"gnomon/tree"
)

// shape: the text of a kind with two parts, P and Q, and the level below which each of them is wrapped.
type shape struct {
	text        string
	own, first  int
	second      int
	open, close string
}

func exprShapes() map[int]shape {
	return map[int]shape{
		api.ENum: {text: "#", own: 4}, api.EVar: {text: "N", own: 4}, api.EInput: {text: "input", own: 4}, api.EItem: {text: "N[P]", own: 4},
		api.ENeg: {"-P", 3, 3, 0, "(", ")"}, api.EAdd: {"P + Q", 1, 1, 2, "(", ")"}, api.ESub: {"P - Q", 1, 1, 2, "(", ")"},
		api.EMul: {"P * Q", 2, 2, 3, "(", ")"}, api.EDiv: {"P / Q", 2, 2, 3, "(", ")"}, api.ERem: {"P % Q", 2, 2, 3, "(", ")"},
	}
}

func condShapes() map[int]shape {
	return map[int]shape{
		api.CTrue: {text: "true", own: 3}, api.CFalse: {text: "false", own: 3}, api.CCmp: {text: "P ? Q", own: 3},
		api.CNot: {"!P", 3, 3, 0, "[", "]"}, api.CAnd: {"P && Q", 2, 2, 3, "[", "]"}, api.COr: {"P || Q", 1, 1, 2, "[", "]"},
	}
}

// piece: a text and its level.
type piece struct {
	text  string
	level int
}

// model writes trees by their shapes: canonically, or, by the chances of loose, with parentheses and brackets that nothing asks for.
type model struct {
	exprs, conds map[int]shape
	loose        *grower
}

func newModel() model { return model{exprShapes(), condShapes(), nil} }

func (m model) fill(s shape, parts []piece, name, number, op string) piece {
	wrap := func(i, least int) string {
		if i >= len(parts) {
			return ""
		}
		text := parts[i].text
		if parts[i].level < least {
			text = s.open + text + s.close
		}
		return text
	}
	return piece{strings.NewReplacer("N", name, "#", number, "?", op, "P", wrap(0, s.first), "Q", wrap(1, s.second)).Replace(s.text), s.own}
}

func (m model) expr(e api.Expr) piece {
	var parts []piece
	for _, a := range e.Args {
		parts = append(parts, m.expr(a))
	}
	return m.looser(m.fill(m.exprs[e.Kind], parts, e.Name, strconv.FormatInt(e.Num, 10), ""), "(", ")")
}

func (m model) cond(c api.Cond) piece {
	var parts []piece
	for _, e := range c.Exprs {
		parts = append(parts, m.expr(e))
	}
	for _, p := range c.Parts {
		parts = append(parts, m.cond(p))
	}
	op := strings.Fields("- < <= == != > >=")[c.Op]
	return m.looser(m.fill(m.conds[c.Kind], parts, "", "", op), "[", "]")
}

// looser: p, or p wrapped though nothing asks for it.
func (m model) looser(p piece, open, shut string) piece {
	for m.loose != nil && m.loose.IntN(8) == 0 {
		p = piece{open + p.text + shut, 9}
	}
	return p
}

// stmt: the lines of a statement.
func (m model) stmt(s api.Stmt) []string {
	var parts []string
	for _, e := range s.Exprs {
		parts = append(parts, m.expr(e).text)
	}
	for _, c := range s.Conds {
		parts = append(parts, m.cond(c).text)
	}
	switch s.Kind {
	case api.SAssign:
		return []string{s.Name + " = " + parts[0] + ";"}
	case api.SStore:
		return []string{s.Name + "[" + parts[0] + "] = " + parts[1] + ";"}
	case api.SAssert:
		return []string{"assert " + parts[0] + ";"}
	case api.SAssume:
		return []string{"assume " + parts[0] + ";"}
	case api.SSkip:
		return []string{"skip;"}
	}
	word := map[int]string{api.SIf: "if ", api.SWhile: "while "}[s.Kind]
	l := append([]string{word + parts[0] + " {"}, m.indented(s.Then)...)
	if len(s.Else) > 0 {
		l = append(append(l, "} else {"), m.indented(s.Else)...)
	}
	return append(l, "}")
}

func (m model) indented(l []api.Stmt) []string {
	var all []string
	for _, s := range l {
		for _, line := range m.stmt(s) {
			all = append(all, "  "+line)
		}
	}
	return all
}

func (m model) prog(p api.Prog) string {
	var all []string
	for _, d := range p.Decls {
		if d.Size > 0 {
			all = append(all, "array "+d.Name+"["+strconv.Itoa(d.Size)+"];")
		} else {
			all = append(all, "var "+d.Name+";")
		}
	}
	for _, s := range p.Body {
		all = append(all, m.stmt(s)...)
	}
	return strings.Join(append(all, ""), "\n")
}

// grower makes trees, the same ones in each run.
type grower struct{ *rand.Rand }

func newGrower(seed uint64) *grower { return &grower{rand.New(rand.NewPCG(seed, 5))} }

func (g *grower) name() string {
	return []string{"x", "y2", "é", "_", "ifs", "true_"}[g.IntN(6)]
}

func (g *grower) number() int64 {
	return []int64{0, 1, g.Int64N(100), g.Int64(), math.MaxInt64}[g.IntN(5)]
}

func (g *grower) expr(depth int) api.Expr {
	kind := 1 + g.IntN(api.ERem)
	if depth <= 1 {
		kind = 1 + g.IntN(api.EInput)
	}
	next := func() api.Expr { return g.expr(depth - 1 - g.IntN(2)) }
	switch kind {
	case api.ENum:
		return num(g.number())
	case api.EVar:
		return vari(g.name())
	case api.EInput:
		return input()
	case api.EItem:
		return item(g.name(), next())
	case api.ENeg:
		return neg(next())
	}
	return two(kind, next(), next())
}

func (g *grower) cond(depth int) api.Cond {
	kind := 1 + g.IntN(api.COr)
	if depth <= 1 {
		kind = 1 + g.IntN(api.CCmp)
	}
	next := func() api.Cond { return g.cond(depth - 1 - g.IntN(2)) }
	switch kind {
	case api.CTrue:
		return yes()
	case api.CFalse:
		return no()
	case api.CCmp:
		return cmp(g.expr(g.IntN(4)), 1+g.IntN(api.OpGe), g.expr(g.IntN(4)))
	case api.CNot:
		return not(next())
	}
	return both(kind, next(), next())
}

func (g *grower) stmt(depth int) api.Stmt {
	kind := 1 + g.IntN(api.SSkip)
	if depth > 1 && g.IntN(2) == 0 {
		kind = api.SIf + g.IntN(2)
	}
	switch kind {
	case api.SAssign:
		return assign(g.name(), g.expr(g.IntN(6)))
	case api.SStore:
		return store(g.name(), g.expr(g.IntN(5)), g.expr(g.IntN(5)))
	case api.SAssert, api.SAssume:
		return asks(kind, g.cond(g.IntN(6)))
	case api.SIf:
		return choice(g.cond(g.IntN(4)), g.block(depth-1), g.block(depth-1))
	case api.SWhile:
		return loop(g.cond(g.IntN(4)), g.block(depth-1)...)
	}
	return skip()
}

func (g *grower) block(depth int) []api.Stmt {
	var l []api.Stmt
	for range g.IntN(4) {
		if depth > 0 {
			l = append(l, g.stmt(depth))
		}
	}
	return l
}

func (g *grower) prog() api.Prog {
	var p api.Prog
	for range g.IntN(4) {
		p.Decls = append(p.Decls, api.Decl{Name: g.name(), Size: []int{0, 0, 1, g.IntN(2000), math.MaxInt32}[g.IntN(5)]})
	}
	p.Body = g.block(1 + g.IntN(5))
	return p
}

// TestGrown: trees of all sorts against the model, and there and back.
func TestGrown(t *testing.T) {
	m, g := newModel(), newGrower(1)
	bytes := 0
	for range 4000 {
		e, c, p := g.expr(1+g.IntN(9)), g.cond(1+g.IntN(8)), g.prog()
		exprWrites(t, e, m.expr(e).text)
		condWrites(t, c, m.cond(c).text)
		if !exprReads(m.expr(e).text, e) || !condReads(m.cond(c).text, c) {
			t.Errorf("P5.4: %s, %s: another tree", m.expr(e).text, m.cond(c).text)
		}
		if tree.Check(p) != api.OK {
			continue
		}
		want := m.prog(p)
		got, f := Print(p)
		writes(t, "P5.3", got, f, want)
		if f := goesBack(t, p); f != api.OK {
			t.Errorf("P5.4: %.300q: %d", want, f)
		}
		bytes += len(want)
	}
	if bytes < 1000000 {
		t.Errorf("only %d bytes were written", bytes)
	}
}

// spaced: s with other blanks, line feeds and comments where it has one.
func (g *grower) spaced(s string) string {
	var b strings.Builder
	for _, c := range s {
		if c == ' ' || c == '\n' {
			b.WriteString([]string{" ", "\n", "\t ", "\r\n", " # (x] {\n"}[g.IntN(5)])
		} else {
			b.WriteRune(c)
		}
	}
	return b.String()
}

// TestGrownSources: sources with more parentheses and brackets than needed, and anything between their tokens, have the canonical text of their tree.
func TestGrownSources(t *testing.T) {
	g := newGrower(2)
	strict, loose := newModel(), newModel()
	loose.loose = g
	read := 0
	for range 2000 {
		p := g.prog()
		source := g.spaced(loose.prog(p))
		if _, _, e := parse.Parse(source); e == api.OK {
			isWritten(t, source, strict.prog(p))
			read++
		}
	}
	if read < 1900 {
		t.Errorf("only %d sources were read", read)
	}
}

// TestGrownDeep: programs so deep that not all of them are read back.
func TestGrownDeep(t *testing.T) {
	m, g := newModel(), newGrower(3)
	count := map[api.Errno]int{}
	for range 500 {
		s := g.stmt(4)
		for range 25 + g.IntN(25) {
			switch g.IntN(3) {
			case 0:
				s = loop(g.cond(3), s)
			case 1:
				s = choice(g.cond(3), []api.Stmt{s, skip()}, nil)
			default:
				s = choice(g.cond(3), nil, []api.Stmt{assign("x", g.expr(3)), s})
			}
		}
		p := body(s)
		if tree.Check(p) != api.OK {
			continue
		}
		got, f := Print(p)
		writes(t, "P5.3", got, f, m.prog(p))
		count[goesBack(t, p)]++
	}
	if count[api.OK] < 100 || count[api.ErrParseDeep] < 100 {
		t.Errorf("unlike what was meant: %v", count)
	}
}

// spoil changes one thing in a statement of l, whether or not it is a tree then.
func (g *grower) spoil(l []api.Stmt) {
	s := &l[g.IntN(len(l))]
	switch g.IntN(9) {
	case 0:
		s.Kind = g.IntN(10) - 1
	case 1:
		s.Name = []string{"", "x", "if", "\xff"}[g.IntN(4)]
	case 2:
		s.Then = append(s.Then, skip())
	case 3:
		s.Conds = append(s.Conds, g.cond(2))
	case 4:
		s.Exprs = append(s.Exprs, g.expr(2))
	case 5:
		s.Else = []api.Stmt{g.stmt(1)}
	default:
		for i := range s.Exprs {
			s.Exprs[i] = []api.Expr{{Kind: g.IntN(12)}, num(-1), vari("if"), two(g.IntN(12), num(1), num(1))}[g.IntN(4)]
		}
		for i := range s.Conds {
			s.Conds[i] = []api.Cond{{Kind: g.IntN(8)}, cmp(num(1), g.IntN(8), num(1)), both(g.IntN(8), yes(), no())}[g.IntN(3)]
		}
	}
}

// TestGrownWrong: Print tells tree.Check's error of whatever it is, and writes all that is a tree.
func TestGrownWrong(t *testing.T) {
	m, g := newModel(), newGrower(4)
	count := map[api.Errno]int{}
	for range 5000 {
		p := body(g.stmt(3), g.stmt(2))
		g.spoil(p.Body)
		want := tree.Check(p)
		count[want]++
		if want != api.OK {
			refuses(t, "a spoiled program", p, want)
			continue
		}
		got, f := Print(p)
		writes(t, "P5.3", got, f, m.prog(p))
	}
	if count[api.OK] < 300 || count[api.ErrTreeForm] < 1000 || count[api.ErrTreeName] < 100 {
		t.Errorf("unlike what was meant: %v", count)
	}
}
