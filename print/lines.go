package print

import (
	"strconv"

	"gnomon/api"
)

// lines: the text of declarations and statements that have their form, as far as it is written.
type lines struct {
	writer
	blocks int // that the line stands within
}

func (l *lines) prog(p api.Prog) {
	for _, d := range p.Decls {
		l.decl(d)
	}
	l.stmts(p.Body)
}

func (l *lines) decl(d api.Decl) {
	if d.Size == 0 {
		l.line("var ", d.Name, ";")
		return
	}
	l.line("array ", d.Name, "[", strconv.Itoa(d.Size), "];")
}

func (l *lines) stmts(list []api.Stmt) {
	for _, s := range list {
		l.stmt(s)
	}
}

func (l *lines) stmt(s api.Stmt) {
	switch s.Kind {
	case api.SAssign:
		l.begin(s.Name)
		l.given(s.Exprs[0])
	case api.SStore:
		l.begin()
		l.item(s.Name, s.Exprs[0])
		l.given(s.Exprs[1])
	case api.SIf:
		l.asked("if ", s.Conds[0], " {")
		l.branches(s)
	case api.SWhile:
		l.asked("while ", s.Conds[0], " {")
		l.branches(s)
	case api.SAssert:
		l.asked("assert ", s.Conds[0], ";")
	case api.SAssume:
		l.asked("assume ", s.Conds[0], ";")
	default:
		l.line("skip;")
	}
}

// branches writes what stands behind the first line of a statement with blocks; a loop's Else is empty, by its form.
func (l *lines) branches(s api.Stmt) {
	l.block(s.Then)
	if len(s.Else) > 0 {
		l.line("} else {")
		l.block(s.Else)
	}
	l.line("}")
}

func (l *lines) block(list []api.Stmt) {
	l.blocks++
	l.stmts(list)
	l.blocks--
}

// given writes the end of a line that gives a value.
func (l *lines) given(e api.Expr) {
	l.WriteString(" = ")
	l.expr(e)
	l.end(";")
}

// asked writes a line with a condition.
func (l *lines) asked(word string, c api.Cond, behind string) {
	l.begin(word)
	l.cond(c)
	l.end(behind)
}

func (l *lines) line(parts ...string) {
	l.begin(parts...)
	l.end("")
}

// begin writes the blanks ahead of a line, and what the line begins with.
func (l *lines) begin(parts ...string) {
	for range l.blocks {
		l.WriteString("  ")
	}
	for _, s := range parts {
		l.WriteString(s)
	}
}

func (l *lines) end(s string) {
	l.WriteString(s)
	l.WriteString("\n")
}
