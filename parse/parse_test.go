package parse

import (
	"slices"
	"strings"
	"testing"

	"gnomon/api"
)

func TestExamples(t *testing.T) {
	reads(t, program, "var x; x = 1 + 2 * x;", "var x;x=(1+(2*x));")
	wants(t, program, "x = ;", 5)
	reads(t, program, "assert x < 1 && [y < 2 || !true];", "assert [x<1&&[y<2||[!true]]];")
	reads(t, program, "if x < 1 { }", "if x<1{}")
	wants(t, program, "x = (1;", 7)
	wants(t, program, "x < 1;", 3)
	deep(t, program, "x = "+strings.Repeat("(", 41), 45)
	reads(t, program, "if x<1{x=1;}else{skip;}", "if x<1{x=1;}else{skip;}")
}

func TestNothing(t *testing.T) {
	for _, s := range []string{"", " ", "\n\n\t\r", "#", "# x = ;\n"} {
		reads(t, program, s, "")
	}
	for _, sort := range []string{expr, condition} {
		wants(t, sort, "", 1)
		wants(t, sort, "  ", 3)
		wants(t, sort, "# 1", 4)
		fault(t, sort, "\n #\n  ", 3, 3, api.ErrParseWant)
	}
}

func TestDeclarations(t *testing.T) {
	reads(t, program, "var x;", "var x;")
	reads(t, program, "array a[7];", "array a[7];")
	reads(t, program, "array a[1]; array b[2147483647];", "array a[1];array b[2147483647];")
	reads(t, program, "var x; array x[3]; var y; var x; skip;", "var x;array x[3];var y;var x;skip;")
	reads(t, program, "var é;array Ω_1[1024];", "var é;array Ω_1[1024];")
	for _, n := range []string{"0", "2147483648", "2147483649", "4294967296", "4294967297", "9223372036854775807"} {
		wants(t, program, "array a["+n+"];", 9)
		wants(t, program, "array a[1]; array b["+n+"", 21)
		wants(t, program, "array a["+n+" skip", 9)
	}
}

func TestExpressions(t *testing.T) {
	for _, c := range []struct{ s, want string }{
		{"0", "0"}, {"9223372036854775807", "9223372036854775807"}, {"2147483648", "2147483648"}, {"x", "x"}, {"input", "input"}, {"a[x]", "a[x]"}, {"-1", "(-1)"},
		{"1+x", "(1+x)"}, {"1-x", "(1-x)"}, {"1*x", "(1*x)"}, {"1/x", "(1/x)"}, {"1%x", "(1%x)"},
		{"1+2+3+4", "(((1+2)+3)+4)"}, {"1-2-3-4", "(((1-2)-3)-4)"}, {"1*2*3*4", "(((1*2)*3)*4)"}, {"1/2/3/4", "(((1/2)/3)/4)"}, {"1%2%3%4", "(((1%2)%3)%4)"},
		{"1-2+3-4", "(((1-2)+3)-4)"}, {"1*2/3%4*5", "((((1*2)/3)%4)*5)"}, {"1%2*3/4", "(((1%2)*3)/4)"},
		{"1+2*3", "(1+(2*3))"}, {"1*2+3", "((1*2)+3)"}, {"1-2/3-4", "((1-(2/3))-4)"}, {"1%2-3%4", "((1%2)-(3%4))"}, {"1*2+3*4-5/6", "(((1*2)+(3*4))-(5/6))"},
		{"(1+2)*3", "((1+2)*3)"}, {"1*(2+3)", "(1*(2+3))"}, {"1-(2-3)", "(1-(2-3))"}, {"1/(2*3)", "(1/(2*3))"}, {"(1)", "1"}, {"(((x)))", "x"}, {"(input)", "input"}, {"(1+2)", "(1+2)"},
		{"--1", "(-(-1))"}, {"---x", "(-(-(-x)))"}, {"-1+2", "((-1)+2)"}, {"-1*2", "((-1)*2)"}, {"-(1*2)", "(-(1*2))"}, {"-(1+2)", "(-(1+2))"}, {"1--2", "(1-(-2))"}, {"1+-2", "(1+(-2))"}, {"1*-2*3", "((1*(-2))*3)"}, {"1---2", "(1-(-(-2)))"}, {"-a[-1]", "(-a[(-1)])"}, {"-input", "(-input)"},
		{"a[0]", "a[0]"}, {"a[1+2]", "a[(1+2)]"}, {"a[a[a[x]]]", "a[a[a[x]]]"}, {"a[(x)]", "a[x]"}, {"a[1]+b[2]*c[3]", "(a[1]+(b[2]*c[3]))"}, {"a [ 1 ]", "a[1]"}, {"é[Ω]", "é[Ω]"},
		{"input-input", "(input-input)"}, {"inputs", "inputs"}, {"x-1", "(x-1)"}, {"x -1", "(x-1)"}, {"9223372036854775807*9223372036854775807", "(9223372036854775807*9223372036854775807)"},
	} {
		reads(t, expr, c.s, c.want)
		reads(t, expr, " # -\n"+c.s+"\n#", c.want)
		reads(t, program, "x = "+c.s+";", "x="+c.want+";")
		reads(t, program, "a["+c.s+"] = "+c.s+";", "a["+c.want+"]="+c.want+";")
		reads(t, condition, c.s+" < "+c.s, c.want+"<"+c.want)
		reads(t, expr, "b[("+c.s+")]", "b["+c.want+"]")
	}
}

func TestConditions(t *testing.T) {
	for _, c := range []struct{ s, want string }{
		{"true", "true"}, {"false", "false"}, {"x<1", "x<1"}, {"x<=1", "x<=1"}, {"x==1", "x==1"}, {"x!=1", "x!=1"}, {"x>1", "x>1"}, {"x>=1", "x>=1"},
		{"!true", "[!true]"}, {"!!false", "[![!false]]"}, {"!x<1", "[!x<1]"}, {"![x<1]", "[!x<1]"}, {"!!!x!=1", "[![![!x!=1]]]"}, {"!-x<-1", "[!(-x)<(-1)]"},
		{"true&&false", "[true&&false]"}, {"true||false", "[true||false]"},
		{"1<2&&3<4&&5<6&&true", "[[[1<2&&3<4]&&5<6]&&true]"}, {"1<2||3<4||5<6||true", "[[[1<2||3<4]||5<6]||true]"},
		{"true||false&&1<2", "[true||[false&&1<2]]"}, {"true&&false||1<2", "[[true&&false]||1<2]"}, {"1<2||3<4&&5<6||7<8&&9<0", "[[1<2||[3<4&&5<6]]||[7<8&&9<0]]"},
		{"[true||false]&&1<2", "[[true||false]&&1<2]"}, {"true&&[false||1<2]", "[true&&[false||1<2]]"}, {"true&&[false&&1<2]", "[true&&[false&&1<2]]"}, {"true||[false||1<2]", "[true||[false||1<2]]"},
		{"[true]", "true"}, {"[[x<1]]", "x<1"}, {"[[[false]]]", "false"}, {"![true&&false]||true", "[[![true&&false]]||true]"}, {"!true&&false", "[[!true]&&false]"}, {"!true||!false", "[[!true]||[!false]]"}, {"true&&!false", "[true&&[!false]]"},
		{"x+1<2*y", "(x+1)<(2*y)"}, {"(x)<(1)", "x<1"}, {"(x+1)*2==-y", "((x+1)*2)==(-y)"}, {"a[x]<a[x+1]", "a[x]<a[(x+1)]"}, {"input!=input", "input!=input"}, {"-1<--1", "(-1)<(-(-1))"}, {"(1)+(2)>=a[0]", "(1+2)>=a[0]"},
		{"[a[1]<2]", "a[1]<2"}, {"[[a[1]<2]&&a[b[0]]==1]", "[a[1]<2&&a[b[0]]==1]"},
	} {
		reads(t, condition, c.s, c.want)
		reads(t, condition, " #!\n "+c.s+" #", c.want)
		reads(t, condition, "["+c.s+"]", c.want)
		reads(t, condition, "!["+c.s+"]", "[!"+c.want+"]")
		for _, w := range []string{"assert", "assume"} {
			reads(t, program, w+" "+c.s+";", w+" "+c.want+";")
		}
		reads(t, program, "if "+c.s+"{}", "if "+c.want+"{}")
		reads(t, program, "while "+c.s+"{}", "while "+c.want+"{}")
	}
}

func TestStatements(t *testing.T) {
	for _, c := range []struct{ s, want string }{
		{"skip;", "skip;"}, {"x=1;", "x=1;"}, {"a[0]=1;", "a[0]=1;"}, {"a[x+1]=a[x]-1;", "a[(x+1)]=(a[x]-1);"}, {"assert true;", "assert true;"}, {"assume x<1;", "assume x<1;"},
		{"if true{}", "if true{}"}, {"if true{skip;}", "if true{skip;}"}, {"if true{skip;x=1;skip;}", "if true{skip;x=1;skip;}"}, {"if true{}else{}", "if true{}"}, {"if true{skip;}else{}", "if true{skip;}"}, {"if true{}else{skip;}", "if true{}else{skip;}"}, {"if x<1{x=1;skip;}else{skip;x=2;}", "if x<1{x=1;skip;}else{skip;x=2;}"},
		{"while true{}", "while true{}"}, {"while x<1{x=x+1;skip;}", "while x<1{x=(x+1);skip;}"},
		{"if true{if false{}else{skip;}}", "if true{if false{}else{skip;}}"}, {"if true{if false{skip;}}else{x=1;}", "if true{if false{skip;}}else{x=1;}"}, {"if true{}else{if false{}else{skip;}}", "if true{}else{if false{}else{skip;}}"},
		{"while true{while false{}if true{}}", "while true{while false{}if true{}}"}, {"if true{while false{skip;}}else{assert 1<2;assume 3<4;}", "if true{while false{skip;}}else{assert 1<2;assume 3<4;}"},
		{"varx=1;", "varx=1;"}, {"If=1;", "If=1;"}, {"Ω=é;", "Ω=é;"},
	} {
		reads(t, program, c.s, c.want)
		reads(t, program, c.s+c.s, c.want+c.want)
		reads(t, program, "var x;"+c.s+"skip;", "var x;"+c.want+"skip;")
		reads(t, program, "while true{"+c.s+c.s+"}", "while true{"+c.want+c.want+"}")
		reads(t, program, "if true{"+c.s+"}else{"+c.s+"}"+c.s, "if true{"+c.want+"}else{"+c.want+"}"+c.want)
	}
}

// TestFields: that all fields which the tree's form leaves open, and those that have several meanings, are as api has them.
func TestFields(t *testing.T) {
	p, _, _ := Parse("var x; array a[7]; if true { } a[x] = 3;")
	if !slices.Equal(p.Decls, []api.Decl{{Name: "x"}, {Name: "a", Size: 7}}) || len(p.Body) != 2 {
		t.Fatalf("P4.1: %v", p)
	}
	branch, store := p.Body[0], p.Body[1]
	if branch.Kind != api.SIf || len(branch.Then) != 0 || len(branch.Else) != 0 || len(branch.Conds) != 1 || branch.Conds[0].Kind != api.CTrue {
		t.Errorf("P4.1: %v", branch)
	}
	if store.Kind != api.SStore || store.Name != "a" || len(store.Exprs) != 2 || store.Exprs[0].Kind != api.EVar || store.Exprs[0].Name != "x" || store.Exprs[1].Kind != api.ENum || store.Exprs[1].Num != 3 {
		t.Errorf("P4.1: %v", store)
	}
	for op, sign := range []string{api.OpLt: "<", api.OpLe: "<=", api.OpEq: "==", api.OpNe: "!=", api.OpGt: ">", api.OpGe: ">="} {
		if c, _, _ := Cond("x " + sign + " 1"); sign != "" && (c.Kind != api.CCmp || c.Op != op || len(c.Exprs) != 2 || c.Exprs[0].Name != "x" || c.Exprs[1].Num != 1) {
			t.Errorf("P4.1: %s: %v", sign, c)
		}
	}
	for kind, sign := range []string{api.EAdd: "+", api.ESub: "-", api.EMul: "*", api.EDiv: "/", api.ERem: "%"} {
		if e, _, _ := Expr("x " + sign + " 1"); sign != "" && (e.Kind != kind || len(e.Args) != 2 || e.Args[0].Name != "x" || e.Args[1].Num != 1) {
			t.Errorf("P4.1: %s: %v", sign, e)
		}
	}
}
