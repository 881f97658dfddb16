package parse

import (
	"reflect"
	"strings"
	"testing"
	"unsafe"

	"gnomon/api"
)

// piece: where some memory lies, from its first byte to behind its last one.
type piece struct{ from, to uintptr }

func (p piece) meets(q piece) bool { return p.from < q.to && q.from < p.to }

// pieces shows the memory of each list that v holds, its spare room included, and that of each text.
func pieces(v reflect.Value, lists, texts func(piece)) {
	switch v.Kind() {
	case reflect.Struct:
		for i := range v.NumField() {
			pieces(v.Field(i), lists, texts)
		}
	case reflect.Slice:
		lists(piece{v.Pointer(), v.Pointer() + uintptr(v.Cap())*v.Type().Elem().Size()})
		for i := range v.Len() {
			pieces(v.Index(i), lists, texts)
		}
	case reflect.String:
		texts(pieceOf(v.String()))
	}
}

func pieceOf(s string) piece {
	from := uintptr(unsafe.Pointer(unsafe.StringData(s)))
	return piece{from, from + uintptr(len(s))}
}

const long = "var x; array y[3]; if x < 1 && !true { x = -input + y[x]; while [true || x == 2] { skip; skip; skip; } } else { y[1] = x * 2; assert false; } assume (x) != 2; skip; skip;"

// TestAnswersAreNewMemory: no two lists of one answer, or of two, share any; no text is a piece of the source.
func TestAnswersAreNewMemory(t *testing.T) {
	source := strings.Clone(long)
	p, _, _ := Parse(source)
	q, _, _ := Parse(source)
	e, _, _ := Expr("x + y[x] * -(input - 1)")
	c, _, _ := Cond("[x < 1 || true] && !false")
	var lists []piece
	for _, v := range []any{p, q, e, c} {
		pieces(reflect.ValueOf(v), func(one piece) {
			for _, other := range lists {
				if one.meets(other) {
					t.Fatal("P4.1: two lists share memory")
				}
			}
			lists = append(lists, one)
		}, func(text piece) {
			if text.meets(pieceOf(source)) {
				t.Error("P4.1: a text is a piece of the source")
			}
		})
	}
	if len(lists) < 100 {
		t.Errorf("only %d lists were met", len(lists))
	}
}

// TestAnswersStay: an answer is what it was, whatever is read or changed behind it.
func TestAnswersStay(t *testing.T) {
	p, _, _ := Parse(long)
	want := progText(p)
	q, _, _ := Parse(long)
	Parse("x = ;")
	Parse("\xff")
	clear(q.Body[0].Then[:cap(q.Body[0].Then)])
	clear(q.Decls[:cap(q.Decls)])
	clear(q.Body[:cap(q.Body)])
	if got := progText(p); got != want {
		t.Errorf("P4.1: %s; then %s", want, got)
	}
	reads(t, program, long, want)
}

// TestParseEnds: whatever the bytes are, each entry ends, with a tree or with an error and its place.
func TestParseEnds(t *testing.T) {
	for _, part := range []string{"\xff", "\x00", "\n", " ", "#", "\"", "é", "×", "(", ")", "[", "]", "{", "}", "-", "!", "!=", "+", "1", "0 ", "x", "x ", "a[", "1+", "1<", "true&&", "true ", "!!true||", "if true{", "while 1<1{", "else{", "var x;", "array a[1];", "skip;", "x=1;", "assert true;", "x=(", "x=-", "if ![", "if true{}else{", ";", "=", "<", "&", "&&", "|", "input"} {
		for _, n := range []int{1, 2, 39, 40, 41, 64, 5000, api.MaxText / len(part), api.MaxText/len(part) + 1} {
			s := strings.Repeat(part, n)
			for _, sort := range []string{program, expr, condition} {
				got := ask(t, sort, s)
				if (got.e == api.OK) != (got.at == api.Place{}) {
					t.Fatalf("P4.5: %s of %d %q: %v, %d", sort, n, part, got.at, got.e)
				}
			}
		}
	}
}
