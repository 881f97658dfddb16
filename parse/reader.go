package parse

import (
	"gnomon/api"
)

// deepest: at which depth the innermost of things within one another may be.
const deepest = 40

// reader: the tokens that aren't read yet, up to the first fault. What is read beside a fault has no meaning.
type reader struct {
	rest  []api.Token
	depth int // of the thing that is being read
	fault api.Errno
	at    api.Place // of the fault
}

// next is the token that is read next; one that is nothing, if a fault ended the reading.
func (r *reader) next() api.Token {
	if len(r.rest) == 0 {
		return api.Token{}
	}
	return r.rest[0]
}

// take goes on behind the next token.
func (r *reader) take() api.Token {
	t := r.next()
	r.rest = r.rest[min(1, len(r.rest)):]
	return t
}

// fail keeps the first fault, which lies at the next token. No token is left then, so that whatever still reads finds nothing to go on with, and ends.
func (r *reader) fail(e api.Errno) {
	if r.fault == api.OK && e != api.OK {
		r.fault, r.at = e, r.next().At
		r.rest = nil
	}
}

// sees: whether the next token is that word or sign. Its text tells: no name and no number is like one.
func (r *reader) sees(text string) bool { return r.next().Text == text }

// want goes on behind that word or sign.
func (r *reader) want(text string) {
	if !r.sees(text) {
		r.fail(api.ErrParseWant)
		return
	}
	r.take()
}

func (r *reader) name() string {
	if r.next().Kind != api.TokName {
		r.fail(api.ErrParseWant)
		return ""
	}
	return r.take().Text
}

// begun reads what read reads; nil: the next token can't begin it.
func begun[T any](r *reader, read func() T) T {
	if read == nil {
		var none T
		r.fail(api.ErrParseWant)
		return none
	}
	return read()
}

// inner is begun of a thing within another one, or within the source.
func inner[T any](r *reader, read func() T) T {
	if read != nil && r.depth == deepest {
		var none T
		r.fail(api.ErrParseDeep)
		return none
	}
	r.depth++
	v := begun(r, read)
	r.depth--
	return v
}

// chain: a rule of the grammar by which parts follow one another.
type chain[T any] struct {
	part func() T
	kind func(sign string) int // of what a sign between two parts makes; 0: it stands between none
	join func(kind int, left, right T) T
}

// read reads the parts and puts them together from the left.
func (c chain[T]) read(r *reader) T {
	left := c.part()
	for kind := c.kind(r.next().Text); kind != 0; kind = c.kind(r.next().Text) {
		r.take()
		right := c.part()
		left = c.join(kind, left, right)
	}
	return left
}
