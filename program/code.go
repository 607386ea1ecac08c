package program

import (
	"sieve/api"
	"sieve/selector"
)

// A program as bytes: how many terms it has, how many selectors, the terms,
// the places of the selectors' own terms. A term is its operator and what
// belongs to that: places and lengths are a byte each, a number is eight.

// numberSize is how many bytes a number has.
const numberSize = 8

// Bytes writes a program of at most MaxNodes terms and MaxSubs selectors.
func (p *Program) Bytes() []byte {
	code := []byte{byte(len(p.terms)), byte(len(p.roots))}
	for _, term := range p.terms {
		code = term.write(code)
	}
	for _, root := range p.roots {
		code = append(code, byte(root))
	}
	return code
}

func (t Term) write(code []byte) []byte {
	code = append(code, byte(t.Op))
	switch t.Op {
	case selector.Number:
		return writeNumber(code, t.Num)
	case selector.Like:
		code = append(code, byte(t.Left))
		code = writeText(code, t.Escape)
		fallthrough
	case selector.Name, selector.Text:
		return writeText(code, t.Str)
	case selector.And, selector.Or, selector.Equal, selector.Less, selector.LessEqual,
		selector.Add, selector.Subtract, selector.Multiply, selector.Divide:
		code = append(code, byte(t.Right))
		fallthrough
	case selector.Not, selector.IsNull:
		return append(code, byte(t.Left))
	}
	return code
}

func writeNumber(code []byte, n int64) []byte {
	for i := range numberSize {
		code = append(code, byte(n>>(8*i)))
	}
	return code
}

func writeText(code []byte, text string) []byte {
	return append(append(code, byte(len(text))), text...)
}

// reader reads a program from bytes that may be none. Behind the first fault
// it reads on as if there were no bytes left, and finds nothing but noughts.
type reader struct {
	rest []byte
	bad  bool
}

// Read gives the program that bytes are, if they are one.
func Read(code []byte) (*Program, bool) {
	r := reader{rest: code}
	terms, roots := r.upTo(api.MaxNodes), r.upTo(api.MaxSubs)
	p := &Program{}
	for at := range terms {
		p.terms = append(p.terms, r.term(at))
	}
	for range roots {
		p.roots = append(p.roots, r.upTo(terms-1))
	}
	return p, !r.bad && len(r.rest) == 0
}

// term reads the term that is to stand at a place: all its sides must stand
// ahead of it, so that they are known when it is worked out.
func (r *reader) term(at int) Term {
	t := Term{Op: selector.Op(r.next())}
	switch t.Op {
	case selector.True, selector.False:
	case selector.Number:
		t.Num = r.number()
	case selector.Like:
		t.Left = r.upTo(at - 1)
		t.Escape = r.text(1)
		fallthrough
	case selector.Name, selector.Text:
		t.Str = r.text(api.MaxSelector)
	case selector.And, selector.Or, selector.Equal, selector.Less, selector.LessEqual,
		selector.Add, selector.Subtract, selector.Multiply, selector.Divide:
		t.Right = r.upTo(at - 1)
		fallthrough
	case selector.Not, selector.IsNull:
		t.Left = r.upTo(at - 1)
	default:
		r.fail()
	}
	return t
}

func (r *reader) fail() { *r = reader{bad: true} }

func (r *reader) take(size int) []byte {
	if size > len(r.rest) {
		r.fail()
		return make([]byte, size)
	}
	taken := r.rest[:size]
	r.rest = r.rest[size:]
	return taken
}

func (r *reader) next() byte { return r.take(1)[0] }

// upTo reads a byte that is worth at most so much.
func (r *reader) upTo(most int) int {
	n := int(r.next())
	if n > most {
		r.fail()
		return 0
	}
	return n
}

func (r *reader) number() int64 {
	n := int64(0)
	for i, b := range r.take(numberSize) {
		n |= int64(b) << (8 * i)
	}
	return n
}

func (r *reader) text(most int) string { return string(r.take(r.upTo(most))) }
