// Package selector reads selectors and tells what they are of events.
package selector

import "sieve/lex"

// Op tells what a term does with its sides.
type Op int

const (
	Name Op = iota
	Number
	Text
	True
	False
	Not
	And
	Or
	Equal
	NotEqual
	Less
	LessEqual
	Greater
	GreaterEqual
	Positive
	Negative
	Add
	Subtract
	Multiply
	Divide
	Between
	In
	Like
	IsNull
)

// Node is a term of a selector as it was written.
type Node struct {
	Op     Op
	Place  int      // of the operator, keyword or sign
	Sides  []*Node  // the terms in it, from the left
	Num    int64    // of a Number
	Str    string   // of a Name or a Text, and the pattern of a Like
	Escape string   // of a Like: one byte, or empty without ESCAPE
	Texts  []string // of an In
}

// twoSided tells the operator for a token between two operands.
func twoSided(kind lex.Kind) Op {
	switch kind {
	case lex.And:
		return And
	case lex.Or:
		return Or
	case lex.Equal:
		return Equal
	case lex.NotEqual:
		return NotEqual
	case lex.Less:
		return Less
	case lex.LessEqual:
		return LessEqual
	case lex.Greater:
		return Greater
	case lex.GreaterEqual:
		return GreaterEqual
	case lex.Plus:
		return Add
	case lex.Minus:
		return Subtract
	case lex.Star:
		return Multiply
	}
	return Divide
}
