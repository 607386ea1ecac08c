// Package core brings selectors into the one form to which all ways of
// writing them come.
package core

import (
	"slices"

	"sieve/selector"
)

// Core is a term in that form. Its operators are those that a canonical text
// has: no sign, no NotEqual, no Greater, no GreaterEqual, no Between, no In.
type Core struct {
	Op     selector.Op
	Left   *Core  // the left side or the only one
	Right  *Core  // nil without a second side
	Num    int64  // of a Number
	Str    string // of a Name or a Text, and the pattern of a Like
	Escape string // of a Like: one byte, or empty without ESCAPE
	Text   string // the canonical text
}

// Of makes the core of a term.
func Of(n *selector.Node) *Core {
	var sides [3]*Core
	for i, side := range n.Sides {
		sides[i] = Of(side)
	}
	return join(n, sides[0], sides[1], sides[2])
}

func join(n *selector.Node, x, y, z *Core) *Core {
	switch n.Op {
	case selector.Positive:
		return pair(selector.Add, number(0), x)
	case selector.Negative:
		return pair(selector.Subtract, number(0), x)
	case selector.Greater:
		return pair(selector.Less, y, x)
	case selector.GreaterEqual:
		return pair(selector.LessEqual, y, x)
	case selector.NotEqual:
		return not(pair(selector.Equal, x, y))
	case selector.Not:
		return not(x)
	case selector.Between:
		return pair(selector.And, pair(selector.LessEqual, y, x), pair(selector.LessEqual, x, z))
	case selector.In:
		return among(x, n.Texts)
	}
	if y != nil {
		return pair(n.Op, x, y)
	}
	return spelled(Core{Op: n.Op, Left: x, Num: n.Num, Str: n.Str, Escape: n.Escape})
}

func number(n int64) *Core { return spelled(Core{Op: selector.Number, Num: n}) }

// pair puts two sides under an operator, in their order if it takes either.
func pair(op selector.Op, left, right *Core) *Core {
	if takesEitherOrder(op) && right.Text < left.Text {
		left, right = right, left
	}
	return spelled(Core{Op: op, Left: left, Right: right})
}

func takesEitherOrder(op selector.Op) bool {
	switch op {
	case selector.And, selector.Or, selector.Equal, selector.Add, selector.Multiply:
		return true
	}
	return false
}

// among is an OR of equations, each different text in one of them.
func among(name *Core, texts []string) *Core {
	var found *Core
	for _, text := range slices.Compact(slices.Sorted(slices.Values(texts))) {
		same := pair(selector.Equal, name, spelled(Core{Op: selector.Text, Str: text}))
		if found == nil {
			found = same
		} else {
			found = pair(selector.Or, found, same)
		}
	}
	return found
}

// not moves a NOT inwards as far as it goes.
func not(c *Core) *Core {
	switch c.Op {
	case selector.True:
		return spelled(Core{Op: selector.False})
	case selector.False:
		return spelled(Core{Op: selector.True})
	case selector.And:
		return pair(selector.Or, not(c.Left), not(c.Right))
	case selector.Or:
		return pair(selector.And, not(c.Left), not(c.Right))
	case selector.Less:
		return pair(selector.LessEqual, c.Right, c.Left)
	case selector.LessEqual:
		return pair(selector.Less, c.Right, c.Left)
	case selector.Not:
		// A name may be no bool, and then two NOTs make Null of it.
		if c.Left.Op != selector.Name {
			return c.Left
		}
	}
	return spelled(Core{Op: selector.Not, Left: c})
}
