// Package value reckons with values: numbers that end where an int64 does,
// and a logic in which Null is neither true nor false.
package value

import (
	"sieve/api"
	"sieve/pattern"
)

// Bool gives true or false.
func Bool(b bool) api.Value {
	if b {
		return api.Value{Kind: api.Bool, Num: 1}
	}
	return api.Value{Kind: api.Bool}
}

// Int gives a number.
func Int(n int64) api.Value { return api.Value{Kind: api.Int, Num: n} }

// Text gives a text.
func Text(s string) api.Value { return api.Value{Kind: api.Text, Str: s} }

func null() api.Value { return api.Value{} }

// Not turns true and false round.
func Not(x api.Value) api.Value {
	if x.Kind != api.Bool {
		return null()
	}
	return Bool(x.Num == 0)
}

// And is false as soon as one side is, whatever the other is.
func And(x, y api.Value) api.Value {
	switch {
	case x == Bool(false) || y == Bool(false):
		return Bool(false)
	case x == Bool(true) && y == Bool(true):
		return Bool(true)
	}
	return null()
}

// Or is true as soon as one side is, whatever the other is.
func Or(x, y api.Value) api.Value {
	switch {
	case x == Bool(true) || y == Bool(true):
		return Bool(true)
	case x == Bool(false) && y == Bool(false):
		return Bool(false)
	}
	return null()
}

// Equal compares values of one kind.
func Equal(x, y api.Value) api.Value {
	if x.Kind == api.Null || x.Kind != y.Kind {
		return null()
	}
	return Bool(x == y)
}

// Less compares numbers.
func Less(x, y api.Value) api.Value {
	if !bothInts(x, y) {
		return null()
	}
	return Bool(x.Num < y.Num)
}

// LessEqual compares numbers.
func LessEqual(x, y api.Value) api.Value {
	if !bothInts(x, y) {
		return null()
	}
	return Bool(x.Num <= y.Num)
}

// Like holds a text against a pattern, with an escape or the empty text.
func Like(x api.Value, fit, escape string) api.Value {
	if x.Kind != api.Text {
		return null()
	}
	return Bool(pattern.Fits(fit, escape, x.Str))
}

// IsNull asks for Null, and so never answers it.
func IsNull(x api.Value) api.Value { return Bool(x.Kind == api.Null) }

func bothInts(x, y api.Value) bool { return x.Kind == api.Int && y.Kind == api.Int }
