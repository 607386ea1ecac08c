package program

import (
	"reflect"
	"slices"
	"testing"

	"sieve/api"
	"sieve/core"
	"sieve/selector"
)

func made(t *testing.T, texts ...string) *Maker {
	t.Helper()
	m := NewMaker()
	for _, text := range texts {
		root, errno, place := selector.Read(text)
		if errno != api.OK {
			t.Fatalf("%q: %d, %d", text, errno, place)
		}
		m.Add(core.Of(root))
	}
	return m
}

// every has terms of every operator.
func every(t *testing.T) *Maker {
	return made(t, "a > 3 AND b LIKE '%x' ESCAPE '!' OR b LIKE 'y'", "a + 1 >= b - 2 * c / 3", "NOT c OR TRUE = FALSE", "b IN ('x', 'y''')", "d IS NULL", "9223372036854775807 = -a")
}

func TestShared(t *testing.T) {
	for _, c := range []struct {
		texts []string
		want  int
	}{
		{nil, 0}, {[]string{"a"}, 1}, {[]string{"a", "a"}, 1}, {[]string{"a > 3 AND b = 'x'"}, 7}, {[]string{"a > 3", "3 < a AND c"}, 5}, {[]string{"NOT a < 1", "a >= 1", "a < 1", "NOT (a >= 1 AND b)"}, 7},
		{[]string{"a = 1", "a = '1'"}, 5}, {[]string{"a < b", "b < a"}, 4}, {[]string{"a LIKE 'x'", "a LIKE 'x' ESCAPE 'y'", "a LIKE 'x' ESCAPE 'z'", "a = 'x'"}, 6}, {[]string{"TRUE", "FALSE", "NOT TRUE"}, 2}, {[]string{"a", "NOT a", "a IS NULL"}, 3},
	} {
		if got := made(t, c.texts...).Terms(); got != c.want {
			t.Errorf("%q: %d terms, want %d", c.texts, got, c.want)
		}
	}
}

// TestRow looks whether each term is there once, and behind its sides.
func TestRow(t *testing.T) {
	terms := every(t).terms
	for at, term := range terms {
		if slices.Contains(terms[:at], term) {
			t.Errorf("%v is there twice", term)
		}
		if at > 0 && (term.Left >= at || term.Right >= at) {
			t.Errorf("%v at %d stands ahead of a side", term, at)
		}
	}
}

func TestReadBack(t *testing.T) {
	for _, m := range []*Maker{made(t), made(t, "a"), every(t)} {
		p, ok := Read(m.Bytes())
		if !ok || !reflect.DeepEqual(*p, m.Program) {
			t.Errorf("read back: %v, %v, want %v", p, ok, m.Program)
		}
	}
}

func TestReadRefuses(t *testing.T) {
	good := every(t).Bytes()
	for size := range good {
		if _, ok := Read(good[:size]); ok {
			t.Errorf("%d of %d bytes are a program", size, len(good))
		}
	}
	yes, name, not, or, like := byte(selector.True), byte(selector.Name), byte(selector.Not), byte(selector.Or), byte(selector.Like)
	for _, code := range [][]byte{
		append(slices.Clone(good), 0),
		{0, 1, 0}, {1, 1, yes, 1}, {1, 9, yes, 0, 0, 0, 0, 0, 0, 0, 0, 0},
		{1, 1, byte(selector.IsNull) + 1, 0}, {1, 1, 255, 0}, {2, 1, yes, byte(selector.Greater), 0, 0, 1}, {2, 1, yes, byte(selector.In), 0, 1},
		{1, 1, not, 0, 0}, {2, 1, yes, not, 1, 1}, {2, 1, not, 1, yes, 0}, {2, 1, yes, or, 1, 0, 1}, {2, 1, yes, or, 0, 1, 1}, {2, 1, yes, or, 0, 255, 1},
		{1, 1, name, 2, 'a', 0}, {1, 1, name, 255, 'a', 0}, {2, 1, yes, like, 0, 2, '!', '!', 1, 'x', 1}, {2, 1, yes, like, 1, 0, 1, 'x', 1}, {1, 1, byte(selector.Number), 1, 2, 3, 0},
	} {
		if p, ok := Read(code); ok {
			t.Errorf("%v is a program: %v", code, p)
		}
	}
	many := append([]byte{81, 0}, slices.Repeat([]byte{yes}, 81)...)
	if _, ok := Read(many); ok {
		t.Error("81 terms are a program")
	}
}
