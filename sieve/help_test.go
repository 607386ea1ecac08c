package sieve_test

import (
	"testing"

	"sieve/api"
	"sieve/sieve"
)

func num(n int64) api.Value { return api.Value{Kind: api.Int, Num: n} }

func text(s string) api.Value { return api.Value{Kind: api.Text, Str: s} }

var (
	null = api.Value{}
	yes  = api.Value{Kind: api.Bool, Num: 1}
	no   = api.Value{Kind: api.Bool}
)

// example is the event of the document's examples.
func example() []api.Property {
	return []api.Property{{Name: "a", Val: num(5)}, {Name: "b", Val: text("x")}, {Name: "c", Val: yes}}
}

func wantValue(t *testing.T, selector string, event []api.Property, want api.Value) {
	t.Helper()
	if v, errno, place := sieve.Eval(selector, event); v != want || errno != api.OK || place != 0 {
		t.Errorf("Eval(%q, %v) = %v, %d, %d, want %v", selector, event, v, errno, place, want)
	}
}

func wantError(t *testing.T, selector string, event []api.Property, want api.Errno, at int) {
	t.Helper()
	if v, errno, place := sieve.Eval(selector, event); v != null || errno != want || place != at {
		t.Errorf("Eval(%.80q, %.80v) = %v, %d, %d, want %d, %d", selector, event, v, errno, place, want, at)
	}
}
