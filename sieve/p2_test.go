package sieve_test

import (
	"slices"
	"strings"
	"testing"
	"unsafe"

	"sieve/api"
	"sieve/sieve"
)

// TestP2Event looks at an event and at its spare room behind every sort of answer.
func TestP2Event(t *testing.T) {
	room := []api.Property{
		{Name: "a", Val: num(5)}, {Name: "b", Val: text("x")}, {Name: "c", Val: yes},
		{Name: "spare", Val: num(1)}, {Name: "", Val: api.Value{Kind: 9}},
	}
	for _, size := range []int{0, 3, 4, 5} {
		for _, selector := range []string{"a", "b", "c", "d", "NOT c", "-a + 1 < 2", "b LIKE '%' ESCAPE '!'", "b IN ('y', 'x')", "a BETWEEN 1 AND 2", "a =", "a AND 1", strings.Repeat("(", 13), strings.Repeat(" ", 201)} {
			before := slices.Clone(room)
			sieve.Eval(selector, room[:size])
			if !slices.Equal(before, room) {
				t.Fatalf("Eval(%q) wrote into the event: %v", selector, room)
			}
		}
	}
}

// TestP2Kept changes what was handed in, and asks anew.
func TestP2Kept(t *testing.T) {
	event := example()
	wantValue(t, "b", event, text("x"))
	event[1].Val = text("y")
	wantValue(t, "b", event, text("y"))
	event[1].Name = "e"
	wantValue(t, "b", event, null)
	event[1].Name = ""
	wantError(t, "b", event, api.ErrEvent, 0)
	wantValue(t, "b", nil, null)
	wantValue(t, "b", example(), text("x"))
}

// TestP2New looks whether a text that comes out is the event's own memory.
func TestP2New(t *testing.T) {
	event := example()
	v, _, _ := sieve.Eval("b", event)
	if unsafe.StringData(v.Str) == unsafe.StringData(event[1].Val.Str) {
		t.Error("Eval gave out the event's own memory")
	}
}
