package sieve_test

import (
	"slices"
	"strings"
	"testing"
	"unsafe"

	"sieve/api"
	"sieve/sieve"
)

// TestP2Event looks at an event and at its spare room behind every sort of answer.
func TestP2Event(t *testing.T) {
	room := []api.Property{
		{Name: "a", Val: num(5)}, {Name: "b", Val: text("x")}, {Name: "c", Val: yes},
		{Name: "spare", Val: num(1)}, {Name: "", Val: api.Value{Kind: 9}},
	}
	for _, size := range []int{0, 3, 4, 5} {
		for _, selector := range []string{"a", "b", "c", "d", "NOT c", "-a + 1 < 2", "b LIKE '%' ESCAPE '!'", "b IN ('y', 'x')", "a BETWEEN 1 AND 2", "a =", "a AND 1", strings.Repeat("(", 13), strings.Repeat(" ", 201)} {
			before := slices.Clone(room)
			sieve.Eval(selector, room[:size])
			code, _, _ := sieve.Compile([]string{selector, "a"})
			sieve.Run(code, room[:size])
			if !slices.Equal(before, room) {
				t.Fatalf("with %q the event was written into: %v", selector, room)
			}
		}
	}
}

// TestP2Kept changes what was handed in, and asks anew.
func TestP2Kept(t *testing.T) {
	event := example()
	wantValue(t, "b", event, text("x"))
	event[1].Val = text("y")
	wantValue(t, "b", event, text("y"))
	event[1].Name = "e"
	wantValue(t, "b", event, null)
	event[1].Name = ""
	wantError(t, "b", event, api.ErrEvent, 0)
	wantValue(t, "b", nil, null)
	wantValue(t, "b", example(), text("x"))
}

// TestP2New looks whether a text that comes out is the event's own memory.
func TestP2New(t *testing.T) {
	event := example()
	v, _, _ := sieve.Eval("b", event)
	if unsafe.StringData(v.Str) == unsafe.StringData(event[1].Val.Str) {
		t.Error("Eval gave out the event's own memory")
	}
	selector := strings.Clone("(name)")
	canon, _, _ := sieve.Canon(selector)
	if canon != "name" || unsafe.StringData(canon) == unsafe.StringData(selector[1:]) {
		t.Errorf("Canon gave out the selector's own memory: %q", canon)
	}
}

// TestP2Texts looks at a list of texts and at its spare room behind Compile.
func TestP2Texts(t *testing.T) {
	room := []string{"b IN ('y', 'x')", "a > 3", "c AND b", "NOT (b AND a)", "", "a AND 1", "z", "y", "x", "w"}
	for size := range len(room) + 1 {
		before := slices.Clone(room)
		sieve.Compile(room[:size])
		if !slices.Equal(before, room) {
			t.Fatalf("Compile wrote into %d texts: %q", size, room)
		}
	}
}

// TestP2Code looks at a program and at its spare room behind Run.
func TestP2Code(t *testing.T) {
	room := append(everyOperator(t), 1, 2, 3, 4)
	before := slices.Clone(room)
	for size := range len(room) + 1 {
		sieve.Run(room[:size], example())
		if !slices.Equal(before, room) {
			t.Fatalf("Run wrote into %d bytes: %v", size, room)
		}
	}
}

// TestP2Programs changes all that came out of Compile and Run, and its spare
// room, and what was handed in, and asks anew.
func TestP2Programs(t *testing.T) {
	texts := []string{"a > 3", "b = 'x'", "FALSE", "c"}
	code := compiled(t, texts...)
	want := slices.Clone(code)
	other := compiled(t, "NOT d", "b = 'x'")
	clear(texts)
	clear(code[:cap(code)])
	code = compiled(t, "a > 3", "b = 'x'", "FALSE", "c")
	if !slices.Equal(code, want) {
		t.Errorf("Compile anew: %v, want %v", code, want)
	}
	for _, event := range [][]api.Property{example(), example()} {
		met, errno := sieve.Run(code, event)
		later, _ := sieve.Run(code, event)
		clear(event)
		for i := range later[:cap(later)] {
			later[:cap(later)][i] = 99
		}
		if !slices.Equal(met, []int{0, 1, 3}) || errno != api.OK {
			t.Errorf("Run = %v, %d", met, errno)
		}
	}
	if met, errno := sieve.Run(other, example()); !slices.Equal(met, []int{1}) || errno != api.OK {
		t.Errorf("Run of a program that came out earlier = %v, %d", met, errno)
	}
	if !slices.Equal(code, want) {
		t.Errorf("Run wrote into the program: %v, want %v", code, want)
	}
}
