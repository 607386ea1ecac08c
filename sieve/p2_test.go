package sieve_test

import (
	"slices"
	"strings"
	"testing"
	"unsafe"

	"sieve/api"
	"sieve/sieve"
)

// TestP2Event looks at an event and at its spare room behind every sort of answer.
func TestP2Event(t *testing.T) {
	room := []api.Property{
		{Name: "a", Val: num(5)}, {Name: "b", Val: text("x")}, {Name: "c", Val: yes},
		{Name: "spare", Val: num(1)}, {Name: "", Val: api.Value{Kind: 9}},
	}
	for _, size := range []int{0, 3, 4, 5} {
		for _, selector := range []string{"a", "b", "c", "d", "NOT c", "-a + 1 < 2", "b LIKE '%' ESCAPE '!'", "b IN ('y', 'x')", "a BETWEEN 1 AND 2", "a =", "a AND 1", strings.Repeat("(", 13), strings.Repeat(" ", 201)} {
			before := slices.Clone(room)
			sieve.Eval(selector, room[:size])
			code, _, _ := sieve.Compile([]string{selector, "a"})
			sieve.Run(code, room[:size])
			if !slices.Equal(before, room) {
				t.Fatalf("with %q the event was written into: %v", selector, room)
			}
		}
	}
}

// TestP2Kept changes what was handed in, and asks anew.
func TestP2Kept(t *testing.T) {
	event := example()
	wantValue(t, "b", event, text("x"))
	event[1].Val = text("y")
	wantValue(t, "b", event, text("y"))
	event[1].Name = "e"
	wantValue(t, "b", event, null)
	event[1].Name = ""
	wantError(t, "b", event, api.ErrEvent, 0)
	wantValue(t, "b", nil, null)
	wantValue(t, "b", example(), text("x"))
}

// TestP2New looks whether a text that comes out is the event's own memory.
func TestP2New(t *testing.T) {
	event := example()
	v, _, _ := sieve.Eval("b", event)
	if unsafe.StringData(v.Str) == unsafe.StringData(event[1].Val.Str) {
		t.Error("Eval gave out the event's own memory")
	}
	selector := strings.Clone("(name)")
	canon, _, _ := sieve.Canon(selector)
	if canon != "name" || unsafe.StringData(canon) == unsafe.StringData(selector[1:]) {
		t.Errorf("Canon gave out the selector's own memory: %q", canon)
	}
}

// TestP2Texts looks at a list of texts and at its spare room behind Compile.
func TestP2Texts(t *testing.T) {
	room := []string{"b IN ('y', 'x')", "a > 3", "c AND b", "NOT (b AND a)", "", "a AND 1", "z", "y", "x", "w"}
	for size := range len(room) + 1 {
		before := slices.Clone(room)
		sieve.Compile(room[:size])
		if !slices.Equal(before, room) {
			t.Fatalf("Compile wrote into %d texts: %q", size, room)
		}
	}
}

// TestP2Code looks at a program and at its spare room behind Run.
func TestP2Code(t *testing.T) {
	room := append(everyOperator(t), 1, 2, 3, 4)
	before := slices.Clone(room)
	for size := range len(room) + 1 {
		sieve.Run(room[:size], example())
		if !slices.Equal(before, room) {
			t.Fatalf("Run wrote into %d bytes: %v", size, room)
		}
	}
}

// TestP2Programs changes all that came out of Compile and Run, and its spare
// room, and what was handed in, and asks anew.
func TestP2Programs(t *testing.T) {
	texts := []string{"a > 3", "b = 'x'", "FALSE", "c"}
	code := compiled(t, texts...)
	want := slices.Clone(code)
	other := compiled(t, "NOT d", "b = 'x'")
	clear(texts)
	clear(code[:cap(code)])
	code = compiled(t, "a > 3", "b = 'x'", "FALSE", "c")
	if !slices.Equal(code, want) {
		t.Errorf("Compile anew: %v, want %v", code, want)
	}
	for _, event := range [][]api.Property{example(), example()} {
		met, errno := sieve.Run(code, event)
		later, _ := sieve.Run(code, event)
		clear(event)
		for i := range later[:cap(later)] {
			later[:cap(later)][i] = 99
		}
		if !slices.Equal(met, []int{0, 1, 3}) || errno != api.OK {
			t.Errorf("Run = %v, %d", met, errno)
		}
	}
	if met, errno := sieve.Run(other, example()); !slices.Equal(met, []int{1}) || errno != api.OK {
		t.Errorf("Run of a program that came out earlier = %v, %d", met, errno)
	}
	if !slices.Equal(code, want) {
		t.Errorf("Run wrote into the program: %v, want %v", code, want)
	}
}

// TestP2Publish looks at an event and at its spare room behind Publish.
func TestP2Publish(t *testing.T) {
	room := append(example(), api.Property{Name: "spare", Val: num(1)}, api.Property{Val: api.Value{Kind: 9}})
	b := subscribed(t, "a > 3", "b LIKE '%x'", "NOT (c AND d)", "b IN ('y', 'x')", "c")
	for range 10 {
		for size := range len(room) + 1 {
			for _, priority := range []int{0, 9, 10} {
				before := slices.Clone(room)
				b.Publish(priority, room[:size])
				if !slices.Equal(before, room) {
					t.Fatalf("Publish wrote into an event: %v", room)
				}
			}
		}
	}
}

// lent gives a text whose memory is written over later.
func lent(s string) (string, []byte) {
	memory := []byte(s)
	return unsafe.String(&memory[0], len(memory)), memory
}

// TestP2SubscribeKept writes over the memory of selectors that were handed in.
func TestP2SubscribeKept(t *testing.T) {
	b := sieve.New()
	selectors := []string{"name = 'text'", "name IN ('text', 'other')", "name LIKE '!te_t' ESCAPE '!'", "yes", "name IS NOT NULL", "NOT no", "number - 1 < 77"}
	event := []api.Property{{Name: "name", Val: text("text")}, {Name: "yes", Val: yes}, {Name: "no", Val: no}, {Name: "number", Val: num(77)}}
	var all []int
	for id, selector := range selectors {
		borrowed, memory := lent(selector)
		wantSubscribe(t, b, id, borrowed, api.OK, 0)
		clear(memory)
		all = append(all, id)
	}
	nodes := subscribed(t, selectors...).Nodes()
	wantState(t, b, nodes, all...)
	wantPublish(t, b, 0, event, all, nil)
	for id, selector := range selectors[:4] {
		wantUnsubscribe(t, b, id, api.OK)
		wantPublish(t, b, 0, event, slices.Delete(slices.Clone(all), id, id+1), nil)
		wantSubscribe(t, b, id, selector, api.OK, 0)
		wantState(t, b, nodes, all...)
	}
}

// TestP2PublishKept writes over events that were handed in, and over their texts.
func TestP2PublishKept(t *testing.T) {
	b := subscribed(t, "b = 'xyz'", "b <> 'xyz'")
	name, nameMemory := lent("b")
	value, valueMemory := lent("xyz")
	event := []api.Property{{Name: name, Val: text(value)}}
	wantPublish(t, b, 0, event, []int{0}, nil)
	clear(valueMemory)
	wantPublish(t, b, 0, event, []int{1}, nil)
	nameMemory[0] = 'c'
	wantPublish(t, b, 0, event, nil, nil)
	clear(event)
	wantNoMessage(t, b, 0, event)
	wantPolls(t, b, 0, 1, 0)
	wantPolls(t, b, 1, 2, 0)
}

// spoil writes into a list and into its spare room.
func spoil(list []int) {
	for i := range list[:cap(list)] {
		list[:cap(list)][i] = -99
	}
}

// TestP2Lists writes into lists that come out of a broker, and looks at the others.
func TestP2Lists(t *testing.T) {
	b := subscribed(t, "c", "c", "NOT c", "c", "c")
	wantUnsubscribe(t, b, 1, api.OK)
	for round := range 20 {
		live := b.Live()
		met, full, _ := b.Publish(0, example())
		spoil(b.Live())
		laterMet, laterFull, _ := b.Publish(0, example())
		spoil(laterMet)
		var wantFull []int
		if round >= 3 {
			wantFull = []int{0, 3, 4}
		}
		if !slices.Equal(live, []int{0, 2, 3, 4}) || !slices.Equal(met, []int{0, 3, 4}) || !slices.Equal(full, wantFull) || !slices.Equal(laterFull, wantFull) {
			t.Fatalf("lists that came out became %v, %v, %v, %v", live, met, full, laterFull)
		}
		spoil(laterFull)
		spoil(full)
		if !slices.Equal(met, []int{0, 3, 4}) {
			t.Fatalf("a list that came out became %v", met)
		}
		wantState(t, b, 2, 0, 2, 3, 4)
	}
	for _, id := range []int{0, 3, 4} {
		wantPolls(t, b, id, 1, 2, 3, 4, 5, 6, 0)
	}
}

// TestP2TwoLists writes into one of the two lists of a Publish, and looks at the other.
func TestP2TwoLists(t *testing.T) {
	for many := range 9 {
		for full := range many + 1 {
			b := subscribed(t, times(full, "TRUE")...)
			for range 6 {
				b.Publish(0, nil)
			}
			var all []int
			for id := range many {
				all = append(all, id)
				if id >= full {
					wantSubscribe(t, b, id, "TRUE", api.OK, 0)
				}
			}
			for i := range 2 {
				met, refused, _ := b.Publish(0, nil)
				spoil([][]int{met, refused}[i])
				if i == 0 && !slices.Equal(refused, all[:full]) || i == 1 && !slices.Equal(met, all) {
					t.Errorf("of %d, %d full, the other list became %v, %v", many, full, met, refused)
				}
			}
		}
	}
}

// TestP2ListsLater looks at lists that came out behind all sorts of later calls.
func TestP2ListsLater(t *testing.T) {
	b := subscribed(t, "c", "c", "c")
	live := b.Live()
	met, full, _ := b.Publish(0, example())
	for range 6 {
		b.Publish(9, example())
	}
	_, late, _ := b.Publish(0, example())
	b.Unsubscribe(0)
	b.Subscribe(-1, "NOT c")
	b.Subscribe(9, "c")
	b.Live()
	b.Publish(0, nil)
	b.Publish(0, example())
	b.Poll(1)
	all := []int{0, 1, 2}
	if !slices.Equal(live, all) || !slices.Equal(met, all) || len(full) != 0 || !slices.Equal(late, all) {
		t.Errorf("lists that came out became %v, %v, %v, %v", live, met, full, late)
	}
}

// TestP2Brokers has the same numbers in several brokers.
func TestP2Brokers(t *testing.T) {
	first, second := subscribed(t, "c", "a > 3"), subscribed(t, "NOT c")
	third := sieve.New()
	wantPublish(t, first, 0, example(), []int{0, 1}, nil)
	wantPublish(t, first, 0, example(), []int{0, 1}, nil)
	wantPublish(t, second, 0, []api.Property{{Name: "c", Val: no}}, []int{0}, nil)
	wantState(t, first, 4, 0, 1)
	wantState(t, second, 2, 0)
	wantState(t, third, 0)
	wantNobody(t, second, 1)
	wantUnsubscribe(t, third, 0, api.ErrId)
	wantPolls(t, second, 0, 1, 0)
	wantUnsubscribe(t, second, 0, api.OK)
	wantPolls(t, first, 0, 1, 2, 0)
	wantSubscribe(t, third, 0, "TRUE", api.OK, 0)
	wantPublish(t, third, 0, nil, []int{0}, nil)
	wantPolls(t, third, 0, 1, 0)
	wantPolls(t, first, 1, 1, 2, 0)
}
