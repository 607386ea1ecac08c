package queue

import (
	"math/rand"
	"slices"
	"testing"
)

func TestBefore(t *testing.T) {
	row := []Message{{9, 1}, {9, 2}, {9, 30}, {3, 1}, {3, 4}, {0, 1}, {0, 2}, {0, 1 << 31}} // as they are to be taken
	for i, x := range row {
		for j, y := range row {
			if got := x.Before(y); got != (i < j) {
				t.Errorf("%v before %v: %v", x, y, got)
			}
		}
	}
}

func TestEmpty(t *testing.T) {
	var h Heap
	for range 3 {
		if m, ok := h.Pop(); ok || m != (Message{}) || h.Len() != 0 {
			t.Errorf("Pop of an empty heap: %v, %v, %d left", m, ok, h.Len())
		}
	}
	h.Push(Message{4, 1})
	if m, ok := h.Pop(); !ok || m != (Message{4, 1}) || h.Len() != 0 {
		t.Errorf("Pop of the only one: %v, %v, %d left", m, ok, h.Len())
	}
	if m, ok := h.Pop(); ok || m != (Message{}) {
		t.Errorf("Pop behind the last one: %v, %v", m, ok)
	}
}

// TestSorted holds a heap against a list that is sorted anew for each Pop.
func TestSorted(t *testing.T) {
	r := rand.New(rand.NewSource(1))
	for range 2000 {
		var h Heap
		var list []Message
		for number := range r.Intn(60) {
			if r.Intn(3) > 0 {
				m := Message{r.Intn(10), number + 1}
				h.Push(m)
				list = append(list, m)
			} else if m, ok := h.Pop(); ok != (len(list) > 0) {
				t.Fatalf("Pop of %v: %v, %v", list, m, ok)
			} else if ok {
				slices.SortFunc(list, byTurn)
				if m != list[0] {
					t.Fatalf("Pop of %v: %v", list, m)
				}
				list = list[1:]
			}
			checkHeap(t, &h, len(list))
		}
	}
}

func byTurn(x, y Message) int {
	if x.Priority != y.Priority {
		return y.Priority - x.Priority
	}
	return x.Number - y.Number
}

// checkHeap looks whether the next message is on top of every part of a heap.
func checkHeap(t *testing.T, h *Heap, size int) {
	t.Helper()
	if h.Len() != size {
		t.Fatalf("%d messages, want %d", h.Len(), size)
	}
	for at := 1; at < size; at++ {
		if byTurn(h.messages[at], h.messages[(at-1)/2]) < 0 {
			t.Fatalf("%v: the message at %d is below a later one", h.messages, at)
		}
	}
}
