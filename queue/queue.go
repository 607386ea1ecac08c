// Package queue holds the messages of a subscription: a heap with the next
// one on top.
package queue

// Message is a message that waits.
type Message struct {
	Priority int
	Number   int
}

// Before tells whether a message is to be taken ahead of another.
func (m Message) Before(other Message) bool {
	if m.Priority != other.Priority {
		return m.Priority > other.Priority
	}
	return m.Number < other.Number
}

// Heap holds messages. Each stands at twice the place, plus one or two, of the
// one above it, and is never before that one.
type Heap struct {
	messages []Message
}

// Len tells how many messages there are.
func (h *Heap) Len() int { return len(h.messages) }

// Push puts a message in.
func (h *Heap) Push(m Message) {
	h.messages = append(h.messages, m)
	h.rise(len(h.messages) - 1)
}

// Pop takes the next message out, if there is one.
func (h *Heap) Pop() (Message, bool) {
	if len(h.messages) == 0 {
		return Message{}, false
	}
	top, last := h.messages[0], len(h.messages)-1
	h.messages[0] = h.messages[last]
	h.messages = h.messages[:last]
	h.sink(0)
	return top, true
}

func (h *Heap) rise(at int) {
	for at > 0 && h.before(at, above(at)) {
		h.swap(at, above(at))
		at = above(at)
	}
}

func above(at int) int { return (at - 1) / 2 }

func (h *Heap) sink(at int) {
	for next := h.first(at); next != at; next = h.first(at) {
		h.swap(at, next)
		at = next
	}
}

// first tells which comes first: the message at a place or one of the two
// below it.
func (h *Heap) first(at int) int {
	first := at
	for below := 2*at + 1; below <= 2*at+2 && below < len(h.messages); below++ {
		if h.before(below, first) {
			first = below
		}
	}
	return first
}

func (h *Heap) before(x, y int) bool { return h.messages[x].Before(h.messages[y]) }

func (h *Heap) swap(x, y int) {
	h.messages[x], h.messages[y] = h.messages[y], h.messages[x]
}
