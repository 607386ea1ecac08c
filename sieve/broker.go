package sieve

import (
	"cmp"
	"slices"

	"sieve/api"
	"sieve/core"
	"sieve/events"
	"sieve/program"
	"sieve/queue"
	"sieve/selector"
)

// Broker gives messages to subscriptions.
type Broker struct {
	last   int             // the number of the last message, 0 without one
	subs   []subscription  // by rising numbers
	shared program.Program // of all their selectors, in the same order
}

type subscription struct {
	id       int
	selector *core.Core
	messages queue.Heap
}

// New makes a broker (P8).
func New() *Broker { return &Broker{} }

// Subscribe begins a subscription (P9).
func (b *Broker) Subscribe(id int, text string) (api.Errno, int) {
	at, found := b.find(id)
	if found {
		return api.ErrTwice, 0
	}
	root, errno, place := selector.Read(text)
	if errno != api.OK {
		return errno, place
	}
	if len(b.subs) == api.MaxSubs {
		return api.ErrFull, 0
	}
	// On a copy, since there may be too many terms with this one.
	subs := slices.Insert(slices.Clone(b.subs), at, subscription{id: id, selector: core.Of(root)})
	shared := together(subs)
	if shared.Terms() > api.MaxNodes {
		return api.ErrFull, 0
	}
	b.subs, b.shared = subs, shared
	return api.OK, 0
}

// Unsubscribe ends one (P9).
func (b *Broker) Unsubscribe(id int) api.Errno {
	at, found := b.find(id)
	if !found {
		return api.ErrId
	}
	b.subs = slices.Delete(b.subs, at, at+1)
	b.shared = together(b.subs)
	return api.OK
}

// Publish gives a message to all whose selectors its event meets (P10).
func (b *Broker) Publish(priority int, event []api.Property) ([]int, []int, api.Errno) {
	if priority < 0 || priority > api.MaxPriority || !events.Valid(event) {
		return nil, nil, api.ErrEvent
	}
	b.last++
	var met, full []int
	for _, at := range b.shared.Run(event) {
		sub := &b.subs[at]
		met = append(met, sub.id)
		if sub.messages.Len() == api.MaxQueue {
			full = append(full, sub.id)
			continue
		}
		sub.messages.Push(queue.Message{Priority: priority, Number: b.last})
	}
	return met, full, api.OK
}

// Poll takes a subscription's next message (P11).
func (b *Broker) Poll(id int) (int, api.Errno) {
	at, found := b.find(id)
	if !found {
		return 0, api.ErrId
	}
	next, _ := b.subs[at].messages.Pop() // without one, its number is 0
	return next.Number, api.OK
}

// Nodes tells how many terms all selectors have together (P12).
func (b *Broker) Nodes() int { return b.shared.Terms() }

// Live tells which subscriptions there are (P12).
func (b *Broker) Live() []int {
	var ids []int
	for _, sub := range b.subs {
		ids = append(ids, sub.id)
	}
	return ids
}

// find tells where a subscription stands, or would stand, and whether it does.
func (b *Broker) find(id int) (int, bool) {
	return slices.BinarySearchFunc(b.subs, id, func(sub subscription, id int) int {
		return cmp.Compare(sub.id, id)
	})
}

// together makes one program of the selectors of subscriptions.
func together(subs []subscription) program.Program {
	maker := program.NewMaker()
	for _, sub := range subs {
		maker.Add(sub.selector)
	}
	return maker.Program
}
