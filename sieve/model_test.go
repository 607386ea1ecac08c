package sieve_test

import (
	"maps"
	"math"
	"math/rand"
	"slices"
	"testing"

	"sieve/api"
	"sieve/sieve"
)

// model is a broker in the plainest form: it goes through all that it has.
type model struct {
	last int
	subs map[int]*modelSub
}

type modelSub struct {
	text    string
	terms   terms
	waiting []modelMessage // as they came
}

type modelMessage struct{ priority, number int }

func (m *model) live() []int { return slices.Sorted(maps.Keys(m.subs)) }

func (m *model) terms() terms {
	all := terms{}
	for _, sub := range m.subs {
		maps.Copy(all, sub.terms)
	}
	return all
}

func (m *model) subscribe(id int, s sample) (api.Errno, int) {
	if m.subs[id] != nil {
		return api.ErrTwice, 0
	}
	if s.errno != api.OK {
		return s.errno, s.place
	}
	all, own := m.terms(), terms{}
	own.add(s.canon)
	if maps.Copy(all, own); len(m.subs) == 8 || len(all) > 80 {
		return api.ErrFull, 0
	}
	m.subs[id] = &modelSub{text: s.text, terms: own}
	return api.OK, 0
}

func (m *model) publish(priority int, event []api.Property) (met, full []int, errno api.Errno) {
	if _, errno, _ := sieve.Eval("TRUE", event); errno != api.OK || priority < 0 || priority > 9 {
		return nil, nil, api.ErrEvent
	}
	m.last++
	for _, id := range m.live() {
		sub := m.subs[id]
		if v, _, _ := sieve.Eval(sub.text, event); v != yes {
			continue
		}
		met = append(met, id)
		if len(sub.waiting) == 6 {
			full = append(full, id)
		} else {
			sub.waiting = append(sub.waiting, modelMessage{priority, m.last})
		}
	}
	return met, full, api.OK
}

func (m *model) poll(id int) (int, api.Errno) {
	sub := m.subs[id]
	if sub == nil {
		return 0, api.ErrId
	}
	for priority := 9; priority >= 0; priority-- {
		for i, message := range sub.waiting {
			if message.priority == priority {
				sub.waiting = slices.Delete(sub.waiting, i, i+1)
				return message.number, api.OK
			}
		}
	}
	return 0, api.OK
}

// both is a broker beside its model, which must answer alike.
type both struct {
	t      *testing.T
	r      *rand.Rand
	broker *sieve.Broker
	model  model
	count  map[string]int // how often something came about
}

func (b *both) id() int {
	ids := []int{0, 1, 2, 3, 4, 5, 6, -1, -7, 1 << 40, math.MinInt, math.MaxInt}
	return ids[b.r.Intn(len(ids))]
}

// event gives the maker's event, mostly with some values changed.
func (b *both) event() []api.Property {
	if b.r.Intn(12) == 0 {
		return someEvent(b.r)
	}
	event := madeEvent()
	for range b.r.Intn(4) {
		i := b.r.Intn(len(event))
		event[i].Val = []api.Value{null, yes, no, num(5), num(0), num(-1), text("x"), text("")}[b.r.Intn(8)]
	}
	return event[:len(event)-b.r.Intn(2)*b.r.Intn(8)]
}

func (b *both) subscribe(s sample) {
	id, many := b.id(), len(b.model.subs) == 8
	want, at := b.model.subscribe(id, s)
	if errno, place := b.broker.Subscribe(id, s.text); errno != want || place != at {
		b.t.Fatalf("Subscribe(%d, %q) = %d, %d, want %d, %d", id, s.text, errno, place, want, at)
	}
	switch {
	case want == api.OK:
		b.count["subscribed"]++
	case want == api.ErrTwice:
		b.count["twice"]++
	case want == api.ErrFull && many:
		b.count["eight"]++
	case want == api.ErrFull:
		b.count["terms"]++
	case want == s.errno:
		b.count["no selector"]++
	}
}

func (b *both) unsubscribe() {
	id, want := b.id(), api.ErrId
	if b.model.subs[id] != nil {
		want = api.OK
		b.count["unsubscribed"]++
	}
	delete(b.model.subs, id)
	if errno := b.broker.Unsubscribe(id); errno != want {
		b.t.Fatalf("Unsubscribe(%d) = %d, want %d", id, errno, want)
	}
}

func (b *both) publish() {
	priority, event := b.r.Intn(10), b.event()
	if b.r.Intn(10) == 0 {
		priority = []int{-1, 10, math.MinInt, math.MaxInt}[b.r.Intn(4)]
	}
	met, full, want := b.model.publish(priority, event)
	gotMet, gotFull, errno := b.broker.Publish(priority, event)
	if !slices.Equal(gotMet, met) || !slices.Equal(gotFull, full) || errno != want {
		b.t.Fatalf("Publish(%d, %v) = %v, %v, %d, want %v, %v, %d", priority, event, gotMet, gotFull, errno, met, full, want)
	}
	switch {
	case want != api.OK:
		b.count["no message"]++
	case len(full) > 0:
		b.count["full"]++
	case len(met) > 1:
		b.count["published"]++
	}
}

func (b *both) poll() {
	id := b.id()
	number, want := b.model.poll(id)
	if got, errno := b.broker.Poll(id); got != number || errno != want {
		b.t.Fatalf("Poll(%d) = %d, %d, want %d, %d", id, got, errno, number, want)
	}
	switch {
	case want != api.OK:
		b.count["nobody"]++
	case number == 0:
		b.count["none"]++
	default:
		b.count["polled"]++
	}
}

// check looks at all that can be asked without a change.
func (b *both) check() {
	if got, want := b.broker.Nodes(), len(b.model.terms()); got != want {
		b.t.Fatalf("Nodes() = %d, want %d", got, want)
	}
	if got, want := b.broker.Live(), b.model.live(); !slices.Equal(got, want) {
		b.t.Fatalf("Live() = %v, want %v", got, want)
	}
}

// TestMadeBrokers holds brokers against their models (P8 to P12), several at
// once, which must know nothing of one another (P2).
func TestMadeBrokers(t *testing.T) {
	r := rand.New(rand.NewSource(3))
	count := map[string]int{}
	for range 300 {
		least := r.Intn(2) * r.Intn(150) // long ones fill a broker
		var samples []sample
		for range 25 {
			s := someSample(r)
			for (s.errno != api.OK || len(s.text) < least) && r.Intn(20) > 0 {
				s = someSample(r)
			}
			samples = append(samples, s)
		}
		var some []*both
		for range 3 {
			some = append(some, &both{t, r, sieve.New(), model{subs: map[int]*modelSub{}}, count})
		}
		comes := 1 + r.Intn(7)
		for range 500 {
			b := some[r.Intn(len(some))]
			switch n := r.Intn(20); {
			case n < comes:
				b.subscribe(samples[r.Intn(len(samples))])
			case n < 8:
				b.unsubscribe()
			case n < 12:
				b.publish()
			default:
				b.poll()
			}
			b.check()
		}
	}
	for _, what := range []string{"subscribed", "twice", "eight", "terms", "no selector", "unsubscribed", "no message", "full", "published", "nobody", "none", "polled"} {
		if count[what] < 100 {
			t.Errorf("%s: only %d", what, count[what])
		}
	}
	t.Log(count)
}
