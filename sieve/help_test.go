package sieve_test

import (
	"slices"
	"testing"

	"sieve/api"
	"sieve/sieve"
)

func num(n int64) api.Value { return api.Value{Kind: api.Int, Num: n} }

func text(s string) api.Value { return api.Value{Kind: api.Text, Str: s} }

var (
	null = api.Value{}
	yes  = api.Value{Kind: api.Bool, Num: 1}
	no   = api.Value{Kind: api.Bool}
)

// example is the event of the document's examples.
func example() []api.Property {
	return []api.Property{{Name: "a", Val: num(5)}, {Name: "b", Val: text("x")}, {Name: "c", Val: yes}}
}

func wantValue(t *testing.T, selector string, event []api.Property, want api.Value) {
	t.Helper()
	if v, errno, place := sieve.Eval(selector, event); v != want || errno != api.OK || place != 0 {
		t.Errorf("Eval(%q, %v) = %v, %d, %d, want %v", selector, event, v, errno, place, want)
	}
}

func wantError(t *testing.T, selector string, event []api.Property, want api.Errno, at int) {
	t.Helper()
	if v, errno, place := sieve.Eval(selector, event); v != null || errno != want || place != at {
		t.Errorf("Eval(%.80q, %.80v) = %v, %d, %d, want %d, %d", selector, event, v, errno, place, want, at)
	}
}

func wantSubscribe(t *testing.T, b *sieve.Broker, id int, selector string, want api.Errno, at int) {
	t.Helper()
	if errno, place := b.Subscribe(id, selector); errno != want || place != at {
		t.Errorf("Subscribe(%d, %.80q) = %d, %d, want %d, %d", id, selector, errno, place, want, at)
	}
}

// subscribed gives a new broker with selectors under the numbers from 0 on.
func subscribed(t *testing.T, selectors ...string) *sieve.Broker {
	t.Helper()
	b := sieve.New()
	for id, selector := range selectors {
		wantSubscribe(t, b, id, selector, api.OK, 0)
	}
	return b
}

func wantUnsubscribe(t *testing.T, b *sieve.Broker, id int, want api.Errno) {
	t.Helper()
	if errno := b.Unsubscribe(id); errno != want {
		t.Errorf("Unsubscribe(%d) = %d, want %d", id, errno, want)
	}
}

func wantPublish(t *testing.T, b *sieve.Broker, priority int, event []api.Property, met, full []int) {
	t.Helper()
	if gotMet, gotFull, errno := b.Publish(priority, event); !slices.Equal(gotMet, met) || !slices.Equal(gotFull, full) || errno != api.OK {
		t.Errorf("Publish(%d, %v) = %v, %v, %d, want %v, %v", priority, event, gotMet, gotFull, errno, met, full)
	}
}

func wantNoMessage(t *testing.T, b *sieve.Broker, priority int, event []api.Property) {
	t.Helper()
	if met, full, errno := b.Publish(priority, event); len(met) != 0 || len(full) != 0 || errno != api.ErrEvent {
		t.Errorf("Publish(%d, %.80v) = %v, %v, %d, want %d", priority, event, met, full, errno, api.ErrEvent)
	}
}

// wantPolls takes a message for each number that is wanted.
func wantPolls(t *testing.T, b *sieve.Broker, id int, want ...int) {
	t.Helper()
	var got []int
	for range want {
		number, errno := b.Poll(id)
		if errno != api.OK {
			t.Errorf("Poll(%d) = %d, %d", id, number, errno)
		}
		got = append(got, number)
	}
	if !slices.Equal(got, want) {
		t.Errorf("Poll(%d) again and again: %v, want %v", id, got, want)
	}
}

func wantNobody(t *testing.T, b *sieve.Broker, id int) {
	t.Helper()
	if number, errno := b.Poll(id); number != 0 || errno != api.ErrId {
		t.Errorf("Poll(%d) = %d, %d, want %d", id, number, errno, api.ErrId)
	}
}

func wantState(t *testing.T, b *sieve.Broker, nodes int, live ...int) {
	t.Helper()
	if got := b.Nodes(); got != nodes {
		t.Errorf("Nodes() = %d, want %d", got, nodes)
	}
	if got := b.Live(); !slices.Equal(got, live) {
		t.Errorf("Live() = %v, want %v", got, live)
	}
}
