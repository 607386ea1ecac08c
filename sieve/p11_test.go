package sieve_test

import (
	"math"
	"math/rand"
	"slices"
	"testing"

	"sieve/api"
)

func TestP11Nobody(t *testing.T) {
	b := subscribed(t, "c", "c")
	wantPublish(t, b, 0, example(), []int{0, 1}, nil)
	for _, id := range []int{2, -1, math.MinInt, math.MaxInt, 1 << 32} {
		wantNobody(t, b, id)
	}
	wantUnsubscribe(t, b, 1, api.OK)
	wantNobody(t, b, 1)
	wantPolls(t, b, 0, 1, 0)
}

func TestP11None(t *testing.T) {
	b := subscribed(t, "c")
	wantPolls(t, b, 0, 0, 0, 0)
	wantPublish(t, b, 0, nil, nil, nil)
	wantPolls(t, b, 0, 0)
	wantPublish(t, b, 0, example(), []int{0}, nil)
	wantPolls(t, b, 0, 2, 0, 0)
	wantPublish(t, b, 0, example(), []int{0}, nil)
	wantPolls(t, b, 0, 3, 0)
}

// TestP11Orders publishes up to six messages in every order of four priorities.
func TestP11Orders(t *testing.T) {
	priorities := []int{0, 1, 8, 9}
	for size := range 7 {
		for choice := range 1 << (2 * size) {
			b := subscribed(t, "TRUE")
			var of []int
			for i := range size {
				of = append(of, priorities[choice>>(2*i)&3])
				wantPublish(t, b, of[i], nil, []int{0}, nil)
			}
			wantPolls(t, b, 0, append(turns(of), 0, 0)...)
			if t.Failed() {
				t.Fatalf("with the priorities %v", of)
			}
		}
	}
}

// turns gives the numbers of messages of some priorities, as they are to be taken.
func turns(priorities []int) []int {
	var out []int
	for priority := 9; priority >= 0; priority-- {
		for i, p := range priorities {
			if p == priority {
				out = append(out, i+1)
			}
		}
	}
	return out
}

func TestP11EveryPriority(t *testing.T) {
	for high := range 10 {
		for low := range high {
			b := subscribed(t, "TRUE")
			for _, priority := range []int{low, high, low, high, low} {
				wantPublish(t, b, priority, nil, []int{0}, nil)
			}
			wantPolls(t, b, 0, 2, 4, 1, 3, 5, 0)
		}
	}
}

// TestP11InBetween takes messages between those that come.
func TestP11InBetween(t *testing.T) {
	b := subscribed(t, "TRUE")
	publish := func(priorities ...int) {
		for _, priority := range priorities {
			wantPublish(t, b, priority, nil, []int{0}, nil)
		}
	}
	publish(5, 1, 5) // 1 to 3
	wantPolls(t, b, 0, 1)
	publish(5, 9, 0) // 4 to 6
	wantPolls(t, b, 0, 5, 3)
	publish(1, 5) // 7, 8
	wantPolls(t, b, 0, 4, 8, 2)
	publish(0, 1) // 9, 10
	wantPolls(t, b, 0, 7, 10, 6, 9, 0)
}

// TestP11Mixed publishes and polls by turns, and holds that against a list.
func TestP11Mixed(t *testing.T) {
	r := rand.New(rand.NewSource(11))
	for range 5000 {
		b, m := subscribed(t, "TRUE"), model{subs: map[int]*modelSub{0: {text: "TRUE"}}}
		most := 1 + r.Intn(10)
		for range 60 {
			if r.Intn(2) == 0 {
				want, _ := m.poll(0)
				wantPolls(t, b, 0, want)
			} else {
				priority := r.Intn(most)
				met, full, _ := m.publish(priority, nil)
				wantPublish(t, b, priority, nil, met, full)
			}
		}
		if t.Failed() {
			return
		}
	}
}

// TestP11Own looks whether each subscription has messages of its own.
func TestP11Own(t *testing.T) {
	b := subscribed(t, "c", "a > 3", "TRUE")
	wantPublish(t, b, 2, example(), []int{0, 1, 2}, nil)
	wantPublish(t, b, 7, example()[:1], []int{1, 2}, nil)
	wantPublish(t, b, 4, nil, []int{2}, nil)
	wantPolls(t, b, 1, 2, 1, 0, 0)
	wantPolls(t, b, 0, 1, 0, 0)
	wantPolls(t, b, 2, 2, 3, 1, 0, 0)
}

// TestP11Once takes every message of a long row exactly once.
func TestP11Once(t *testing.T) {
	b := subscribed(t, "TRUE")
	var taken []int
	for number := 1; number <= 3000; number++ {
		wantPublish(t, b, number*7%10, nil, []int{0}, nil)
		for range number % 3 {
			if n, _ := b.Poll(0); n != 0 {
				taken = append(taken, n)
			}
		}
		if number%3 == 0 {
			n, _ := b.Poll(0)
			taken = append(taken, n)
		}
	}
	for n, _ := b.Poll(0); n != 0; n, _ = b.Poll(0) {
		taken = append(taken, n)
	}
	slices.Sort(taken)
	for i, n := range taken {
		if n != i+1 {
			t.Fatalf("message %d was not taken once: %v", i+1, taken)
		}
	}
	if len(taken) != 3000 {
		t.Errorf("%d messages were taken", len(taken))
	}
}
