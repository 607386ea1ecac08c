package sieve_test

import (
	"math"
	"strings"
	"testing"

	"sieve/api"
	"sieve/sieve"
)

// noEvents are lists of properties that are no events.
func noEvents() [][]api.Property {
	one := func(v api.Value) []api.Property { return []api.Property{{Name: "a", Val: v}} }
	var nine []api.Property
	for _, name := range strings.Split("abcdefghi", "") {
		nine = append(nine, api.Property{Name: name, Val: num(1)})
	}
	return [][]api.Property{
		badEvent(), nine, {{Name: "a"}, {Name: "a"}}, {{Name: "a", Val: yes}, {Name: "b"}, {Name: "a", Val: no}},
		{{Name: "and"}}, {{Name: "Null"}}, {{Name: "1a"}}, {{Name: "a b"}}, {{Name: ".a"}}, {{Name: strings.Repeat("a", 17)}},
		one(api.Value{Kind: 4}), one(api.Value{Kind: -1}), one(api.Value{Num: 1}), one(api.Value{Str: "x"}), one(api.Value{Kind: api.Bool, Num: 2}), one(api.Value{Kind: api.Bool, Num: -1}), one(api.Value{Kind: api.Bool, Str: "x"}),
		one(api.Value{Kind: api.Int, Str: "x"}), one(api.Value{Kind: api.Text, Num: 1}), one(text(strings.Repeat("x", 21))),
	}
}

func noPriorities() []int { return []int{-1, 10, 11, -10, 256, 1 << 32, math.MinInt, math.MaxInt} }

func TestP10NoMessage(t *testing.T) {
	b := subscribed(t, "TRUE", "c OR a IS NULL")
	wantPublish(t, b, 4, example(), []int{0, 1}, nil)
	for _, priority := range noPriorities() {
		wantNoMessage(t, b, priority, example())
		wantNoMessage(t, b, priority, nil)
		wantNoMessage(t, b, priority, badEvent())
	}
	for _, event := range noEvents() {
		wantNoMessage(t, b, 0, event)
		wantNoMessage(t, b, 9, event)
	}
	wantState(t, b, 5, 0, 1)
	wantPublish(t, b, 4, example(), []int{0, 1}, nil) // nobody has got any, and no number is gone
	wantPolls(t, b, 0, 1, 2, 0)
	wantPolls(t, b, 1, 1, 2, 0)
}

// TestP10NoMessageWhenFull has errors come ahead of who would be full.
func TestP10NoMessageWhenFull(t *testing.T) {
	b := subscribed(t, "TRUE")
	for range 6 {
		wantPublish(t, b, 4, nil, []int{0}, nil)
	}
	wantNoMessage(t, b, 10, nil)
	wantNoMessage(t, b, 0, badEvent())
	wantPolls(t, b, 0, 1, 2, 3, 4, 5, 6, 0)
}

func TestP10EveryPriority(t *testing.T) {
	for priority := range 10 {
		b := subscribed(t, "c", "d")
		wantPublish(t, b, priority, example(), []int{0}, nil)
		wantPolls(t, b, 0, 1, 0)
		wantPolls(t, b, 1, 0)
	}
}

// TestP10GreatestEvent has as much in an event as there may be.
func TestP10GreatestEvent(t *testing.T) {
	var event []api.Property
	for _, letter := range strings.Split("abcdefgh", "") {
		event = append(event, api.Property{Name: strings.Repeat(letter, 16), Val: text(strings.Repeat(letter, 20))})
	}
	b := subscribed(t, strings.Repeat("h", 16)+" = '"+strings.Repeat("h", 20)+"'", strings.Repeat("a", 16)+" LIKE '"+strings.Repeat("_", 20)+"'", "h IS NULL", strings.Repeat("a", 17)+" IS NOT NULL")
	wantPublish(t, b, 0, event, []int{0, 1, 2}, nil)
	wantNoMessage(t, b, 0, append(event, api.Property{Name: "i"}))
}

// TestP10Numbers gives a number to each message, whether somebody gets it or not.
func TestP10Numbers(t *testing.T) {
	b := subscribed(t, "c", "NOT c")
	quiet := []api.Property{{Name: "c", Val: no}}
	wantPublish(t, b, 0, nil, nil, nil)            // 1
	wantPublish(t, b, 0, quiet, []int{1}, nil)     // 2
	wantNoMessage(t, b, 10, quiet)                 // no number
	wantPublish(t, b, 0, example(), []int{0}, nil) // 3
	wantNoMessage(t, b, 0, badEvent())
	wantUnsubscribe(t, b, 0, api.OK)
	wantPublish(t, b, 0, example(), nil, nil) // 4
	wantUnsubscribe(t, b, 1, api.OK)
	wantPublish(t, b, 0, nil, nil, nil) // 5
	wantSubscribe(t, b, 0, "c", api.OK, 0)
	wantSubscribe(t, b, 1, "a b", api.ErrSyntax, 2)
	wantPublish(t, b, 0, example(), []int{0}, nil) // 6
	wantPolls(t, b, 0, 6, 0)
	for range 10 {
		wantPublish(t, b, 0, nil, nil, nil) // up to 16
	}
	wantPublish(t, b, 0, example(), []int{0}, nil)
	wantPolls(t, b, 0, 17, 0)
}

// TestP10NumbersWhenFull counts the messages that did not get through.
func TestP10NumbersWhenFull(t *testing.T) {
	b := subscribed(t, "TRUE")
	for range 6 {
		wantPublish(t, b, 0, nil, []int{0}, nil)
	}
	for range 100 {
		wantPublish(t, b, 9, nil, []int{0}, []int{0})
	}
	wantPolls(t, b, 0, 1)
	wantPublish(t, b, 9, nil, []int{0}, nil)
	wantPolls(t, b, 0, 107, 2, 3, 4, 5, 6, 0)
}

func TestP10WhoMatches(t *testing.T) {
	b := sieve.New()
	for _, s := range []struct {
		id       int
		selector string
	}{
		{30, "a > 3"}, {-5, "a > 5"}, {7, "NOT d"}, {100, "a"}, {0, "c AND b = 'x'"}, {31, "NOT c"}, {-6, "b LIKE '_' OR d"}, {29, "d IS NULL"},
	} {
		wantSubscribe(t, b, s.id, s.selector, api.OK, 0)
	}
	wantPublish(t, b, 0, example(), []int{-6, 0, 29, 30}, nil)
	wantPublish(t, b, 0, nil, []int{29}, nil)
	wantPublish(t, b, 0, []api.Property{{Name: "a", Val: yes}}, []int{29, 100}, nil)
	wantPublish(t, b, 0, []api.Property{{Name: "d", Val: no}, {Name: "c", Val: no}, {Name: "a", Val: num(6)}}, []int{-5, 7, 30, 31}, nil)
	wantPublish(t, b, 0, []api.Property{{Name: "d", Val: yes}}, []int{-6}, nil)
	wantPublish(t, b, 0, []api.Property{{Name: "a", Val: text("true")}, {Name: "c", Val: num(1)}, {Name: "d", Val: num(0)}}, nil, nil)
	wantPolls(t, b, 29, 1, 2, 3, 0)
	wantPolls(t, b, 100, 3, 0)
	wantPolls(t, b, -6, 1, 5, 0)
	wantPolls(t, b, 31, 4, 0)
}

func TestP10Full(t *testing.T) {
	b := sieve.New()
	wantSubscribe(t, b, 9, "c", api.OK, 0)
	wantSubscribe(t, b, 2, "c", api.OK, 0)
	for range 3 {
		wantPublish(t, b, 0, example(), []int{2, 9}, nil)
	}
	wantSubscribe(t, b, 5, "c", api.OK, 0)
	wantSubscribe(t, b, 1, "NOT c", api.OK, 0)
	for range 3 {
		wantPublish(t, b, 0, example(), []int{2, 5, 9}, nil)
	}
	for range 3 {
		wantPublish(t, b, 9, example(), []int{2, 5, 9}, []int{2, 9})
	}
	wantPublish(t, b, 9, example(), []int{2, 5, 9}, []int{2, 5, 9})
	wantPublish(t, b, 9, nil, nil, nil) // those who are full and do not match are not named
	wantPolls(t, b, 9, 1)
	wantPublish(t, b, 9, example(), []int{2, 5, 9}, []int{2, 5})
	wantPublish(t, b, 9, example(), []int{2, 5, 9}, []int{2, 5, 9})
	wantPolls(t, b, 2, 1, 2, 3, 4, 5, 6, 0)
	wantPolls(t, b, 5, 7, 8, 9, 4, 5, 6, 0)
	wantPolls(t, b, 9, 12, 2, 3, 4, 5, 6, 0)
	wantPublish(t, b, 0, example(), []int{2, 5, 9}, nil)
	wantPolls(t, b, 5, 14, 0)
}

// TestP10OneMore takes some messages of a full subscription: there is room for so many, and for no more.
func TestP10OneMore(t *testing.T) {
	b := subscribed(t, "TRUE")
	for range 6 {
		wantPublish(t, b, 3, nil, []int{0}, nil)
	}
	for taken := range 7 {
		for range taken {
			b.Poll(0)
		}
		for range taken {
			wantPublish(t, b, 3, nil, []int{0}, nil)
		}
		wantPublish(t, b, 3, nil, []int{0}, []int{0})
	}
}
