package sieve_test

import (
	"math"
	"strings"
	"testing"

	"sieve/api"
	"sieve/sieve"
)

// wrongTexts are no selectors, each with its error and its place.
func wrongTexts() []sample {
	return []sample{
		{text: "", errno: api.ErrSyntax}, {text: "a b", errno: api.ErrSyntax, place: 2}, {text: "a =", errno: api.ErrSyntax, place: 3}, {text: "a LIKE 'x!' ESCAPE '!'", errno: api.ErrSyntax, place: 7}, {text: "a < 9223372036854775808", errno: api.ErrSyntax, place: 4},
		{text: "a AND 1", errno: api.ErrType, place: 2}, {text: "a + 1", errno: api.ErrType}, {text: "NOT 1 = 'x' AND b + 'y' < 2", errno: api.ErrType, place: 6},
		{text: strings.Repeat("(", 13), errno: api.ErrDeep, place: 12}, {text: "a OR " + strings.Repeat("NOT ", 13), errno: api.ErrDeep, place: 53}, {text: strings.Repeat(" ", 201), errno: api.ErrLong}, {text: strings.Repeat("a", 1<<20), errno: api.ErrLong},
	}
}

func TestP9WrongSelectors(t *testing.T) {
	b := sieve.New()
	for _, s := range wrongTexts() {
		wantSubscribe(t, b, 1, s.text, s.errno, s.place)
		wantState(t, b, 0)
		wantNobody(t, b, 1)
	}
	wantSubscribe(t, b, 1, "a > 3", api.OK, 0)
	for _, s := range wrongTexts() {
		wantSubscribe(t, b, 2, s.text, s.errno, s.place)
		wantState(t, b, 3, 1)
	}
	wantPublish(t, b, 0, example(), []int{1}, nil)
}

func TestP9Twice(t *testing.T) {
	b := subscribed(t, "a > 3", "c")
	wantPublish(t, b, 0, example(), []int{0, 1}, nil)
	for _, selector := range []string{"a > 3", "c", "TRUE", "x AND y AND z", joined(0, 28), "a IN ('" + strings.Repeat("x','", 40) + "')"} {
		for id := range 2 {
			wantSubscribe(t, b, id, selector, api.ErrTwice, 0)
			wantState(t, b, 4, 0, 1)
		}
	}
	for _, s := range wrongTexts() {
		wantSubscribe(t, b, 1, s.text, api.ErrTwice, 0)
	}
	wantPublish(t, b, 0, example(), []int{0, 1}, nil)
	wantPolls(t, b, 0, 1, 2, 0)
	wantPolls(t, b, 1, 1, 2, 0)
}

func TestP9AnyNumber(t *testing.T) {
	b := sieve.New()
	ids := []int{math.MaxInt, 0, math.MinInt, -1, 1, 1 << 31, -1 << 31, 1<<32 + 1} // the last one looks like 1 in 32 bits
	for _, id := range ids {
		wantSubscribe(t, b, id, "c", api.OK, 0)
	}
	for _, id := range ids {
		wantSubscribe(t, b, id, "c", api.ErrTwice, 0)
	}
	rising := []int{math.MinInt, -1 << 31, -1, 0, 1, 1 << 31, 1<<32 + 1, math.MaxInt}
	wantState(t, b, 1, rising...)
	wantPublish(t, b, 0, example(), rising, nil)
	for i, id := range rising {
		wantPolls(t, b, id, 1, 0)
		wantUnsubscribe(t, b, id, api.OK)
		wantUnsubscribe(t, b, id, api.ErrId)
		wantState(t, b, min(1, 7-i), rising[i+1:]...)
	}
}

func TestP9Eight(t *testing.T) {
	b := subscribed(t, times(8, "a > 3")...)
	wantPublish(t, b, 0, example(), []int{0, 1, 2, 3, 4, 5, 6, 7}, nil)
	for _, id := range []int{8, 9, -1, math.MinInt, math.MaxInt} {
		for _, selector := range []string{"a > 3", "TRUE", "x", joined(0, 28)} {
			wantSubscribe(t, b, id, selector, api.ErrFull, 0)
		}
		for _, s := range wrongTexts() {
			wantSubscribe(t, b, id, s.text, s.errno, s.place)
		}
		wantSubscribe(t, b, 7, "a > 3", api.ErrTwice, 0)
		wantNobody(t, b, id)
		wantState(t, b, 3, 0, 1, 2, 3, 4, 5, 6, 7)
	}
	wantUnsubscribe(t, b, 3, api.OK)
	wantSubscribe(t, b, 8, "a > 4", api.OK, 0)
	wantSubscribe(t, b, 3, "a > 3", api.ErrFull, 0)
	wantState(t, b, 5, 0, 1, 2, 4, 5, 6, 7, 8)
	wantPolls(t, b, 7, 1, 0)
}

func TestP9Terms(t *testing.T) {
	b := subscribed(t, joined(0, 20), joined(20, 20)) // 78 terms
	event := []api.Property{{Name: "n00", Val: yes}, {Name: "x", Val: yes}}
	wantPublish(t, b, 0, event, []int{0}, nil)
	for _, selector := range []string{"NOT NOT x", "x OR y", "x = 1", "x IS NOT NULL", joined(40, 20)} {
		wantSubscribe(t, b, 2, selector, api.ErrFull, 0)
		wantState(t, b, 78, 0, 1)
		wantNobody(t, b, 2)
	}
	wantSubscribe(t, b, 2, "NOT x", api.OK, 0)
	wantState(t, b, 80, 0, 1, 2)
	wantSubscribe(t, b, 3, "y", api.ErrFull, 0)
	wantSubscribe(t, b, -3, "y", api.ErrFull, 0)
	wantSubscribe(t, b, 3, "y y", api.ErrSyntax, 2)
	wantSubscribe(t, b, 2, "y", api.ErrTwice, 0)
	wantState(t, b, 80, 0, 1, 2)
	wantPublish(t, b, 0, event, []int{0}, nil)
	wantSubscribe(t, b, 3, "x", api.OK, 0) // it has no terms of its own
	wantSubscribe(t, b, -3, joined(20, 20), api.OK, 0)
	wantState(t, b, 80, -3, 0, 1, 2, 3)
	wantPublish(t, b, 0, event, []int{0, 3}, nil)
	wantPolls(t, b, 0, 1, 2, 3, 0)
}

// TestP9TermsAtOnce has selectors that are too great for any broker.
func TestP9TermsAtOnce(t *testing.T) {
	letters := strings.Split("ABCDEFGHIJKLMNOPQRSTUVWXYZabcdefghijklmnopqrs", "")
	b := sieve.New()
	for _, n := range []int{27, 28, 40, 45} {
		wantSubscribe(t, b, 1, "a IN ('"+strings.Join(letters[:n], "','")+"')", api.ErrFull, 0)
		wantState(t, b, 0)
	}
	wantSubscribe(t, b, 1, "a IN ('"+strings.Join(letters[:26], "','")+"')", api.OK, 0)
	wantState(t, b, 78, 1)
	wantPublish(t, b, 0, []api.Property{{Name: "a", Val: text("Z")}}, []int{1}, nil)
	wantPublish(t, b, 0, []api.Property{{Name: "a", Val: text("a")}}, nil, nil)
}

// TestP9TermsGone looks whether those who go take along what nobody else has, and nothing more.
func TestP9TermsGone(t *testing.T) {
	b := subscribed(t, "a > 3 AND c", "3 < a", "NOT c", "b = 'x' OR a > 3")
	wantState(t, b, 10, 0, 1, 2, 3)
	wantUnsubscribe(t, b, 0, api.OK)
	wantState(t, b, 9, 1, 2, 3)
	wantPublish(t, b, 0, example(), []int{1, 3}, nil)
	wantUnsubscribe(t, b, 1, api.OK)
	wantState(t, b, 9, 2, 3)
	wantUnsubscribe(t, b, 2, api.OK)
	wantState(t, b, 7, 3)
	wantPublish(t, b, 0, example(), []int{3}, nil)
	wantSubscribe(t, b, 0, "c", api.OK, 0)
	wantState(t, b, 8, 0, 3)
	wantUnsubscribe(t, b, 3, api.OK)
	wantState(t, b, 1, 0)
	wantPublish(t, b, 0, example(), []int{0}, nil)
	wantUnsubscribe(t, b, 0, api.OK)
	wantState(t, b, 0)
	wantPublish(t, b, 0, example(), nil, nil)
}

// TestP9RoomAgain fills a broker, and again behind those who have gone.
func TestP9RoomAgain(t *testing.T) {
	b := subscribed(t, joined(0, 20), joined(20, 20), "x", "y")
	for i := range 50 {
		from := 100 + 20*(i%5)
		wantSubscribe(t, b, 9, joined(from, 20), api.ErrFull, 0)
		wantUnsubscribe(t, b, 0, api.OK)
		wantState(t, b, 41, 1, 2, 3)
		wantSubscribe(t, b, 9, joined(from, 21), api.ErrFull, 0)
		wantSubscribe(t, b, 9, joined(from, 20), api.OK, 0)
		wantState(t, b, 80, 1, 2, 3, 9)
		wantUnsubscribe(t, b, 9, api.OK)
		wantSubscribe(t, b, 0, joined(0, 20), api.OK, 0)
		wantState(t, b, 80, 0, 1, 2, 3)
	}
}

func TestP9Unsubscribe(t *testing.T) {
	b := subscribed(t, "c", "TRUE", "a > 3")
	wantPublish(t, b, 1, example(), []int{0, 1, 2}, nil)
	wantPublish(t, b, 2, nil, []int{1}, nil)
	for _, id := range []int{3, -1, 4, math.MinInt, math.MaxInt} {
		wantUnsubscribe(t, b, id, api.ErrId)
		wantState(t, b, 5, 0, 1, 2)
	}
	wantUnsubscribe(t, b, 1, api.OK)
	wantUnsubscribe(t, b, 1, api.ErrId)
	wantNobody(t, b, 1)
	wantState(t, b, 4, 0, 2)
	wantPublish(t, b, 0, example(), []int{0, 2}, nil)
	wantPolls(t, b, 2, 1, 3, 0)
	wantPolls(t, b, 0, 1, 3, 0)
}

// TestP9MessagesGone looks whether one that comes again begins without messages.
func TestP9MessagesGone(t *testing.T) {
	b := subscribed(t, "c", "c")
	for range 6 {
		wantPublish(t, b, 5, example(), []int{0, 1}, nil)
	}
	wantUnsubscribe(t, b, 0, api.OK)
	wantSubscribe(t, b, 0, "c", api.OK, 0)
	wantSubscribe(t, b, 2, "c", api.OK, 0)
	wantPolls(t, b, 0, 0, 0)
	wantPolls(t, b, 2, 0)
	wantPublish(t, b, 0, example(), []int{0, 1, 2}, []int{1})
	wantPolls(t, b, 0, 7, 0)
	wantPolls(t, b, 1, 1, 2, 3, 4, 5, 6, 0)
	wantPolls(t, b, 2, 7, 0)
}

// TestP9InBetween has subscriptions come and go on both sides of one that has messages.
func TestP9InBetween(t *testing.T) {
	b := sieve.New()
	wantSubscribe(t, b, 50, "c", api.OK, 0)
	wantPublish(t, b, 3, example(), []int{50}, nil)
	wantSubscribe(t, b, 10, "a = 5", api.OK, 0)
	wantSubscribe(t, b, 90, "b = 'x'", api.OK, 0)
	wantPublish(t, b, 4, example(), []int{10, 50, 90}, nil)
	wantSubscribe(t, b, 20, "d", api.OK, 0)
	wantUnsubscribe(t, b, 10, api.OK)
	wantPublish(t, b, 3, example(), []int{50, 90}, nil)
	wantUnsubscribe(t, b, 20, api.OK)
	wantUnsubscribe(t, b, 90, api.OK)
	wantSubscribe(t, b, 10, "c", api.OK, 0)
	wantState(t, b, 1, 10, 50)
	wantPublish(t, b, 9, example(), []int{10, 50}, nil)
	wantPolls(t, b, 50, 4, 2, 1, 3, 0)
	wantPolls(t, b, 10, 4, 0)
}
