package sieve_test

import (
	"math"
	"testing"

	"sieve/api"
	"sieve/sieve"
)

func TestP8New(t *testing.T) {
	b := sieve.New()
	wantState(t, b, 0)
	for _, id := range []int{0, 1, 7, -1, math.MinInt, math.MaxInt} {
		wantNobody(t, b, id)
		wantUnsubscribe(t, b, id, api.ErrId)
	}
	wantState(t, b, 0)
}

// TestP8FirstMessage looks whether the first message of each broker is number 1.
func TestP8FirstMessage(t *testing.T) {
	for range 3 {
		b := subscribed(t, "TRUE")
		wantPolls(t, b, 0, 0)
		wantPublish(t, b, 0, nil, []int{0}, nil)
		wantPolls(t, b, 0, 1, 0)
	}
}

func TestP8NobodyThere(t *testing.T) {
	b := sieve.New()
	wantPublish(t, b, 0, nil, nil, nil)
	wantPublish(t, b, 9, example(), nil, nil)
	wantNoMessage(t, b, 10, nil)
	wantNoMessage(t, b, 0, badEvent())
	wantState(t, b, 0)
}

// TestP8Room looks whether a new broker has room for eight and for 80 terms, whatever others have.
func TestP8Room(t *testing.T) {
	for range 3 {
		b := subscribed(t, joined(0, 20), joined(20, 20), "x", "y", "x", "y", "x", "y")
		wantSubscribe(t, b, 8, "x", api.ErrFull, 0)
	}
}
