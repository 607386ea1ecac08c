package sieve_test

import (
	"math"
	"math/rand"
	"slices"
	"strings"
	"testing"

	"sieve/api"
	"sieve/sieve"
)

// badEvent is none: its one property has no name.
func badEvent() []api.Property { return []api.Property{{}} }

func TestP1FirstError(t *testing.T) {
	deep := strings.Repeat("(", 13)
	for _, c := range []struct {
		selector string
		want     api.Errno
		at       int
	}{
		{deep + "# 1 AND 'x'" + strings.Repeat(" ", 200), api.ErrLong, 0},
		{"1 AND 'x' #", api.ErrSyntax, 10},
		{"1 AND 'x' AND", api.ErrSyntax, 13},
		{"1 AND 'x' AND " + deep, api.ErrDeep, 26},
		{"# " + deep, api.ErrSyntax, 0},
		{deep + " #", api.ErrDeep, 12},
		{"1 AND 'x'", api.ErrType, 2},
		{"'x' AND (1 = 'x')", api.ErrType, 11},
		{"c", api.ErrEvent, 0},
		{"TRUE", api.ErrEvent, 0},
	} {
		wantError(t, c.selector, badEvent(), c.want, c.at)
	}
}

func TestP1Great(t *testing.T) {
	for _, size := range []int{201, 1 << 20} {
		for _, piece := range []string{"(", "a", " ", "NOT ", "-", "'", "9", "\x00"} {
			wantError(t, strings.Repeat(piece, size), example(), api.ErrLong, 0)
		}
	}
	wantError(t, "c", make([]api.Property, 1<<20), api.ErrEvent, 0)
	long := strings.Repeat("a", 1<<20)
	wantError(t, "c", []api.Property{{Name: long}}, api.ErrEvent, 0)
	wantError(t, "c", []api.Property{{Name: "a", Val: text(long)}}, api.ErrEvent, 0)
	wantError(t, "c", []api.Property{{Name: "a", Val: api.Value{Kind: 1 << 62, Num: -1 << 63, Str: long}}}, api.ErrEvent, 0)
}

// soup gives a text of tokens, pieces of tokens and odd bytes.
func soup(r *rand.Rand) string {
	pieces := []string{"AND", "or", "NOT", "TRUE", "false", "BETWEEN", "IN", "LIKE", "ESCAPE", "IS", "NULL", "a", "b", "c", "d", "=", "<>", "<", "<=", ">", ">=", "+", "-", "*", "/", "(", ")", ",", "'x'", "'%_!'", "'!'", "'", "''", "1", "9223372036854775807", "9223372036854775808", "#", ".", "\x00", "\xff", "\r"}
	out := ""
	for range r.Intn(30) {
		out += pieces[r.Intn(len(pieces))] + strings.Repeat(" ", r.Intn(3)/2+r.Intn(2))
	}
	return out
}

func someValue(r *rand.Rand) api.Value {
	strs := []string{"", "", "", "x", "%", "12345678901234567890", "123456789012345678901"}
	nums := []int64{0, 0, 1, 2, -1, -1 << 63, 1<<63 - 1}
	return api.Value{Kind: r.Intn(6) - 1, Num: nums[r.Intn(len(nums))], Str: strs[r.Intn(len(strs))]}
}

func someEvent(r *rand.Rand) []api.Property {
	names := []string{"a", "b", "c", "d", "e", "f", "g", "h", "i", "A", "and", "", "1", "aaaaaaaaaaaaaaaaa"}
	var out []api.Property
	for range r.Intn(10) {
		out = append(out, api.Property{Name: names[r.Intn(len(names))], Val: someValue(r)})
	}
	return out
}

// TestP1Anything looks at what every answer must keep to, whatever came in.
func TestP1Anything(t *testing.T) {
	r := rand.New(rand.NewSource(1))
	for range 200000 {
		selector, event := soup(r), someEvent(r)
		v, errno, place := sieve.Eval(selector, event)
		ok := false
		switch errno {
		case api.OK:
			ok = place == 0
		case api.ErrLong:
			ok = v == null && place == 0 && len(selector) > 200
		case api.ErrSyntax, api.ErrDeep, api.ErrType:
			ok = v == null && place >= 0 && place <= len(selector)
		case api.ErrEvent:
			ok = v == null && place == 0
		}
		if !ok {
			t.Fatalf("Eval(%q, %v) = %v, %d, %d", selector, event, v, errno, place)
		}
	}
}

// TestP1AnyTexts does the same for Canon, Compile and Run.
func TestP1AnyTexts(t *testing.T) {
	r := rand.New(rand.NewSource(2))
	for range 50000 {
		var texts []string
		for range r.Intn(11) {
			texts = append(texts, []string{soup(r), "a", "b = 'x'", "NOT c"}[r.Intn(4)])
		}
		for _, s := range texts {
			canon, errno, place := sieve.Canon(s)
			_, wantErrno, wantPlace := sieve.Eval(s, nil)
			if errno != wantErrno || place != wantPlace || (canon == "") != (errno != api.OK) {
				t.Fatalf("Canon(%q) = %q, %d, %d, want %d, %d", s, canon, errno, place, wantErrno, wantPlace)
			}
		}
		code, errno, number := sieve.Compile(texts)
		if errno != api.OK && (len(code) != 0 || number < 0 || number >= len(texts)) || errno == api.OK && number != 0 {
			t.Fatalf("Compile(%q): %d bytes, %d, %d", texts, len(code), errno, number)
		}
		event := someEvent(r)
		met, runErrno := sieve.Run(code, event)
		if _, errno, _ := sieve.Eval("TRUE", event); errno != api.OK && (runErrno != errno || len(met) != 0) {
			t.Fatalf("Run over %v: %v, %d, want %d", event, met, runErrno, errno)
		}
	}
}

func TestP1GreatTexts(t *testing.T) {
	for _, piece := range []string{"(", "a", " ", "NOT ", "-", "'", "9", "\x00"} {
		great := strings.Repeat(piece, 1<<20)
		if canon, errno, place := sieve.Canon(great); canon != "" || errno != api.ErrLong || place != 0 {
			t.Errorf("Canon of a great text: %d bytes, %d, %d", len(canon), errno, place)
		}
		wantRefused(t, api.ErrLong, 1, "a", great)
	}
}

// TestP1Cut cuts a selector with every kind of term off at each of its bytes.
func TestP1Cut(t *testing.T) {
	for _, selector := range []string{
		"NOT (a + 1 * -2 >= 3 / d) AND b NOT IN ('x', 'y''') OR c = TRUE",
		"b LIKE '%!%_' ESCAPE '!' OR d IS NOT NULL AND a NOT BETWEEN - 1 AND (5)",
	} {
		wantValue(t, selector, nil, null)
		for end := range len(selector) {
			for _, piece := range []string{selector[:end], selector[end:]} {
				_, errno, place := sieve.Eval(piece, example())
				canon, canonErrno, canonPlace := sieve.Canon(piece)
				if canonErrno != errno || canonPlace != place || (canon == "") != (errno != api.OK) {
					t.Errorf("Canon(%q) = %q, %d, %d, want %d, %d", piece, canon, canonErrno, canonPlace, errno, place)
				}
				if errno != api.OK {
					wantRefused(t, errno, 1, "a", piece)
				}
			}
		}
	}
}

// TestP1AnyCalls calls a broker with anything: an error leaves all as it was.
func TestP1AnyCalls(t *testing.T) {
	r := rand.New(rand.NewSource(3))
	ids := []int{0, 1, 2, 3, 4, 5, -1, 1 << 40, math.MinInt, math.MaxInt}
	for range 500 {
		b := sieve.New()
		for range 200 {
			nodes, live := b.Nodes(), b.Live()
			id, errno, rest := ids[r.Intn(len(ids))], api.OK, 0
			switch r.Intn(6) {
			case 0:
				selector := []string{soup(r), "a", "b = 'x'", "NOT c", joined(r.Intn(40), 20)}[r.Intn(5)]
				place := 0
				errno, place = b.Subscribe(id, selector)
				if place < 0 || place > len(selector) || place > 0 && errno != api.ErrSyntax && errno != api.ErrDeep && errno != api.ErrType {
					t.Fatalf("Subscribe(%d, %q) = %d, %d", id, selector, errno, place)
				}
			case 1:
				errno = b.Unsubscribe(id)
			case 2:
				rest, errno = b.Poll(id)
			default:
				var met, full []int
				met, full, errno = b.Publish(r.Intn(12)-1, someEvent(r))
				rest = len(met) + len(full)
			}
			if errno != api.OK && (rest != 0 || b.Nodes() != nodes || !slices.Equal(b.Live(), live)) {
				t.Fatalf("with the error %d: %d, %d terms, %v, before %d, %v", errno, rest, b.Nodes(), b.Live(), nodes, live)
			}
		}
	}
}

// TestP1GreatCalls calls a broker with great texts and lists.
func TestP1GreatCalls(t *testing.T) {
	b := subscribed(t, "TRUE")
	for _, piece := range []string{"(", "a", " ", "NOT ", "-", "'", "9", "\x00"} {
		great := strings.Repeat(piece, 1<<20)
		wantSubscribe(t, b, 1, great, api.ErrLong, 0)
		wantSubscribe(t, b, 0, great, api.ErrTwice, 0)
		wantNoMessage(t, b, 0, []api.Property{{Name: great}})
		wantNoMessage(t, b, 0, []api.Property{{Name: "a", Val: text(great)}})
	}
	wantNoMessage(t, b, 0, make([]api.Property, 1<<20))
	wantState(t, b, 1, 0)
	wantPolls(t, b, 0, 0)
}

// TestP1ManyMessages publishes far more messages than anybody has room for.
func TestP1ManyMessages(t *testing.T) {
	b := subscribed(t, "TRUE", "c")
	for range 1 << 17 {
		b.Publish(0, nil)
	}
	wantPublish(t, b, 9, example(), []int{0, 1}, []int{0})
	wantPolls(t, b, 1, 1<<17+1, 0)
	wantPolls(t, b, 0, 1, 2, 3, 4, 5, 6, 0)
}
