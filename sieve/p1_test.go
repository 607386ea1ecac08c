package sieve_test

import (
	"math/rand"
	"strings"
	"testing"

	"sieve/api"
	"sieve/sieve"
)

// badEvent is none: its one property has no name.
func badEvent() []api.Property { return []api.Property{{}} }

func TestP1FirstError(t *testing.T) {
	deep := strings.Repeat("(", 13)
	for _, c := range []struct {
		selector string
		want     api.Errno
		at       int
	}{
		{deep + "# 1 AND 'x'" + strings.Repeat(" ", 200), api.ErrLong, 0},
		{"1 AND 'x' #", api.ErrSyntax, 10},
		{"1 AND 'x' AND", api.ErrSyntax, 13},
		{"1 AND 'x' AND " + deep, api.ErrDeep, 26},
		{"# " + deep, api.ErrSyntax, 0},
		{deep + " #", api.ErrDeep, 12},
		{"1 AND 'x'", api.ErrType, 2},
		{"'x' AND (1 = 'x')", api.ErrType, 11},
		{"c", api.ErrEvent, 0},
		{"TRUE", api.ErrEvent, 0},
	} {
		wantError(t, c.selector, badEvent(), c.want, c.at)
	}
}

func TestP1Great(t *testing.T) {
	for _, size := range []int{201, 1 << 20} {
		for _, piece := range []string{"(", "a", " ", "NOT ", "-", "'", "9", "\x00"} {
			wantError(t, strings.Repeat(piece, size), example(), api.ErrLong, 0)
		}
	}
	wantError(t, "c", make([]api.Property, 1<<20), api.ErrEvent, 0)
	long := strings.Repeat("a", 1<<20)
	wantError(t, "c", []api.Property{{Name: long}}, api.ErrEvent, 0)
	wantError(t, "c", []api.Property{{Name: "a", Val: text(long)}}, api.ErrEvent, 0)
	wantError(t, "c", []api.Property{{Name: "a", Val: api.Value{Kind: 1 << 62, Num: -1 << 63, Str: long}}}, api.ErrEvent, 0)
}

// soup gives a text of tokens, pieces of tokens and odd bytes.
func soup(r *rand.Rand) string {
	pieces := []string{"AND", "or", "NOT", "TRUE", "false", "BETWEEN", "IN", "LIKE", "ESCAPE", "IS", "NULL", "a", "b", "c", "d", "=", "<>", "<", "<=", ">", ">=", "+", "-", "*", "/", "(", ")", ",", "'x'", "'%_!'", "'!'", "'", "''", "1", "9223372036854775807", "9223372036854775808", "#", ".", "\x00", "\xff", "\r"}
	out := ""
	for range r.Intn(30) {
		out += pieces[r.Intn(len(pieces))] + strings.Repeat(" ", r.Intn(3)/2+r.Intn(2))
	}
	return out
}

func someValue(r *rand.Rand) api.Value {
	strs := []string{"", "", "", "x", "%", "12345678901234567890", "123456789012345678901"}
	nums := []int64{0, 0, 1, 2, -1, -1 << 63, 1<<63 - 1}
	return api.Value{Kind: r.Intn(6) - 1, Num: nums[r.Intn(len(nums))], Str: strs[r.Intn(len(strs))]}
}

func someEvent(r *rand.Rand) []api.Property {
	names := []string{"a", "b", "c", "d", "e", "f", "g", "h", "i", "A", "and", "", "1", "aaaaaaaaaaaaaaaaa"}
	var out []api.Property
	for range r.Intn(10) {
		out = append(out, api.Property{Name: names[r.Intn(len(names))], Val: someValue(r)})
	}
	return out
}

// TestP1Anything looks at what every answer must keep to, whatever came in.
func TestP1Anything(t *testing.T) {
	r := rand.New(rand.NewSource(1))
	for range 200000 {
		selector, event := soup(r), someEvent(r)
		v, errno, place := sieve.Eval(selector, event)
		ok := false
		switch errno {
		case api.OK:
			ok = place == 0
		case api.ErrLong:
			ok = v == null && place == 0 && len(selector) > 200
		case api.ErrSyntax, api.ErrDeep, api.ErrType:
			ok = v == null && place >= 0 && place <= len(selector)
		case api.ErrEvent:
			ok = v == null && place == 0
		}
		if !ok {
			t.Fatalf("Eval(%q, %v) = %v, %d, %d", selector, event, v, errno, place)
		}
	}
}

// TestP1Cut cuts a selector with every kind of term off at each of its bytes.
func TestP1Cut(t *testing.T) {
	for _, selector := range []string{
		"NOT (a + 1 * -2 >= 3 / d) AND b NOT IN ('x', 'y''') OR c = TRUE",
		"b LIKE '%!%_' ESCAPE '!' OR d IS NOT NULL AND a NOT BETWEEN - 1 AND (5)",
	} {
		wantValue(t, selector, nil, null)
		for end := range len(selector) {
			sieve.Eval(selector[:end], example())
			sieve.Eval(selector[end:], example())
		}
	}
}
